import PyProof.Rows.All
import Wide.All
import OpenK.AllK
import Wide.FinOn
import HandS.ForMost
import HandS.IsInst
import HandS.Wide
import HandS.Walk
import HandS.TupAny
import HandS.Style
import HandS.Defaults
import HandS.MakeKw
import KE.IntTextLaws
import HandS.OwnEq
import HandS.ExcInit
import HandS.ExcField
import HandS.ExcIs
import HandS.ExcOwn
import HandS.WordsExc
import KE.KExcIs
import HandS.MakeKwOnly
import KE.KExcInit
import HandS.TryMany
import HandS.FStr
import PyProof.InstSpecial
import PyProof.FString2
import KE.KCallOwn
import HandS.FStrTup
import HandS.Flow
import HandS.Iter
import KE.GoesEnum
import HandS.Deep
import PyProof.ReprRoads
import HandS.Ends
import PyProof.Conv_bool
import HandS.DictSub
import HandS.TupLe
import HandS.StrMore
import HandS.WideBits
import PySem.Challenge.RW_pearlrise_k23_whole_strings_told_and_sho
set_option Elab.async false
set_option linter.all false
set_option maxRecDepth 100000
set_option maxHeartbeats 4000000
namespace KA
open PySem PySem.Spec PyProof.Rows L2
/-! ### heaps -/
theorem same_upd {H : Hp} {p : Addr} {o : HO} (h : H p = none) : Same H (upd H p o) := fun b x e => by
  rw [upd_ne (ne_of_none e h)]
  exact e
/-- all but what stands at d is as it was -/
def But (d : Addr) (H H' : Hp) : Prop := ∀ b o, b ≠ d → H b = some o → H' b = some o
theorem But.refl (d : Addr) (H : Hp) : But d H H := fun _ _ _ h => h
theorem But.trans {d : Addr} {H H1 H2 : Hp} (a : But d H H1) (b : But d H1 H2) : But d H H2 := fun c o n h => b c o n (a c o n h)
theorem But.of {d : Addr} {H H' : Hp} (s : Same H H') : But d H H' := fun b o _ h => s b o h
theorem But.at_ {d : Addr} {H : Hp} {o : HO} : But d H (upd H d o) := fun b x n h => by
  rw [upd_ne n]
  exact h
theorem But.new {d p : Addr} {H : Hp} {o : HO} (h : H p = none) : But d H (upd H p o) := But.of (same_upd h)
theorem But.same {d : Addr} {H0 H H' : Hp} (h0 : H0 d = none) (s : Same H0 H) (b : But d H H') : Same H0 H' := fun c o h => b c o (ne_of_none h h0) (s c o h)
theorem But.mut {d : Addr} {H0 H : Hp} {o : HO} {p : Addr} (b : But d H0 H) (h : H0 p = none) : But d H0 (upd H p o) := fun c x n e => by
  rw [upd_ne (ne_of_none e h)]
  exact b c x n e
theorem But.free {d p : Addr} {H H' : Hp} (b : But d H H') (n : p ≠ d) (h : H' p = none) : H p = none := by
  cases q : H p with
  | none => rfl
  | some o =>
    rw [b p o n q] at h
    cases h
theorem but_seq {K : PySem.W.Frag} {d a : Addr} {H H' : Hp} {xs : List V} (b : But d H H') (n : a ≠ d) (h : SqL K H a xs) : SqL K H' a xs := by
  rcases h with (h | ⟨o, h⟩) | h
  · exact .inl (.inl (b _ _ n h))
  · exact .inl (.inr ⟨o, b _ _ n h⟩)
  · exact .inr h
/-- the draws' list at d, its counter at most n -/
def Dr (P : Int → Prop) (d : Addr) (n : Nat) (H : Hp) : Prop := ∃ a b c : Int, H d = some (.lst [.int a, .int b, .int c]) ∧ P b ∧ 0 ≤ c ∧ c ≤ n
theorem Dr.same {P : Int → Prop} {d : Addr} {n : Nat} {H H' : Hp} (h : Dr P d n H) (s : Same H H') : Dr P d n H' := by
  obtain ⟨a, b, c, e, r⟩ := h
  exact ⟨a, b, c, s _ _ e, r⟩
theorem Dr.ne {P : Int → Prop} {d p : Addr} {n : Nat} {H : Hp} (h : Dr P d n H) (e : H p = none) : p ≠ d := by
  obtain ⟨a, b, c, z, _⟩ := h
  exact (ne_of_none z e).symm
theorem Dr.mono {P : Int → Prop} {d : Addr} {n m : Nat} {H : Hp} (h : Dr P d n H) (e : n ≤ m) : Dr P d m H := by
  obtain ⟨a, b, c, z, h1, h3, h4⟩ := h
  exact ⟨a, b, c, z, h1, h3, by omega⟩
theorem Dr.upd {P : Int → Prop} {d p : Addr} {n : Nat} {H : Hp} {o : HO} (h : Dr P d n H) (e : p ≠ d) : Dr P d n (L2.upd H p o) := by
  obtain ⟨a, b, c, z, r⟩ := h
  exact ⟨a, b, c, by rw [upd_ne e.symm]; exact z, r⟩
theorem yesT {σ : L2.St} {H : Hp} {A B : Hp → Prop} (h : A H) : tYes σ H (fun b H3 => if b = true then A H3 else B H3) := by
  show if true = true then A H else B H
  exact iteT h
/-! ### what is no own object -/
inductive Th (K : PySem.W.Frag) (H : Hp) : V → Prop
  | int (i : Int) : Th K H (.int i)
  | bl (b : Bool) : Th K H (.bl b)
  | str (z : Str) : Th K H (.str z)
  | non : Th K H .non
  | lst {a : Addr} (h : TyX K H (.ref a) (.type "list")) : Th K H (.ref a)
  | tup {a : Addr} (h : TyX K H (.ref a) (.type "tuple")) : Th K H (.ref a)
  | dct {a : Addr} (h : TyX K H (.ref a) (.type "dict")) : Th K H (.ref a)
def isI : V → Bool
  | .int _ => true
  | _ => false
def isB : V → Bool
  | .bl _ => true
  | _ => false
def isS : V → Bool
  | .str _ => true
  | _ => false
theorem isi_int {K : PySem.W.Frag} {H : Hp} {v : V} (h : Th K H v) : ∃ t, TyX K H v t ∧ PySem.W.kitOne K t (.type "int") = some (isI v || isB v) := by
  cases h with
  | int i => exact ⟨_, .base (.int i), kit_ty (r := true) (by decide +kernel)⟩
  | bl b => exact ⟨_, .base (.bl b), kit_ty (r := true) (by decide +kernel)⟩
  | str z => exact ⟨_, .base (.str z), kit_ty (r := false) (by decide +kernel)⟩
  | non => exact ⟨_, .base .non, kit_ty (r := false) (by decide +kernel)⟩
  | lst h => exact ⟨_, h, kit_ty (r := false) (by decide +kernel)⟩
  | tup h => exact ⟨_, h, kit_ty (r := false) (by decide +kernel)⟩
  | dct h => exact ⟨_, h, kit_ty (r := false) (by decide +kernel)⟩
theorem isi_bool {K : PySem.W.Frag} {H : Hp} {v : V} (h : Th K H v) : ∃ t, TyX K H v t ∧ PySem.W.kitOne K t (.type "bool") = some (isB v) := by
  cases h with
  | int i => exact ⟨_, .base (.int i), kit_ty (r := false) (by decide +kernel)⟩
  | bl b => exact ⟨_, .base (.bl b), kit_ty (r := true) (by decide +kernel)⟩
  | str z => exact ⟨_, .base (.str z), kit_ty (r := false) (by decide +kernel)⟩
  | non => exact ⟨_, .base .non, kit_ty (r := false) (by decide +kernel)⟩
  | lst h => exact ⟨_, h, kit_ty (r := false) (by decide +kernel)⟩
  | tup h => exact ⟨_, h, kit_ty (r := false) (by decide +kernel)⟩
  | dct h => exact ⟨_, h, kit_ty (r := false) (by decide +kernel)⟩
theorem isi_str {K : PySem.W.Frag} {H : Hp} {v : V} (h : Th K H v) : ∃ t, TyX K H v t ∧ PySem.W.kitOne K t (.type "str") = some (isS v) := by
  cases h with
  | int i => exact ⟨_, .base (.int i), kit_ty (r := false) (by decide +kernel)⟩
  | bl b => exact ⟨_, .base (.bl b), kit_ty (r := false) (by decide +kernel)⟩
  | str z => exact ⟨_, .base (.str z), kit_ty (r := true) (by decide +kernel)⟩
  | non => exact ⟨_, .base .non, kit_ty (r := false) (by decide +kernel)⟩
  | lst h => exact ⟨_, h, kit_ty (r := false) (by decide +kernel)⟩
  | tup h => exact ⟨_, h, kit_ty (r := false) (by decide +kernel)⟩
  | dct h => exact ⟨_, h, kit_ty (r := false) (by decide +kernel)⟩
/-! ### signs -/
def lower (c : Nat) : Bool := decide (97 ≤ c) && decide (c ≤ 122)
def figure (c : Nat) : Bool := decide (48 ≤ c) && decide (c ≤ 57)
theorem sgl_lt (a b : Nat) : (([a] : List Nat) < [b]) ↔ a < b := by
  rw [List.cons_lt_cons_iff]
  simp
theorem ge_a (c : Nat) : (!decide ((⟨#[c]⟩ : Str).cps.toList < ("a" : Str).cps.toList)) = decide (97 ≤ c) := by
  have e : ("a" : Str).cps.toList = [97] := by decide +kernel
  rw [e]
  show (!decide ([c] < [97])) = _
  rw [decide_eq_decide.mpr (sgl_lt c 97), ← decide_not, decide_eq_decide]
  omega
theorem le_z (c : Nat) : (!decide (("z" : Str).cps.toList < (⟨#[c]⟩ : Str).cps.toList)) = decide (c ≤ 122) := by
  have e : ("z" : Str).cps.toList = [122] := by decide +kernel
  rw [e]
  show (!decide ([122] < [c])) = _
  rw [decide_eq_decide.mpr (sgl_lt 122 c), ← decide_not, decide_eq_decide]
  omega
theorem in_az (c : Nat) : decide (c ∈ ("abcdefghijklmnopqrstuvwxyz" : Str).cps.toList) = lower c := by
  have e : ("abcdefghijklmnopqrstuvwxyz" : Str).cps.toList = (List.range 26).map (· + 97) := by decide +kernel
  unfold lower
  rw [e, ← Bool.decide_and, decide_eq_decide, List.mem_map]
  constructor
  · rintro ⟨a, ha, rfl⟩
    rw [List.mem_range] at ha
    omega
  · intro h
    exact ⟨c - 97, List.mem_range.mpr (by omega), by omega⟩
theorem in_09 (c : Nat) : decide (c ∈ ("0123456789" : Str).cps.toList) = figure c := by
  have e : ("0123456789" : Str).cps.toList = (List.range 10).map (· + 48) := by decide +kernel
  unfold figure
  rw [e, ← Bool.decide_and, decide_eq_decide, List.mem_map]
  constructor
  · rintro ⟨a, ha, rfl⟩
    rw [List.mem_range] at ha
    omega
  · intro h
    exact ⟨c - 48, List.mem_range.mpr (by omega), by omega⟩
/-! ### numbers by figures -/
open NumText TL
theorem fold_lt : ∀ (cs : List Nat) (a : Nat), AllDigits cs → a * 10 ^ cs.length ≤ cs.foldl (fun acc c => acc * 10 + (c - 48)) a ∧ cs.foldl (fun acc c => acc * 10 + (c - 48)) a < (a + 1) * 10 ^ cs.length
  | [], a, _ => by simp
  | c :: cs, a, h => by
    have hc := h.head
    have ih := fold_lt cs (a * 10 + (c - 48)) h.tail
    rw [List.foldl_cons, List.length_cons, Nat.pow_succ]
    have p : 0 < 10 ^ cs.length := Nat.pos_of_ne_zero (by simp)
    generalize 10 ^ cs.length = q at *
    refine ⟨Nat.le_trans ?_ ih.1, Nat.lt_of_lt_of_le ih.2 ?_⟩
    · have : a * (q * 10) = (a * 10) * q := by rw [Nat.mul_comm q 10, ← Nat.mul_assoc]
      rw [this]
      exact Nat.mul_le_mul_right q (by omega)
    · have : (a + 1) * (q * 10) = ((a + 1) * 10) * q := by rw [Nat.mul_comm q 10, ← Nat.mul_assoc]
      rw [this]
      exact Nat.mul_le_mul_right q (by omega)
theorem val_lt {cs : List Nat} (h : AllDigits cs) : digitsVal cs < 10 ^ cs.length := by
  have := (fold_lt cs 0 h).2
  rw [Nat.zero_add, Nat.one_mul] at this
  exact this
theorem val_ge {c : Nat} {cs : List Nat} (h : AllDigits (c :: cs)) (hc : c ≠ 48) : 10 ^ cs.length ≤ digitsVal (c :: cs) := by
  have h1 := h.head
  have := (fold_lt cs (0 * 10 + (c - 48)) h.tail).1
  refine Nat.le_trans ?_ this
  have : 1 * 10 ^ cs.length ≤ (0 * 10 + (c - 48)) * 10 ^ cs.length := Nat.mul_le_mul_right _ (by omega)
  omega
theorem val_zero {cs : List Nat} : digitsVal (48 :: cs) = digitsVal cs := rfl
/-- the figures of a number have as many signs as the word just where it has no nought ahead of others -/
theorem len_canon {c : Nat} {cs : List Nat} (h : AllDigits (c :: cs)) : (numL (digitsVal (c :: cs))).length = (c :: cs).length ↔ ¬ (c = 48 ∧ 1 < (c :: cs).length) := by
  constructor
  · rintro e ⟨rfl, hl⟩
    rw [val_zero] at e
    rw [List.length_cons] at e hl
    have := numL_len (n := digitsVal cs) (k := cs.length) (by omega) (val_lt h.tail)
    omega
  · intro hn
    by_cases hc : c = 48
    · subst hc
      have : cs = [] := by
        cases cs with
        | nil => rfl
        | cons d r =>
          exact absurd ⟨rfl, by rw [List.length_cons, List.length_cons]; omega⟩ hn
      subst this
      rw [val_zero]
      show (numL 0).length = 1
      rw [numL_lt (by decide)]
      rfl
    · have u := numL_len (n := digitsVal (c :: cs)) (k := (c :: cs).length) (by rw [List.length_cons]; omega) (val_lt h)
      have l := val_ge h hc
      have v := val_lt (numL_digits (digitsVal (c :: cs)))
      rw [numL_val] at v
      have w : 10 ^ cs.length < 10 ^ (numL (digitsVal (c :: cs))).length := Nat.lt_of_le_of_lt l v
      have := (Nat.pow_lt_pow_iff_right (by decide : 1 < 10)).mp w
      rw [List.length_cons] at *
      omega
/-- words of figures of one length and one worth are one -/
theorem fold_inj : ∀ (cs ds : List Nat) (a b : Nat), AllDigits cs → AllDigits ds → cs.length = ds.length → cs.foldl (fun acc c => acc * 10 + (c - 48)) a = ds.foldl (fun acc c => acc * 10 + (c - 48)) b → a = b ∧ cs = ds
  | [], [], a, b, _, _, _, e => ⟨e, rfl⟩
  | [], _ :: _, _, _, _, _, l, _ => by simp at l
  | _ :: _, [], _, _, _, _, l, _ => by simp at l
  | c :: cs, d :: ds, a, b, h1, h2, l, e => by
    have q := fold_inj cs ds (a * 10 + (c - 48)) (b * 10 + (d - 48)) h1.tail h2.tail (by simpa using l) e
    have hc := h1.head
    have hd := h2.head
    have e1 := q.1
    have : a = b ∧ c = d := by omega
    exact ⟨this.1, by rw [this.2, q.2]⟩
theorem canon_eq {c : Nat} {cs : List Nat} (h : AllDigits (c :: cs)) (hn : ¬ (c = 48 ∧ 1 < (c :: cs).length)) : numL (digitsVal (c :: cs)) = c :: cs :=
  (fold_inj _ _ 0 0 (numL_digits _) h ((len_canon h).mpr hn) (numL_val _)).2
section
variable {X : Cx}
/-- a text many times -/
def timesS (z : Str) (n : Nat) : Str := ⟨(List.replicate n z.cps).foldl (· ++ ·) #[]⟩
theorem times_fold (c : Nat) : ∀ (n : Nat) (a : Array Nat), ((List.replicate n #[c]).foldl (· ++ ·) a).toList = a.toList ++ List.replicate n c
  | 0, a => by simp
  | n + 1, a => by
    rw [List.replicate_succ, List.foldl_cons, times_fold c n (a ++ #[c]), Array.toList_append, List.append_assoc]
    rfl
theorem times_list {z : Str} {c n : Nat} (h : z.cps = #[c]) : (timesS z n).cps.toList = List.replicate n c := by
  unfold timesS
  show ((List.replicate n z.cps).foldl (· ++ ·) #[]).toList = _
  rw [h, times_fold c n #[]]
  rfl
theorem times_len {z : Str} {c n : Nat} (h : z.cps = #[c]) : (timesS z n).length = n := by
  show (timesS z n).cps.size = n
  rw [← Array.length_toList, times_list h, List.length_replicate]
theorem op_mulS : OpR X (binaryOp .Mult) (fun x y H Q => ∃ (z : Str) (k : Int), x = .str z ∧ y = .int k ∧ 2 ≤ k ∧ k ≤ 100000 ∧ (∃ c, z.cps = #[c]) ∧ Q (.str (timesS z k.toNat)) H) := by
  intro pins s σ H x y v u Q I rx ry h
  obtain ⟨z, k, rfl, rfl, h2, h3, ⟨c, hc⟩, q⟩ := h
  have hz : z.length = 1 := by
    show z.cps.size = 1
    rw [hc]
    rfl
  obtain ⟨t, rfl⟩ := rx
  obtain ⟨t', rfl⟩ := ry
  refine PySem.P.mul_str ?_ ?_ ?_ ?_
  · rw [decide_eq_false (by omega), decide_eq_false (by omega)]
    rfl
  · intro _ _
    rw [hz]
    have : (1 : Int) ≤ (2 ^ 63 - 1) / k := by
      have : (2 ^ 63 - 1 : Int) / k ≥ 1 := (Int.le_ediv_iff_mul_le (by omega)).mpr (by omega)
      exact this
    omega
  · intro _ _
    rw [hz]
    exact decide_eq_false (by
      have : (100000 : Nat) ≤ sizeLine := by decide
      show ¬ _ > _
      omega)
  · have hk1 : (k == 1) = false := by
      rw [beq_eq_false_iff_ne]
      omega
    rw [if_neg (by omega), if_neg (by rw [hk1, hz]; decide)]
    refine ⟨?_, ⟨.str (timesS z k.toNat), H, I.tok _, ⟨_, rfl⟩, q⟩⟩
    have e := times_len (n := k.toNat) hc
    have : (100000 : Nat) ≤ sizeLine := by decide
    show (timesS z k.toNat).length ≤ sizeLine
    omega
end

/-! ### comprehensions over a text -/
/-- [truth of each sign] -/
theorem lc_all {z : Str} {H : Hp} {D : Addr} (hD : H D = none) (hz : z.length ≤ 100000) (f : Nat → Bool) {g : TG} {tt : TT} {te : TE} {vs : List Nat} {σ : L2.St} {Qd : Hp → Prop}
    (turn : ∀ (c : Nat) (H2 : Hp) (R : V → Hp → Prop) (C : Hp → Prop), Same H H2 → R (.bl (f c)) H2 → g (.str ⟨#[c]⟩) (wipe σ vs) H2 fun σ2 H2 => wipe σ2 vs = wipe σ vs ∧ tt σ2 H2 fun b H3 => if b = true then te σ2 H3 R else C H3)
    (fin : ∀ H', Same H H' → H' D = some (.lst ((z.cps.toList.map f).map V.bl)) → Qd H') :
    ∃ W : Nat → Nat → Hp → Prop, (∃ m, W 0 m (upd H D (.lst []))) ∧ ∀ i m H, W i m H →
      ((Its z).stop i H ∧ Qd H) ∨ ((Its z).go i H ∧ ∃ Nx : Hp → Prop, (∀ H', Nx H' → ∃ m', m' < m ∧ W (i + 1) m' H') ∧ ∀ x H', (Its z).yld i H x H' → g x (wipe σ vs) H' fun σ2 H2 => wipe σ2 vs = wipe σ vs ∧ tt σ2 H2 fun b H3 =>
        if b = true then te σ2 H3 fun y H4 => ∃ acc, H4 D = some (.lst acc) ∧ acc.length < sizeLine ∧ Nx (upd H4 D (.lst (acc ++ [y]))) else Nx H3) := by
  have hzl : z.length ≤ sizeLine := Nat.le_trans hz (by decide)
  refine lc_it walk_str (fun i H' => Same H H' ∧ H' D = some (.lst (((z.cps.toList.take i).map f).map V.bl))) ⟨same_upd hD, upd_same⟩ (fun _ _ _ _ => trivial) ?_ ?_
  · rintro i x H1 H2 hi ⟨s1, e1⟩ ⟨rfl, c, hc, rfl⟩
    refine turn c _ _ _ s1 ?_
    have hc' : z.cps.toList[i]? = some c := by rw [Array.getElem?_toList]; exact hc
    refine ⟨_, e1, ?_, fun b o h => ?_, ?_⟩
    · rw [List.length_map, List.length_map, List.length_take]
      exact Nat.lt_of_le_of_lt (Nat.min_le_left _ _) (Nat.lt_of_lt_of_le hi hzl)
    · rw [upd_ne (ne_of_none h hD)]
      exact s1 _ _ h
    · rw [upd_same, List.take_add_one, hc', List.map_append, List.map_append]
      rfl
  · rintro H' ⟨s1, e1⟩
    have ef : z.cps.toList.take z.cps.size = z.cps.toList := List.take_of_length_le (by rw [Array.length_toList]; exact Nat.le_refl _)
    rw [ef] at e1
    exact fin H' s1 e1
def sg (c : Nat) : V := .str ⟨#[c]⟩
/-- [sign for sign in text if ..] -/
theorem lc_filter {z : Str} {H : Hp} {D : Addr} (hD : H D = none) (hz : z.length ≤ 100000) (f : Nat → Bool) {g : TG} {tt : TT} {te : TE} {vs : List Nat} {σ : L2.St} {Qd : Hp → Prop}
    (turn : ∀ (c : Nat) (H2 : Hp) (R : V → Hp → Prop) (C : Hp → Prop), Same H H2 → (f c = true → R (sg c) H2) → (f c = false → C H2) → g (.str ⟨#[c]⟩) (wipe σ vs) H2 fun σ2 H2 => wipe σ2 vs = wipe σ vs ∧ tt σ2 H2 fun b H3 => if b = true then te σ2 H3 R else C H3)
    (fin : ∀ H', Same H H' → H' D = some (.lst ((z.cps.toList.filter f).map sg)) → Qd H') :
    ∃ W : Nat → Nat → Hp → Prop, (∃ m, W 0 m (upd H D (.lst []))) ∧ ∀ i m H, W i m H →
      ((Its z).stop i H ∧ Qd H) ∨ ((Its z).go i H ∧ ∃ Nx : Hp → Prop, (∀ H', Nx H' → ∃ m', m' < m ∧ W (i + 1) m' H') ∧ ∀ x H', (Its z).yld i H x H' → g x (wipe σ vs) H' fun σ2 H2 => wipe σ2 vs = wipe σ vs ∧ tt σ2 H2 fun b H3 =>
        if b = true then te σ2 H3 fun y H4 => ∃ acc, H4 D = some (.lst acc) ∧ acc.length < sizeLine ∧ Nx (upd H4 D (.lst (acc ++ [y]))) else Nx H3) := by
  have hzl : z.length ≤ sizeLine := Nat.le_trans hz (by decide)
  refine lc_it walk_str (fun i H' => Same H H' ∧ H' D = some (.lst (((z.cps.toList.take i).filter f).map sg))) ⟨same_upd hD, upd_same⟩ (fun _ _ _ _ => trivial) ?_ ?_
  · rintro i x H1 H2 hi ⟨s1, e1⟩ ⟨rfl, c, hc, rfl⟩
    have hc' : z.cps.toList[i]? = some c := by rw [Array.getElem?_toList]; exact hc
    refine turn c _ _ _ s1 (fun hf => ?_) (fun hf => ?_)
    · refine ⟨_, e1, ?_, fun b o h => ?_, ?_⟩
      · rw [List.length_map]
        refine Nat.lt_of_le_of_lt (List.length_filter_le _ _) ?_
        rw [List.length_take]
        exact Nat.lt_of_le_of_lt (Nat.min_le_left _ _) (Nat.lt_of_lt_of_le hi hzl)
      · rw [upd_ne (ne_of_none h hD)]
        exact s1 _ _ h
      · rw [upd_same, List.take_add_one, hc', List.filter_append, List.map_append]
        show _ = some (HO.lst (_ ++ List.map sg (List.filter f [c])))
        rw [List.filter_cons_of_pos hf]
        rfl
    · refine ⟨s1, ?_⟩
      rw [e1, List.take_add_one, hc', List.filter_append, List.map_append]
      show _ = some (HO.lst (_ ++ List.map sg (List.filter f [c])))
      rw [List.filter_cons_of_neg (by rw [hf]; exact Bool.false_ne_true)]
      show _ = some (HO.lst (_ ++ []))
      rw [List.append_nil]
  · rintro H' ⟨s1, e1⟩
    have ef : z.cps.toList.take z.cps.size = z.cps.toList := List.take_of_length_le (by rw [Array.length_toList]; exact Nat.le_refl _)
    rw [ef] at e1
    exact fin H' s1 e1
/-- a list of signs beside [] -/
theorem dp_signs {K : PySem.W.Frag} {H : Hp} : ∀ cs : List Nat, DpAll K H (cs.map sg) (cs.map fun c => PyData.str ⟨#[c]⟩)
  | [] => .nil
  | c :: cs => .cons (.str _) (dp_signs cs)
theorem eqv_nil (ds : List PyData) : PyData.eqv (.list ds) (.list []) = ds.isEmpty := by
  cases ds with
  | nil => rfl
  | cons d r => rfl
theorem lay_signs : ∀ cs : List Nat, (∀ c ∈ cs, c < 128) → PyData.canLayAll0 (cs.map fun c => PyData.str ⟨#[c]⟩) = true
  | [], _ => rfl
  | c :: r, h => by
    have h1 := h c (List.mem_cons_self ..)
    have h2 := lay_signs r fun d hd => h d (List.mem_cons_of_mem _ hd)
    show (PyData.canLay0 (.str ⟨#[c]⟩) && PyData.canLayAll0 (r.map fun c => PyData.str ⟨#[c]⟩)) = true
    rw [h2, Bool.and_true]
    show (#[c].all (· < 0x110000)) = true
    simp
    omega
theorem dep_signs : ∀ cs : List Nat, PyData.depthAll (cs.map fun c => PyData.str ⟨#[c]⟩) = 0
  | [] => rfl
  | c :: r => by
    show max 0 (PyData.depthAll (r.map fun c => PyData.str ⟨#[c]⟩)) = 0
    rw [dep_signs r]
    rfl
theorem shp_signs {cs : List Nat} (h : ∀ c ∈ cs, c < 128) : SeqAt.shaped (.list (cs.map fun c => PyData.str ⟨#[c]⟩)) = true := by
  unfold SeqAt.shaped
  have e1 : PyData.canLay0 (.list (cs.map fun c => PyData.str ⟨#[c]⟩)) = true := lay_signs cs h
  have e2 : PyData.depth (.list (cs.map fun c => PyData.str ⟨#[c]⟩)) = 1 := by
    show PyData.depthAll _ + 1 = 1
    rw [dep_signs]
  rw [e1, e2]
  rfl
/-- signs below 128 alone -/
def Asc (z : Str) : Prop := ∀ c ∈ z.cps.toList, c < 128
theorem asc_cut {z : Str} (h : Asc z) (lo hi : Option Int) : Asc (cutS z lo hi) := fun c hc => h c (List.mem_of_mem_drop (List.mem_of_mem_take hc))
theorem asc_app {x y : Str} (hx : Asc x) (hy : Asc y) : Asc (x ++ y) := fun c hc => by
  have hc : c ∈ TL.tl (x ++ y) := hc
  rw [TL.tl_append] at hc
  rcases List.mem_append.mp hc with h | h
  · exact hx c h
  · exact hy c h
theorem asc_upper {z : Str} (h : Asc z) : Asc (Txt.upper z) ∧ (Txt.upper z).length = z.length := by
  rw [PyProof.Rows.upper_ascii h]
  refine ⟨fun c hc => ?_, ?_⟩
  · have hc : c ∈ (z.cps.map PyProof.Rows.up1).toList := hc
    rw [Array.toList_map] at hc
    obtain ⟨a, ha, rfl⟩ := List.mem_map.mp hc
    have := h a ha
    unfold PyProof.Rows.up1
    split <;> omega
  · show (z.cps.map PyProof.Rows.up1).size = z.cps.size
    rw [Array.size_map]
theorem asc_of {z : Str} {cs : List Nat} (h : z.cps.toList = cs) (hl : ∀ c ∈ cs, c < 128) : Asc z := fun c hc => hl c (by rw [← h]; exact hc)
theorem lower_lt {c : Nat} (h : lower c = true) : c < 128 := by
  unfold lower at h
  simp only [Bool.and_eq_true, decide_eq_true_eq] at h
  omega
theorem figure_lt {c : Nat} (h : figure c = true) : c < 128 := by
  unfold figure at h
  simp only [Bool.and_eq_true, decide_eq_true_eq] at h
  omega
theorem filter_none {l : List Nat} {f : Nat → Bool} : (l.filter (fun c => !f c)).isEmpty = l.all f := by
  induction l with
  | nil => rfl
  | cons c r ih =>
    rw [List.filter_cons, List.all_cons]
    cases h : f c with
    | true => simpa using ih
    | false => rfl
theorem str_sign {c d : Nat} {z : Str} (h : z.cps = #[d]) : decide (V.str ⟨#[c]⟩ = V.str z) = decide (c = d) := by
  obtain ⟨z⟩ := z
  rw [decide_eq_decide]
  constructor
  · intro e
    injection e with e
    injection e with e
    rw [show z = #[d] from h] at e
    injection e with e
    injection e
  · rintro rfl
    rw [show z = #[c] from h]
/-! ### a text joined of signs -/
open TL
theorem join_signs : ∀ cs : List Nat, joinL [] ((cs.map fun c => (⟨#[c]⟩ : Str)).map tl) = cs
  | [] => rfl
  | [c] => rfl
  | c :: d :: r => by
    show [c] ++ ([] ++ joinL [] (((d :: r).map fun c => (⟨#[c]⟩ : Str)).map tl)) = c :: d :: r
    rw [join_signs (d :: r)]
    rfl
theorem join_text {y : Str} (hy : tl y = []) (cs : List Nat) : (Txt.join y (cs.map fun c => (⟨#[c]⟩ : Str))).cps.toList = cs := by
  show tl (Txt.join y _) = cs
  rw [join_eq, tl_join, hy, join_signs]
theorem size_signs : ∀ cs : List Nat, ((cs.map fun c => (⟨#[c]⟩ : Str)).map (·.length)).sum = cs.length
  | [] => rfl
  | c :: r => by
    rw [List.map_cons, List.map_cons, List.sum_cons, size_signs r, List.length_cons]
    show 1 + r.length = _
    omega

/-- [.. for _ in range(k)], each a drawn sign -/
theorem lc_draw {P : Int → Prop} {d D : Addr} {n k : Nat} {H1 : Hp} (hD : H1 D = none) (dr : Dr P d n H1) (hk : k ≤ 1000) (p : Nat → Bool) {g : TG} {tt : TT} {te : TE} {vs : List Nat} {σ : L2.St} {Qd : Hp → Prop}
    (turn : ∀ (i : Nat) (H2 : Hp) (R : V → Hp → Prop) (C : Hp → Prop), i < k → Dr P d (n + i) H2 → (∀ H3 c, p c = true → But d H2 H3 → Dr P d (n + i + 1) H3 → R (sg c) H3) → g (.int (0 + i)) (wipe σ vs) H2 fun σ2 H2 => wipe σ2 vs = wipe σ vs ∧ tt σ2 H2 fun b H3 => if b = true then te σ2 H3 R else C H3)
    (fin : ∀ H' (cs : List Nat), cs.length = k → (∀ c ∈ cs, p c = true) → But d H1 H' → Dr P d (n + k) H' → H' D = some (.lst (cs.map sg)) → Qd H') :
    ∃ W : Nat → Nat → Hp → Prop, (∃ m, W 0 m (upd H1 D (.lst []))) ∧ ∀ i m H, W i m H →
      ((Itr 0 k).stop i H ∧ Qd H) ∨ ((Itr 0 k).go i H ∧ ∃ Nx : Hp → Prop, (∀ H', Nx H' → ∃ m', m' < m ∧ W (i + 1) m' H') ∧ ∀ x H', (Itr 0 k).yld i H x H' → g x (wipe σ vs) H' fun σ2 H2 => wipe σ2 vs = wipe σ vs ∧ tt σ2 H2 fun b H3 =>
        if b = true then te σ2 H3 fun y H4 => ∃ acc, H4 D = some (.lst acc) ∧ acc.length < sizeLine ∧ Nx (upd H4 D (.lst (acc ++ [y]))) else Nx H3) := by
  have nD : D ≠ d := dr.ne hD
  refine lc_range (lo := 0) (n := k) (fun i H' => ∃ cs : List Nat, cs.length = i ∧ (∀ c ∈ cs, p c = true) ∧ But d H1 H' ∧ Dr P d (n + i) H' ∧ H' D = some (.lst (cs.map sg))) ⟨[], rfl, (fun _ h => nomatch h), But.new hD, dr.upd nD, upd_same⟩ ?_ ?_
  · rintro i H2 hi ⟨cs, hl, hp, b2, dr2, e2⟩
    refine turn i H2 _ _ hi dr2 fun H3 c hc b3 dr3 => ?_
    refine ⟨_, b3 _ _ nD e2, ?_, cs ++ [c], ?_, ?_, ?_, ?_, ?_⟩
    · rw [List.length_map, hl]
      exact Nat.lt_of_lt_of_le (show i < 1000 by omega) (by decide)
    · rw [List.length_append, hl]
      rfl
    · intro x hx
      rcases List.mem_append.mp hx with h | h
      · exact hp x h
      · rw [List.mem_singleton.mp h]
        exact hc
    · exact (b2.trans b3).mut hD
    · exact (dr3.upd nD).mono (by omega)
    · rw [upd_same, List.map_append]
      rfl
  · rintro H' ⟨cs, hl, hp, b, dr', e⟩
    exact fin H' cs hl hp b dr' e
theorem map_sg (cs : List Nat) : (cs.map fun c => (⟨#[c]⟩ : Str)).map V.str = cs.map sg := by
  rw [List.map_map]
  rfl
theorem join_len {y : Str} (hy : TL.tl y = []) (cs : List Nat) : (Txt.join y (cs.map fun c => (⟨#[c]⟩ : Str))).length = cs.length := by
  have := join_text hy cs
  show (Txt.join y (cs.map fun c => (⟨#[c]⟩ : Str))).cps.size = _
  rw [← Array.length_toList, this]
theorem az_at {r : Int} (h0 : 0 ≤ r) (h1 : r < 26) : ∃ c, atI ("abcdefghijklmnopqrstuvwxyz" : Str).cps.toList r = some c ∧ lower c = true := by
  obtain ⟨j, rfl⟩ : ∃ j : Nat, r = (j : Int) := ⟨r.toNat, by omega⟩
  have e : ("abcdefghijklmnopqrstuvwxyz" : Str).cps.toList = (List.range 26).map (· + 97) := by decide +kernel
  refine ⟨j + 97, atI_nat ?_, ?_⟩
  · rw [e, List.getElem?_map, List.getElem?_range (by omega)]
    rfl
  · unfold lower
    rw [decide_eq_true (by omega), decide_eq_true (by omega)]
    rfl
theorem fig_at {r : Int} (h0 : 0 ≤ r) (h1 : r < 10) : ∃ c, atI ("0123456789" : Str).cps.toList r = some c ∧ figure c = true := by
  obtain ⟨j, rfl⟩ : ∃ j : Nat, r = (j : Int) := ⟨r.toNat, by omega⟩
  have e : ("0123456789" : Str).cps.toList = (List.range 10).map (· + 48) := by decide +kernel
  refine ⟨j + 48, atI_nat ?_, ?_⟩
  · rw [e, List.getElem?_map, List.getElem?_range (by omega)]
    rfl
  · unfold figure
    rw [decide_eq_true (by omega), decide_eq_true (by omega)]
    rfl
theorem log_small {m : Int} (h0 : 0 < m) (h : m < 2 ^ 200) : m.natAbs.log2 < 9000 := by
  refine Nat.lt_of_lt_of_le (PySem.Flt.log2_lt_of (k := 200) (by decide) ?_) (by decide)
  have e : ((2 : Int) ^ 200) = ((2 ^ 200 : Nat) : Int) := by decide
  rw [e] at h
  omega
theorem log_tiny {m : Int} (h0 : 0 < m) (h : m < 1000000000000000000000000000000) : m.natAbs.log2 < 9000 := log_small h0 (Int.lt_trans h (by decide))
theorem at_str {z : Str} {r : Int} (h0 : 0 ≤ r) (h1 : r < (z.length : Int)) : ∃ c, atI z.cps.toList r = some c ∧ c ∈ z.cps.toList := by
  obtain ⟨j, rfl⟩ : ∃ j : Nat, r = (j : Int) := ⟨r.toNat, by omega⟩
  have hj : j < z.cps.toList.length := by
    have : z.cps.toList.length = z.length := Array.length_toList
    omega
  exact ⟨_, atI_nat (List.getElem?_eq_getElem hj), List.getElem_mem hj⟩
theorem sz (n : Nat) (h : n ≤ 100000) : n ≤ sizeLine := Nat.le_trans h (by decide)
theorem tyx_same {K : PySem.W.Frag} {H H' : Hp} (s : Same H H') {v : V} {t : Value} (h : TyX K H v t) : TyX K H' v t := by
  cases h with
  | base h =>
    cases h with
    | non => exact .base .non
    | bl b => exact .base (.bl b)
    | int i => exact .base (.int i)
    | str z => exact .base (.str z)
    | flt x => exact .base (.flt x)
    | lst e => exact .base (.lst (s _ _ e))
    | frz e => exact .base (.frz (s _ _ e))
    | tup e => exact .base (.tup (s _ _ e))
    | dK e => exact .base (.dK (s _ _ e))
    | dT e => exact .base (.dT (s _ _ e))
    | ins e cl ha hn htk hm => exact .base (.ins (s _ _ e) cl ha hn htk hm)
  | byt b => exact .byt b
  | set e => exact .set (s _ _ e)
  | kList e c => exact .kList e c
  | kTuple e c => exact .kTuple e c
  | kDict e c => exact .kDict e c
  | fTuple e => exact .fTuple (s _ _ e)
  | fDict e => exact .fDict (s _ _ e)
theorem Th.same {K : PySem.W.Frag} {H H' : Hp} (s : Same H H') {v : V} (h : Th K H v) : Th K H' v := by
  cases h with
  | int i => exact .int i
  | bl b => exact .bl b
  | str z => exact .str z
  | non => exact .non
  | lst h => exact .lst (tyx_same s h)
  | tup h => exact .tup (tyx_same s h)
  | dct h => exact .dct (tyx_same s h)
theorem cells_int {ns : List Int} {n : Int} {lo hi : Option Int} {i : Nat} {x : V} (h : ([V.int n] ++ cutV (ns.map V.int) lo hi)[i]? = some x) : ∃ k, x = .int k := by
  have hm := List.mem_of_getElem? h
  rcases List.mem_append.mp hm with h | h
  · exact ⟨n, List.mem_singleton.mp h⟩
  · have := List.mem_of_mem_drop (List.mem_of_mem_take h)
    obtain ⟨k, _, rfl⟩ := List.mem_map.mp this
    exact ⟨k, rfl⟩
section
variable {P : Program} {w : World} {K : PySem.W.Frag} {mg : Str → Option Value} {base : Heap} {x qual : Str} {params : Arguments} {body : List Stmt} {scope : Scope} {dvs : List V} {kws : List (Str × V)} {f : Addr} {fd : FuncData}
theorem okD {N ps : List Str} {k : Nat} {sp : Sp} (F : FunD K x qual params body scope dvs kws f fd) (S : FnScope N ps scope) (len : ∀ vs H Q E, sp vs H Q E → vs.length = ps.length)
    (hbody : ∀ (cdv : Value) (A : Around) (outer : List Env) (s : Shared) (H : Hp) (vs : List V) (Q : VK) (E : XK), Room k (A.deeper (envOfC qual scope s.heap.objs.size f cdv)) → sp vs H Q E →
      ∃ t, PSs (cxOf CX0 P w K mg base N qual scope f cdv A outer s H E).nox body t ∧ t { nx := fun _ H' => Q .non H', rt := Q } (start N vs) H) : FnOk P w K mg base CX0 (k + 1) f fd ps sp :=
  F.ok S len fun cdv A outer s H vs Q E hr h => by
    obtain ⟨t, h, q⟩ := hbody cdv A outer s H vs Q E hr h
    exact ⟨t, h.nox, q⟩
end
end KA
namespace KA
open PySem PySem.Spec PyProof.Rows L2
/-- what is no list is as it was -/
def NL (H H' : Hp) : Prop := ∀ b o, (∀ xs, o ≠ .lst xs) → H b = some o → H' b = some o
theorem NL.of {H H' : Hp} (s : Same H H') : NL H H' := fun b o _ h => s b o h
theorem NL.at_ {H : Hp} {D : Addr} {xs : List V} {o : HO} (h : H D = some (.lst xs)) : NL H (upd H D o) := fun b u n e => by
  have : b ≠ D := fun z => by
    rw [z, h] at e
    exact n xs (Option.some.inj e).symm
  rw [upd_ne this]
  exact e
theorem NL.trans {H H1 H2 : Hp} (a : NL H H1) (b : NL H1 H2) : NL H H2 := fun c o n h => b c o n (a c o n h)
/-- a comprehension over a list: what it makes is told by G -/
theorem lc_gen {K : PySem.W.Frag} {a : Addr} {xs : List V} {H : Hp} {D : Addr} (hD : H D = none) (hS : SqL K H a xs) (hl : xs.length ≤ 10000) (G : Nat → V → Hp → Prop) (hG : ∀ j v H1 H2, NL H1 H2 → G j v H1 → G j v H2)
    {g : TG} {tt : TT} {te : TE} {vs : List Nat} {σ : L2.St} {Qd : Hp → Prop}
    (turn : ∀ (i : Nat) (x : V) (H2 : Hp) (R : V → Hp → Prop) (C : Hp → Prop), xs[i]? = some x → Same H H2 → (∀ v H3, Same H2 H3 → G i v H3 → R v H3) → g x (wipe σ vs) H2 fun σ2 H2 => wipe σ2 vs = wipe σ vs ∧ tt σ2 H2 fun b H3 => if b = true then te σ2 H3 R else C H3)
    (fin : ∀ H' acc, Same H H' → H' D = some (.lst acc) → acc.length = xs.length → (∀ j v, acc[j]? = some v → G j v H') → Qd H') :
    ∃ W : Nat → Nat → Hp → Prop, (∃ m, W 0 m (upd H D (.lst []))) ∧ ∀ i m H, W i m H →
      ((Itl K a).stop i H ∧ Qd H) ∨ ((Itl K a).go i H ∧ ∃ Nx : Hp → Prop, (∀ H', Nx H' → ∃ m', m' < m ∧ W (i + 1) m' H') ∧ ∀ x H', (Itl K a).yld i H x H' → g x (wipe σ vs) H' fun σ2 H2 => wipe σ2 vs = wipe σ vs ∧ tt σ2 H2 fun b H3 =>
        if b = true then te σ2 H3 fun y H4 => ∃ acc, H4 D = some (.lst acc) ∧ acc.length < sizeLine ∧ Nx (upd H4 D (.lst (acc ++ [y]))) else Nx H3) := by
  refine lc_list (K := K) (a := a) (xs := xs) (fun i H' => Same H H' ∧ ∃ acc, H' D = some (.lst acc) ∧ acc.length = i ∧ ∀ j v, acc[j]? = some v → G j v H') ⟨same_upd hD, [], upd_same, rfl, fun j v h => by simp at h⟩ (fun i H' _ h => h.1.seq hS) ?_ ?_
  · rintro i x H2 hi ⟨s2, acc, e2, l2, g2⟩
    have hil : i < xs.length := (List.getElem?_eq_some_iff.mp hi).1
    refine turn i x H2 _ _ hi s2 fun v H3 s3 hv => ?_
    have e3 := s3 _ _ e2
    refine ⟨acc, e3, ?_, fun b o h => ?_, acc ++ [v], upd_same, ?_, fun j w hj => ?_⟩
    · rw [l2]
      exact Nat.lt_of_lt_of_le (show i < 10000 by omega) (by decide)
    · rw [upd_ne (ne_of_none h hD)]
      exact s3 _ _ (s2 _ _ h)
    · rw [List.length_append, l2]
      rfl
    · refine hG j w H3 _ (NL.at_ e3) ?_
      by_cases h : j < acc.length
      · rw [List.getElem?_append_left h] at hj
        exact hG j w H2 H3 (NL.of s3) (g2 j w hj)
      · rw [List.getElem?_append_right (by omega)] at hj
        have : j = i := by
          have := (List.getElem?_eq_some_iff.mp hj).1
          rw [List.length_singleton] at this
          omega
        subst this
        rw [l2, Nat.sub_self] at hj
        have : v = w := Option.some.inj hj
        subst this
        exact hv
  · rintro H' ⟨s, acc, e, l, g⟩
    exact fin H' acc s e l g
/-- .. whose values are f of the place -/
theorem lc_vals {K : PySem.W.Frag} {a : Addr} {xs : List V} {H : Hp} {D : Addr} (hD : H D = none) (hS : SqL K H a xs) (hl : xs.length ≤ 10000) (f : Nat → V)
    {g : TG} {tt : TT} {te : TE} {vs : List Nat} {σ : L2.St} {Qd : Hp → Prop}
    (turn : ∀ (i : Nat) (x : V) (H2 : Hp) (R : V → Hp → Prop) (C : Hp → Prop), xs[i]? = some x → Same H H2 → R (f i) H2 → g x (wipe σ vs) H2 fun σ2 H2 => wipe σ2 vs = wipe σ vs ∧ tt σ2 H2 fun b H3 => if b = true then te σ2 H3 R else C H3)
    (fin : ∀ H', Same H H' → H' D = some (.lst ((List.range xs.length).map f)) → Qd H') :
    ∃ W : Nat → Nat → Hp → Prop, (∃ m, W 0 m (upd H D (.lst []))) ∧ ∀ i m H, W i m H →
      ((Itl K a).stop i H ∧ Qd H) ∨ ((Itl K a).go i H ∧ ∃ Nx : Hp → Prop, (∀ H', Nx H' → ∃ m', m' < m ∧ W (i + 1) m' H') ∧ ∀ x H', (Itl K a).yld i H x H' → g x (wipe σ vs) H' fun σ2 H2 => wipe σ2 vs = wipe σ vs ∧ tt σ2 H2 fun b H3 =>
        if b = true then te σ2 H3 fun y H4 => ∃ acc, H4 D = some (.lst acc) ∧ acc.length < sizeLine ∧ Nx (upd H4 D (.lst (acc ++ [y]))) else Nx H3) := by
  refine lc_gen hD hS hl (fun j v _ => v = f j) (fun _ _ _ _ _ h => h) (fun i x H2 R C hi s hR => turn i x H2 R C hi s (hR _ _ (Same.refl _) rfl)) fun H' acc s e l g => fin H' s ?_
  rw [e]
  congr 2
  refine List.ext_getElem? fun j => ?_
  by_cases h : j < xs.length
  · rw [List.getElem?_map, List.getElem?_range h]
    have : j < acc.length := by omega
    rw [List.getElem?_eq_getElem this]
    exact congrArg some (g j _ (List.getElem?_eq_getElem this))
  · rw [List.getElem?_eq_none (by omega), List.getElem?_eq_none (by rw [List.length_map, List.length_range]; omega)]
/-- a comprehension over a list that leaves some out; the heap stays -/
theorem lc_some {K : PySem.W.Frag} {a : Addr} {xs : List V} {H : Hp} {D : Addr} (hD : H D = none) (hS : SqL K H a xs) (hl : xs.length ≤ 10000) (p : V → Bool) (f : V → V)
    {g : TG} {tt : TT} {te : TE} {vs : List Nat} {σ : L2.St} {Qd : Hp → Prop}
    (turn : ∀ (i : Nat) (x : V) (H2 : Hp) (R : V → Hp → Prop) (C : Hp → Prop), xs[i]? = some x → Same H H2 → (p x = true → R (f x) H2) → (p x = false → C H2) → g x (wipe σ vs) H2 fun σ2 H2 => wipe σ2 vs = wipe σ vs ∧ tt σ2 H2 fun b H3 => if b = true then te σ2 H3 R else C H3)
    (fin : ∀ H', Same H H' → H' D = some (.lst ((xs.filter p).map f)) → Qd H') :
    ∃ W : Nat → Nat → Hp → Prop, (∃ m, W 0 m (upd H D (.lst []))) ∧ ∀ i m H, W i m H →
      ((Itl K a).stop i H ∧ Qd H) ∨ ((Itl K a).go i H ∧ ∃ Nx : Hp → Prop, (∀ H', Nx H' → ∃ m', m' < m ∧ W (i + 1) m' H') ∧ ∀ x H', (Itl K a).yld i H x H' → g x (wipe σ vs) H' fun σ2 H2 => wipe σ2 vs = wipe σ vs ∧ tt σ2 H2 fun b H3 =>
        if b = true then te σ2 H3 fun y H4 => ∃ acc, H4 D = some (.lst acc) ∧ acc.length < sizeLine ∧ Nx (upd H4 D (.lst (acc ++ [y]))) else Nx H3) := by
  refine lc_list (K := K) (a := a) (xs := xs) (fun i H' => Same H H' ∧ H' D = some (.lst (((xs.take i).filter p).map f))) ⟨same_upd hD, upd_same⟩ (fun i H' _ h => h.1.seq hS) ?_ ?_
  · rintro i x H2 hi ⟨s2, e2⟩
    have hil : i < xs.length := (List.getElem?_eq_some_iff.mp hi).1
    refine turn i x H2 _ _ hi s2 (fun hp => ?_) (fun hp => ?_)
    · refine ⟨_, e2, ?_, fun b o h => ?_, ?_⟩
      · rw [List.length_map]
        refine Nat.lt_of_le_of_lt (List.length_filter_le _ _) ?_
        rw [List.length_take]
        exact Nat.lt_of_le_of_lt (Nat.min_le_left _ _) (Nat.lt_of_lt_of_le (show i < 10000 by omega) (by decide))
      · rw [upd_ne (ne_of_none h hD)]
        exact s2 _ _ h
      · rw [upd_same, List.take_add_one, hi, List.filter_append, List.map_append]
        show _ = some (HO.lst (_ ++ List.map f (List.filter p [x])))
        rw [List.filter_cons_of_pos hp]
        rfl
    · refine ⟨s2, ?_⟩
      rw [e2, List.take_add_one, hi, List.filter_append, List.map_append]
      show _ = some (HO.lst (_ ++ List.map f (List.filter p [x])))
      rw [List.filter_cons_of_neg (by rw [hp]; exact Bool.false_ne_true)]
      show _ = some (HO.lst (_ ++ []))
      rw [List.append_nil]
  · rintro H' ⟨s, e⟩
    rw [List.take_of_length_le (Nat.le_refl _)] at e
    exact fin H' s e
theorem cut_to (xs : List V) (i : Nat) : cutV xs none (some (i : Int)) = xs.take i := by
  unfold cutV
  rw [HT.sIx_none, show HT.sIx xs.length xs.length (some (i : Int)) = min i xs.length from HT.sIx_nat xs.length xs.length i, Nat.sub_zero, List.drop_zero]
  by_cases h : i ≤ xs.length
  · rw [Nat.min_eq_left h]
  · rw [Nat.min_eq_right (by omega), List.take_of_length_le (Nat.le_refl _), List.take_of_length_le (by omega)]
theorem cut_from (xs : List V) (i : Nat) : cutV xs (some (i : Int)) none = xs.drop i := by
  unfold cutV
  rw [HT.sIx_none, show HT.sIx xs.length 0 (some (i : Int)) = min i xs.length from HT.sIx_nat xs.length 0 i]
  by_cases h : i ≤ xs.length
  · rw [Nat.min_eq_left h, List.take_of_length_le (by rw [List.length_drop]; omega)]
  · rw [Nat.min_eq_right (by omega), List.drop_of_length_le (Nat.le_refl _), List.drop_of_length_le (by omega)]
    exact List.take_nil
section
variable {X : Cx} {K' : PySem.W.Frag}
/-! the rules with the written part by its own name (for blocks) -/
theorem pe_fldK (hK : X.K = K') {e : Expr} {f : Str} {pos : Pos} {ta : TE} (ha : PE X e ta) (hb : attributeBase e f X.env (eval e X.env) = eval e X.env) : PE X (.Attribute e f pos) (tFld K' ta f) := by
  subst hK
  exact pe_fld ha hb
theorem ix_listK (hK : X.K = K') : IxR X (rIxL K') := by
  subst hK
  exact ix_list
theorem ix_tupK (hK : X.K = K') : IxR X (rIxT K') := by
  subst hK
  exact ix_tup
theorem sl_listK (hK : X.K = K') : SlR X (rSlL K') := by
  subst hK
  exact sl_list
theorem sl_tupAK (hK : X.K = K') : SlR X (rSlA K') := by
  subst hK
  exact sl_tupA
theorem op_eqDK (hK : X.K = K') (hu : X.A.units + 64 < cLine) : OpR X (compareOp .Eq) (rEqD K') := by
  subst hK
  exact op_eqD hu
theorem op_neDK (hK : X.K = K') (hu : X.A.units + 64 < cLine) : OpR X (compareOp .NotEq) (rNeD K') := by
  subst hK
  exact op_neD hu
theorem op_in_seqK (hK : X.K = K') : OpR X (compareOp .In) (rIn K' false) := by
  subst hK
  exact op_in_seq
end
section
variable {X : Cx}
/-- a statement and what follows it, with a word between -/
def tCutJ (t u : TS) : TS := fun D σ H => ∃ Mid : L2.St → Hp → Prop, t { D with nx := Mid } σ H ∧ ∀ σ' H', Mid σ' H' → u D σ' H'
theorem pss_cutJ {st : Stmt} {rest : List Stmt} {t u : TS} (h1 : PS X st t) (h2 : PSs X rest u) : PSs X (st :: rest) (tCutJ t u) := by
  refine ⟨fun pins s σ H D I h => ?_⟩
  obtain ⟨Mid, hm, hu⟩ := h
  refine wpAny_execs_cons (thn (h1.run pins s σ H { D with nx := Mid } I hm) fun f s1 q => ?_)
  cases f with
  | next =>
    obtain ⟨σ', H', I', q⟩ := q
    exact h2.run pins s1 σ' H' D I' (hu σ' H' q)
  | ret v => exact q
  | brk => exact q
  | cont => exact q
end
theorem nl_tup {K : PySem.W.Frag} {H H' : Hp} {a : Addr} {xs : List V} (s : NL H H') (h : SqT K H a xs) : SqT K H' a xs := by
  rcases h with (h | ⟨o, h⟩) | h
  · exact .inl (.inl (s _ _ (fun _ z => by cases z) h))
  · exact .inl (.inr ⟨o, s _ _ (fun _ z => by cases z) h⟩)
  · exact .inr h
theorem mem_cut {xs : List V} {lo hi : Option Int} {v : V} (h : v ∈ cutV xs lo hi) : v ∈ xs := List.mem_of_mem_drop (List.mem_of_mem_take h)
theorem len_cut (xs : List V) (lo hi : Option Int) : (cutV xs lo hi).length ≤ xs.length := by
  unfold cutV
  rw [List.length_take, List.length_drop]
  omega
/-- a comprehension over a list that leaves places out; the heap stays -/
theorem lc_someI {K : PySem.W.Frag} {a : Addr} {xs : List V} {H : Hp} {D : Addr} (hD : H D = none) (hS : SqL K H a xs) (hl : xs.length ≤ 10000) (p : Nat → Bool) (f : Nat → V)
    {g : TG} {tt : TT} {te : TE} {vs : List Nat} {σ : L2.St} {Qd : Hp → Prop}
    (turn : ∀ (i : Nat) (x : V) (H2 : Hp) (R : V → Hp → Prop) (C : Hp → Prop), xs[i]? = some x → Same H H2 → (p i = true → R (f i) H2) → (p i = false → C H2) → g x (wipe σ vs) H2 fun σ2 H2 => wipe σ2 vs = wipe σ vs ∧ tt σ2 H2 fun b H3 => if b = true then te σ2 H3 R else C H3)
    (fin : ∀ H', Same H H' → H' D = some (.lst (((List.range xs.length).filter p).map f)) → Qd H') :
    ∃ W : Nat → Nat → Hp → Prop, (∃ m, W 0 m (upd H D (.lst []))) ∧ ∀ i m H, W i m H →
      ((Itl K a).stop i H ∧ Qd H) ∨ ((Itl K a).go i H ∧ ∃ Nx : Hp → Prop, (∀ H', Nx H' → ∃ m', m' < m ∧ W (i + 1) m' H') ∧ ∀ x H', (Itl K a).yld i H x H' → g x (wipe σ vs) H' fun σ2 H2 => wipe σ2 vs = wipe σ vs ∧ tt σ2 H2 fun b H3 =>
        if b = true then te σ2 H3 fun y H4 => ∃ acc, H4 D = some (.lst acc) ∧ acc.length < sizeLine ∧ Nx (upd H4 D (.lst (acc ++ [y]))) else Nx H3) := by
  refine lc_list (K := K) (a := a) (xs := xs) (fun i H' => Same H H' ∧ H' D = some (.lst (((List.range i).filter p).map f))) ⟨same_upd hD, upd_same⟩ (fun i H' _ h => h.1.seq hS) ?_ ?_
  · rintro i x H2 hi ⟨s2, e2⟩
    have hil : i < xs.length := (List.getElem?_eq_some_iff.mp hi).1
    refine turn i x H2 _ _ hi s2 (fun hp => ?_) (fun hp => ?_)
    · refine ⟨_, e2, ?_, fun b o h => ?_, ?_⟩
      · rw [List.length_map]
        refine Nat.lt_of_le_of_lt (List.length_filter_le _ _) ?_
        rw [List.length_range]
        exact Nat.lt_of_lt_of_le (show i < 10000 by omega) (by decide)
      · rw [upd_ne (ne_of_none h hD)]
        exact s2 _ _ h
      · rw [upd_same, List.range_succ, List.filter_append, List.map_append, List.filter_cons_of_pos hp]
        rfl
    · refine ⟨s2, ?_⟩
      rw [e2, List.range_succ, List.filter_append, List.map_append, List.filter_cons_of_neg (by rw [hp]; exact Bool.false_ne_true)]
      show _ = some (HO.lst (_ ++ []))
      rw [List.append_nil]
  · rintro H' ⟨s, e⟩
    exact fin H' s e
section
variable {X : Cx} {CX : CXT} {k : Nat} {f : Addr} {fd : FuncData} {ps ks : List Str} {sp : Sp} {E : XK} {x : Str} {p pos : Pos} {kws : List Keyword} {tk : TA} {g : List Value → List Value → List Value} {gV : List V → List V → List V}
/-- f(k = v, ..) -/
theorem pe_callN0 (F : FnOk X.prog X.w X.K X.mg X.base CX k f fd ps sp) (hr : Room k X.A) (hg : Gl X x) (hm : X.mg x = some (.ref f)) (hk : PySem.W.keepIn X.K (.ref f) = true) (hb : KBn X.K fd ps 0 ks g gV) (hx : Passes CX X E) (hkw : PK X kws tk)
    (hall : (backToKw pos (keywordEach kws X.env)).all (·.1.isSome) = true := by rfl) (hks : (backToKw pos (keywordEach kws X.env)).filterMap (·.1) = ks := by rfl) (hdb : (x == ("__debug__" : Str)) = false := by decide)
    (hpl : ((backTo pos (starEach [] X.env)).any (·.1) || (backToKw pos (keywordEach kws X.env)).any (·.1.isNone)) = false := by rfl) :
    PE X (.Call (.Name x p) [] kws pos) (tCallN 0 ks.length sp gV E tNil tk) := by
  refine ⟨fun pins s σ H Q I h => ?_⟩
  refine wpAny_Call_Name_kw (ld_glob I hg hm ?_ hdb)
  refine PySem.W.callWith_KW0 (h₀ := X.base) I.ok.mod.kin hk hall ?_ hpl
  refine thn (hkw.run pos pins s σ H _ I h) fun ws s2 ⟨zs, H2, I2, rz, l1, l2, q2⟩ => ⟨I2.kIn, ?_⟩
  rw [hks]
  exact run_fnN (us := []) (vs := []) F hr hb hx I2 .nil rz rfl l2 q2
end
/-- keywords of a def without defaults -/
theorem kbn_of {K : PySem.W.Frag} {x qual : Str} {st : Stmt} {f : Addr} {fd : FuncData} {ps : List Str} (F : Fun K x qual st f fd) (n : Nat) (ks : List Str) (g : List Value → List Value → List Value) (gV : List V → List V → List V)
    (hrel : ∀ {vs : List V} {us : List Value} {zs : List V} {ws : List Value}, Vals vs us → Vals zs ws → Vals (gV vs zs) (g us ws))
    (h : ∀ (kV doc pm : Value) (an : Option Addr) (cdv ct : Value) (us ws : List Value), us.length = n → ws.length = ks.length → bindArgs (PySem.W.fnOf x qual (defArgs st) (defBody st) (defScope st) .none kV doc pm an cdv ct) ⟨us, ks.zip ws⟩ = pure (ps.zip (g us ws))) : KBn K fd ps n ks g gV := by
  obtain ⟨oc, od, kV, doc, pm, an, cdv, ct, osl, rfl, lk, hcd⟩ := F.ex
  exact ⟨fun s us ws _ l1 l2 => .of_eq (h kV doc pm an cdv ct us ws l1 l2), hrel⟩
def gsw {α : Type} (l : List α) : List α := match l with
  | [a, b] => [b, a]
  | l => l
theorem gsw_rel {zs : List V} {ws : List Value} (h : Vals zs ws) : Vals (gsw zs) (gsw ws) := by
  cases h with
  | nil => exact .nil
  | cons r1 h =>
    cases h with
    | nil => exact .cons r1 .nil
    | cons r2 h =>
      cases h with
      | nil => exact .cons r2 (.cons r1 .nil)
      | cons r3 h => exact .cons r1 (.cons r2 (.cons r3 h))
/-- a comprehension over range(n): what it makes is told by G -/
theorem lc_genR {n : Nat} {H : Hp} {D : Addr} (hD : H D = none) (hl : n ≤ 10000) (G : Nat → V → Hp → Prop) (hG : ∀ j v H1 H2, NL H1 H2 → G j v H1 → G j v H2)
    {g : TG} {tt : TT} {te : TE} {vs : List Nat} {σ : L2.St} {Qd : Hp → Prop}
    (turn : ∀ (i : Nat) (H2 : Hp) (R : V → Hp → Prop) (C : Hp → Prop), i < n → Same H H2 → (∀ v H3, Same H2 H3 → G i v H3 → R v H3) → g (.int (0 + i)) (wipe σ vs) H2 fun σ2 H2 => wipe σ2 vs = wipe σ vs ∧ tt σ2 H2 fun b H3 => if b = true then te σ2 H3 R else C H3)
    (fin : ∀ H' acc, Same H H' → H' D = some (.lst acc) → acc.length = n → (∀ j v, acc[j]? = some v → G j v H') → Qd H') :
    ∃ W : Nat → Nat → Hp → Prop, (∃ m, W 0 m (upd H D (.lst []))) ∧ ∀ i m H, W i m H →
      ((Itr 0 n).stop i H ∧ Qd H) ∨ ((Itr 0 n).go i H ∧ ∃ Nx : Hp → Prop, (∀ H', Nx H' → ∃ m', m' < m ∧ W (i + 1) m' H') ∧ ∀ x H', (Itr 0 n).yld i H x H' → g x (wipe σ vs) H' fun σ2 H2 => wipe σ2 vs = wipe σ vs ∧ tt σ2 H2 fun b H3 =>
        if b = true then te σ2 H3 fun y H4 => ∃ acc, H4 D = some (.lst acc) ∧ acc.length < sizeLine ∧ Nx (upd H4 D (.lst (acc ++ [y]))) else Nx H3) := by
  refine lc_range (lo := 0) (n := n) (fun i H' => Same H H' ∧ ∃ acc, H' D = some (.lst acc) ∧ acc.length = i ∧ ∀ j v, acc[j]? = some v → G j v H') ⟨same_upd hD, [], upd_same, rfl, fun j v h => by simp at h⟩ ?_ ?_
  · rintro i H2 hi ⟨s2, acc, e2, l2, g2⟩
    refine turn i H2 _ _ hi s2 fun v H3 s3 hv => ?_
    have e3 := s3 _ _ e2
    refine ⟨acc, e3, ?_, fun b o h => ?_, acc ++ [v], upd_same, ?_, fun j w hj => ?_⟩
    · rw [l2]
      exact Nat.lt_of_lt_of_le (show i < 10000 by omega) (by decide)
    · rw [upd_ne (ne_of_none h hD)]
      exact s3 _ _ (s2 _ _ h)
    · rw [List.length_append, l2]
      rfl
    · refine hG j w H3 _ (NL.at_ e3) ?_
      by_cases h : j < acc.length
      · rw [List.getElem?_append_left h] at hj
        exact hG j w H2 H3 (NL.of s3) (g2 j w hj)
      · rw [List.getElem?_append_right (by omega)] at hj
        have : j = i := by
          have := (List.getElem?_eq_some_iff.mp hj).1
          rw [List.length_singleton] at this
          omega
        subst this
        rw [l2, Nat.sub_self] at hj
        have : v = w := Option.some.inj hj
        subst this
        exact hv
  · rintro H' ⟨s, acc, e, l, g⟩
    exact fin H' acc s e l g
/-- [k for k in range(n) if a draw ..] -/
theorem lc_drawK {P : Int → Prop} {d D : Addr} {m n : Nat} {H1 : Hp} (hD : H1 D = none) (dr : Dr P d m H1) (hn : n ≤ 1000) {g : TG} {tt : TT} {te : TE} {vs : List Nat} {σ : L2.St} {Qd : Hp → Prop}
    (turn : ∀ (i : Nat) (H2 : Hp) (R : V → Hp → Prop) (C : Hp → Prop), i < n → Dr P d (m + i) H2 → (∀ H3, But d H2 H3 → Dr P d (m + i + 1) H3 → R (.int (i : Int)) H3 ∧ C H3) → g (.int (0 + i)) (wipe σ vs) H2 fun σ2 H2 => wipe σ2 vs = wipe σ vs ∧ tt σ2 H2 fun b H3 => if b = true then te σ2 H3 R else C H3)
    (fin : ∀ H' (ks : List Nat), (∀ k ∈ ks, k < n) → ks.length ≤ n → But d H1 H' → Dr P d (m + n) H' → H' D = some (.lst (ks.map fun (k : Nat) => V.int (k : Int))) → Qd H') :
    ∃ W : Nat → Nat → Hp → Prop, (∃ m, W 0 m (upd H1 D (.lst []))) ∧ ∀ i m H, W i m H →
      ((Itr 0 n).stop i H ∧ Qd H) ∨ ((Itr 0 n).go i H ∧ ∃ Nx : Hp → Prop, (∀ H', Nx H' → ∃ m', m' < m ∧ W (i + 1) m' H') ∧ ∀ x H', (Itr 0 n).yld i H x H' → g x (wipe σ vs) H' fun σ2 H2 => wipe σ2 vs = wipe σ vs ∧ tt σ2 H2 fun b H3 =>
        if b = true then te σ2 H3 fun y H4 => ∃ acc, H4 D = some (.lst acc) ∧ acc.length < sizeLine ∧ Nx (upd H4 D (.lst (acc ++ [y]))) else Nx H3) := by
  have nD : D ≠ d := dr.ne hD
  refine lc_range (lo := 0) (n := n) (fun i H' => ∃ ks : List Nat, (∀ k ∈ ks, k < n) ∧ ks.length ≤ i ∧ But d H1 H' ∧ Dr P d (m + i) H' ∧ H' D = some (.lst (ks.map fun (k : Nat) => V.int (k : Int)))) ⟨[], (fun _ h => nomatch h), Nat.le_refl _, But.new hD, dr.upd nD, upd_same⟩ ?_ ?_
  · rintro i H2 hi ⟨ks, hk, hl, b2, dr2, e2⟩
    refine turn i H2 _ _ hi dr2 fun H3 b3 dr3 => ⟨?_, ks, hk, by omega, b2.trans b3, dr3, b3 _ _ nD e2⟩
    refine ⟨_, b3 _ _ nD e2, ?_, ks ++ [i], ?_, ?_, ?_, ?_, ?_⟩
    · rw [List.length_map]
      exact Nat.lt_of_lt_of_le (show ks.length < 1001 by omega) (by decide)
    · intro k h
      rcases List.mem_append.mp h with h | h
      · exact hk k h
      · rw [List.mem_singleton.mp h]
        exact hi
    · rw [List.length_append, List.length_singleton]
      omega
    · exact (b2.trans b3).mut hD
    · exact (dr3.upd nD).mono (by omega)
    · rw [upd_same, List.map_append]
      rfl
  · rintro H' ⟨ks, hk, hl, b, dr', e⟩
    exact fin H' ks hk hl b dr' e
theorem in_ints (k : Nat) (S : List Nat) : inV (.int (k : Int)) (S.map fun (j : Nat) => V.int (j : Int)) = decide (k ∈ S) := by
  unfold inV
  rw [List.any_map]
  induction S with
  | nil => rfl
  | cons j S ih =>
    rw [List.any_cons, ih]
    show (((j : Int) == (k : Int)) || decide (k ∈ S)) = _
    rw [Bool.eq_iff_iff, Bool.or_eq_true, beq_iff_eq, decide_eq_true_eq, decide_eq_true_eq, List.mem_cons]
    constructor
    · rintro (h | h)
      · exact .inl (by omega)
      · exact .inr h
    · rintro (h | h)
      · exact .inl (by omega)
      · exact .inr h
theorem flat_ints (S : List Nat) : (S.map fun (j : Nat) => V.int (j : Int)).all flatV = true := by
  rw [List.all_eq_true]
  intro v hv
  obtain ⟨j, _, rfl⟩ := List.mem_map.mp hv
  rfl
end KA
namespace KA
open PySem PySem.SeqAt
open AutoSeq1 (wpAny_loadPart')
open MeetsSeq MeetsSeq2 MeetsSeq3 SeqRoads2
section
variable {prog : Program} {w : World} {A : Around} {R : Result → Shared → Prop}
/-- two lists whose items are equal, turn by turn: != is False -/
theorem ne_turns (p q : Addr) (N : Nat) (J : Nat → Shared → Prop) (hJ : GQ.ListI prog w A (fun e s' => R (.error e) s') p q N J)
    (done : ∀ s, J N s → R (.ok (.ret (.bool false))) s) : ∀ (k i : Nat), N - i = k → i ≤ N → ∀ s, J i s →
      wpAny (model prog w) A.in1 (Builtin.«list.__eq__.loop» ⟨[.ref p, .ref q, rawInt i, rawInt 3], []⟩) (GQ.FinOf prog w A R) (fun e s' => R (.error e) s') s
  | 0, i, hk, hi, s, hs => by
    obtain ⟨xs, ys, m, m2, gp, gq, zp, zq, _⟩ := hJ _ _ hs
    have iN : i = N := by omega
    have last : R (.ok (.ret (.bool false))) s := done s (iN ▸ hs)
    obtain ⟨hh, gg, dd, kk, oo⟩ := s
    wp_walk using wpAny_loadPart' gp, wpAny_loadPart' gq
    have n1 : xs[((i : Nat) : Int).toNat]? = none := by simp; omega
    have n2 : ys[((i : Nat) : Int).toNat]? = none := by simp; omega
    rw [n1, n2]
    wp_walk using wpAny_loadPart' gp, wpAny_loadPart' gq
    show R (.ok (.ret (.bool (xs.size != ys.size)))) _
    rw [zp, zq]
    simpa using last
  | k + 1, i, hk, hi, s, hs => by
    obtain ⟨xs, ys, m, m2, gp, gq, zp, zq, tn⟩ := hJ _ _ hs
    have ip : i < xs.size := by omega
    have iq : i < ys.size := by omega
    have tt := tn ip iq
    obtain ⟨hh, gg, dd, kk, oo⟩ := s
    wp_walk using wpAny_loadPart' gp, wpAny_loadPart' gq
    have n1 : xs[((i : Nat) : Int).toNat]? = some xs[i] := by simp [ip]
    have n2 : ys[((i : Nat) : Int).toNat]? = some ys[i] := by simp [iq]
    have up : ((i : Int) + 1) = ((i + 1 : Nat) : Int) := by omega
    rw [n1, n2]
    refine wpAny_bind (wpAny_mono tt (fun r s2 h2 => ?_) fun _ _ x => x)
    obtain ⟨er, h2⟩ := h2
    subst er
    have next := ne_turns p q N J hJ done k (i + 1) (by omega) (by omega) s2 h2
    obtain ⟨hh2, gg2, dd2, kk2, oo2⟩ := s2
    wp_walk
    rw [up]
    exact ⟨plainId_quiet plain_eq_loop _, codeAny_builtin entry_eq_loop (by rw [Around.under_plainId plain_eq_loop _]; exact next)⟩
theorem ne_lists (p q : Addr) (N : Nat) (J : Nat → Shared → Prop) (hJ : GQ.ListI prog w A (fun e s' => R (.error e) s') p q N J)
    (done : ∀ s, J N s → R (.ok (.ret (.bool false))) s) {s : Shared} (hs : J 0 s) :
    wpAny (model prog w) A.in1 (Builtin.«list.__ne__» ⟨[.ref p, .ref q], []⟩) (GQ.FinOf prog w A R) (fun e s' => R (.error e) s') s := by
  obtain ⟨xs, ys, m, m2, gp, gq, zp, zq, _⟩ := hJ _ _ hs
  have all := ne_turns (A := A) (R := R) p q N J hJ done _ 0 rfl (Nat.zero_le _) s hs
  obtain ⟨hh, gg, dd, kk, oo⟩ := s
  have sub := AutoSeq1.sub_list_list
  have same : ¬ (xs.size != ys.size) = true := by simp [zp, zq]
  wp_walk using wpAny_loadPart' gp, wpAny_loadPart' gq
  exact ⟨plainId_quiet plain_eq_loop _, codeAny_builtin entry_eq_loop (by rw [Around.under_plainId plain_eq_loop _]; exact all)⟩
end
section
variable {prog : Program} {w : World} {A : Around} {E : Value → Shared → Prop} {s : Shared}
theorem rc_ne {p q : Addr} {N : Nat} {Q : Value → Shared → Prop} (hu : A.units < cLine) (J : Nat → Shared → Prop) (hJ : GQ.ListI prog w A E p q N J)
    (done : ∀ s, J N s → Q (.bool false) s) (hs : J 0 s) : wpAny (model prog w) A (richCompare .NotEq (.ref p) (.ref q)) Q E s := by
  obtain ⟨xs, ys, m, m2, gp, gq, _, _, _⟩ := hJ _ _ hs
  refine wpAny_richCompare_same_room (op := .NotEq) ⟨_, gp, rfl⟩ ⟨_, gq, rfl⟩ F.slot_list_ne (GQ.call_here F.slot_list_ne ⟨_, gp, rfl⟩ F.entry_list_ne (F.args_list_ne_2 _ _) ?_) hu
  exact ne_lists (R := wants (fun v s' => v ≠ .notImplemented ∧ Q v s') E) p q N J hJ (fun s' z => ⟨(fun x => nomatch x), done s' z⟩) hs
end
open L2 in
/-- xs != ys, where the items are equal by their own == : False -/
def rNeG (D : Eqv) : R2 := fun x y H Q => DList D x y H ∧ ∀ H', Ext H H' → Q (.bl false) H'
open L2 in
theorem op_neG {X : Cx} {n : Nat} {D : Eqv} (hD : Mon D) (h : EqG X n D) (hr : Room (n + 1) X.A) : OpR X (compareOp .NotEq) (rNeG D) := by
  intro pins s σ H x y v u Q I rx ry hq
  obtain ⟨⟨a, b, xs, ys, rfl, rfl, ha, hb, p⟩, q⟩ := hq
  cases rx
  cases ry
  show wpAny (model X.prog X.w) X.A (richCompare .NotEq (.ref a) (.ref b)) (EP X pins σ Q) X.xe s
  refine rc_ne (N := xs.length) hr.units0 (fun _ s' => LoopI X pins σ H s') (fun i s' z => ?_) (fun s' z => ?_) ⟨H, I, Ext.rfl'⟩
  · obtain ⟨H1, I1, e1⟩ := id z
    obtain ⟨_, its, k, r, e⟩ := I1.hok a _ (e1 _ _ ha)
    obtain ⟨_, its2, k2, r2, e2⟩ := I1.hok b _ (e1 _ _ hb)
    exact ⟨its.toArray, its2.toArray, k, k2, e, e2, by rw [List.size_toArray, ← r.length], by rw [List.size_toArray, ← r2.length, ← p.1], fun g1 g2 => turnG hD h ⟨hr, rfl⟩ p r r2 i g1 g2 s' z⟩
  · obtain ⟨H1, I1, e1⟩ := z
    exact ⟨.bl false, H1, I1, rfl, q H1 e1⟩
end KA
namespace KA
open PySem PySem.Spec PyProof.Rows L2
/-! ### shares as pairs -/
/-- by what both are divided -/
def prt (n d : Int) : Int := if d < 0 then -(Int.gcd n d : Int) else (Int.gcd n d : Int)
def shr (n d : Int) : Int × Int := (n.fdiv (prt n d), d.fdiv (prt n d))
theorem gcd_pos {n d : Int} (h : d ≠ 0) : 0 < Int.gcd n d := by
  have : Int.gcd n d ≠ 0 := fun z => h (Int.gcd_eq_zero_iff.mp z).2
  omega
theorem prt_ne {n d : Int} (h : d ≠ 0) : prt n d ≠ 0 := by
  have := gcd_pos (n := n) h
  unfold prt
  split <;> omega
theorem prt_dvd1 (n d : Int) : prt n d ∣ n := by
  unfold prt
  split
  · exact Int.neg_dvd.mpr (Int.gcd_dvd_left ..)
  · exact Int.gcd_dvd_left ..
theorem prt_dvd2 (n d : Int) : prt n d ∣ d := by
  unfold prt
  split
  · exact Int.neg_dvd.mpr (Int.gcd_dvd_right ..)
  · exact Int.gcd_dvd_right ..
theorem shr1 (n d : Int) : prt n d * (shr n d).1 = n := by
  show prt n d * n.fdiv (prt n d) = n
  rw [Int.fdiv_eq_ediv_of_dvd (prt_dvd1 n d)]
  exact Int.mul_ediv_cancel' (prt_dvd1 n d)
theorem shr2 (n d : Int) : prt n d * (shr n d).2 = d := by
  show prt n d * d.fdiv (prt n d) = d
  rw [Int.fdiv_eq_ediv_of_dvd (prt_dvd2 n d)]
  exact Int.mul_ediv_cancel' (prt_dvd2 n d)
theorem shr_pos {n d : Int} (h : d ≠ 0) : 0 < (shr n d).2 := by
  have e := shr2 n d
  have g := gcd_pos (n := n) h
  by_cases hd : d < 0
  · have hp : prt n d < 0 := by unfold prt; rw [if_pos hd]; omega
    rcases Int.lt_trichotomy (shr n d).2 0 with z | z | z
    · have := Int.mul_pos_of_neg_of_neg hp z
      omega
    · rw [z] at e
      omega
    · exact z
  · have hp : 0 < prt n d := by unfold prt; rw [if_neg hd]; omega
    rcases Int.lt_trichotomy (shr n d).2 0 with z | z | z
    · have := Int.mul_neg_of_pos_of_neg hp z
      omega
    · rw [z] at e
      omega
    · exact z
theorem prt_abs (n d : Int) : (prt n d).natAbs = Int.gcd n d := by
  unfold prt
  split <;> omega
theorem shr_low {n d : Int} (h : d ≠ 0) : Int.gcd (shr n d).1 (shr n d).2 = 1 := by
  have g := gcd_pos (n := n) h
  have e : Int.gcd (prt n d * (shr n d).1) (prt n d * (shr n d).2) = (prt n d).natAbs * Int.gcd (shr n d).1 (shr n d).2 := Int.gcd_mul_left ..
  rw [shr1, shr2, prt_abs] at e
  have : Int.gcd n d * 1 = Int.gcd n d * Int.gcd (shr n d).1 (shr n d).2 := by omega
  exact (Nat.eq_of_mul_eq_mul_left g this).symm
/-- of the worth u over g -/
def Eqf (x : Int × Int) (u g : Int) : Prop := x.1 * g = u * x.2
theorem shr_eqf (n d : Int) : Eqf (shr n d) n d := by
  have a := shr1 n d
  have b := shr2 n d
  show (shr n d).1 * d = n * (shr n d).2
  generalize prt n d = p at a b
  generalize (shr n d).1 = x at a ⊢
  generalize (shr n d).2 = y at b ⊢
  subst a b
  grind
theorem eqf_trans {n d u g : Int} (h : d ≠ 0) (e : n * g = u * d) : Eqf (shr n d) u g := by
  have a := shr_eqf n d
  unfold Eqf at a ⊢
  refine Int.eq_of_mul_eq_mul_right h ?_
  grind
theorem eqf_plus {x y : Int × Int} {a b c d : Int} (hx : Eqf x a b) (hy : Eqf y c d) (x0 : 0 < x.2) (y0 : 0 < y.2) : Eqf (shr (x.1 * y.2 + y.1 * x.2) (x.2 * y.2)) (a * d + c * b) (b * d) := by
  unfold Eqf at hx hy
  refine eqf_trans (Int.mul_ne_zero (by omega) (by omega)) ?_
  grind
theorem eqf_minus {x y : Int × Int} {a b c d : Int} (hx : Eqf x a b) (hy : Eqf y c d) (x0 : 0 < x.2) (y0 : 0 < y.2) : Eqf (shr (x.1 * y.2 - y.1 * x.2) (x.2 * y.2)) (a * d - c * b) (b * d) := by
  unfold Eqf at hx hy
  refine eqf_trans (Int.mul_ne_zero (by omega) (by omega)) ?_
  grind
theorem eqf_times {x y : Int × Int} {a b c d : Int} (hx : Eqf x a b) (hy : Eqf y c d) (x0 : 0 < x.2) (y0 : 0 < y.2) : Eqf (shr (x.1 * y.1) (x.2 * y.2)) (a * c) (b * d) := by
  unfold Eqf at hx hy
  refine eqf_trans (Int.mul_ne_zero (by omega) (by omega)) ?_
  grind
def sgn (m : Int) : Int := if m < 0 then -1 else 1
theorem below_iff {x y : Int × Int} {a b c d : Int} (hx : Eqf x a b) (hy : Eqf y c d) (x0 : 0 < x.2) (y0 : 0 < y.2) (hb : b ≠ 0) (hd : d ≠ 0) : (x.1 * y.2 < y.1 * x.2) ↔ (sgn (b * d) * a * d < sgn (b * d) * c * b) := by
  unfold Eqf at hx hy
  have bd : b * d ≠ 0 := Int.mul_ne_zero hb hd
  have hp : 0 < sgn (b * d) * (b * d) := by
    unfold sgn
    split <;> omega
  have xy : 0 < x.2 * y.2 := Int.mul_pos x0 y0
  rw [← Int.mul_lt_mul_right hp, ← Int.mul_lt_mul_right (a := x.2 * y.2) (b := sgn (b * d) * a * d) xy]
  have e1 : x.1 * y.2 * (sgn (b * d) * (b * d)) = sgn (b * d) * a * d * (x.2 * y.2) := by grind
  have e2 : y.1 * x.2 * (sgn (b * d) * (b * d)) = sgn (b * d) * c * b * (x.2 * y.2) := by grind
  rw [e1, e2]
/-! ### sums -/
def PP : List (Int × Int) → Int
  | [] => 1
  | x :: l => x.2 * PP l
def NN : List (Int × Int) → Int
  | [] => 0
  | x :: l => x.1 * PP l + NN l * x.2
theorem PP_app : ∀ l m : List (Int × Int), PP (l ++ m) = PP l * PP m
  | [], m => by show PP m = 1 * PP m; omega
  | x :: l, m => by
    show x.2 * PP (l ++ m) = x.2 * PP l * PP m
    rw [PP_app l m, Int.mul_assoc]
theorem NN_app : ∀ l m : List (Int × Int), NN (l ++ m) = NN l * PP m + NN m * PP l
  | [], m => by
    show NN m = 0 * PP m + NN m * 1
    omega
  | x :: l, m => by
    show x.1 * PP (l ++ m) + NN (l ++ m) * x.2 = (x.1 * PP l + NN l * x.2) * PP m + NN m * (x.2 * PP l)
    rw [NN_app l m, PP_app l m]
    grind
theorem PP_snoc (l : List (Int × Int)) (x : Int × Int) : PP (l ++ [x]) = PP l * x.2 := by
  rw [PP_app]
  show PP l * (x.2 * 1) = _
  rw [Int.mul_one]
theorem NN_snoc (l : List (Int × Int)) (x : Int × Int) : NN (l ++ [x]) = NN l * x.2 + x.1 * PP l := by
  rw [NN_app]
  show NN l * (x.2 * 1) + (x.1 * 1 + 0 * x.2) * PP l = _
  grind
theorem PP_rev : ∀ l : List (Int × Int), PP l.reverse = PP l
  | [] => rfl
  | x :: l => by
    rw [List.reverse_cons, PP_snoc, PP_rev l]
    exact Int.mul_comm ..
theorem NN_rev : ∀ l : List (Int × Int), NN l.reverse = NN l
  | [] => rfl
  | x :: l => by
    rw [List.reverse_cons, NN_snoc, NN_rev l, PP_rev l]
    show NN l * x.2 + x.1 * PP l = x.1 * PP l + NN l * x.2
    omega
/-! ### sizes -/
def Sz (k : Nat) (n : Int) : Prop := n.natAbs < 2 ^ k
theorem Sz.mono {k m : Nat} {n : Int} (h : Sz k n) (e : k ≤ m) : Sz m n := Nat.lt_of_lt_of_le h (Nat.pow_le_pow_right (by decide) e)
theorem Sz.mul {k m : Nat} {a b : Int} (ha : Sz k a) (hb : Sz m b) : Sz (k + m) (a * b) := by
  unfold Sz
  rw [Int.natAbs_mul, Nat.pow_add]
  exact Nat.mul_lt_mul'' ha hb
theorem Sz.add {k : Nat} {a b : Int} (ha : Sz k a) (hb : Sz k b) : Sz (k + 1) (a + b) := by
  unfold Sz at *
  rw [Nat.pow_succ]
  omega
theorem Sz.sub {k : Nat} {a b : Int} (ha : Sz k a) (hb : Sz k b) : Sz (k + 1) (a - b) := by
  unfold Sz at *
  rw [Nat.pow_succ]
  omega
theorem Sz.mw {k m : Nat} {a b : Int} (ha : Sz k a) (hb : Sz m b) (h : k + m + 2 ≤ 1000000) : CMulW a b := wide_mul (ha.mono (Nat.le_succ k)) (hb.mono (Nat.le_succ m)) (by omega) (by omega) (by omega)
theorem Sz.div {k : Nat} {n d : Int} (p : Int) (h : Sz k n) (e : p * d = n) (hp : p ≠ 0) : Sz k d := by
  unfold Sz at *
  subst e
  rw [Int.natAbs_mul] at h
  refine Nat.lt_of_le_of_lt ?_ h
  exact Nat.le_mul_of_pos_left _ (by omega)
theorem shr_sz {k : Nat} {n d : Int} (hd : d ≠ 0) (hn : Sz k n) (h : Sz k d) : Sz k (shr n d).1 ∧ Sz k (shr n d).2 := ⟨hn.div (prt n d) (shr1 n d) (prt_ne hd), h.div (prt n d) (shr2 n d) (prt_ne hd)⟩
/-- // by any number but 0 below 2 ^ 9000 -/
def CDivX (_ j : Int) : Prop := j ≠ 0 ∧ j.natAbs.log2 < 9000
theorem op_fdivX {X : Cx} : OpR X (binaryOp .FloorDiv) (rI CDivX fun i j => .int (i.fdiv j)) := opI fun i j _ _ _ _ _ hc q => floordiv_int hc.1 q (.inl (PyProof.noPylong_of_log2 hc.2))
theorem gcd_turn (a b : Nat) (h : 0 < b) : Nat.gcd b (a % b) = Nat.gcd a b := by
  rw [Nat.gcd_comm a b, Nat.gcd_rec b a, Nat.gcd_comm]
theorem pg_tupK {X : Cx} {K' : PySem.W.Frag} (hK : X.K = K') {es : List Expr} {k : Nat} {pos : Pos} {t : TGs} {n : Nat} (hc : X.calm = true) (h : PGs X es t)
    (hn : (assignEach es X.env).length = n := by rfl) (hst : (assignEach es X.env).findIdx? (·.1) = none := by rfl) : PG X (.Tuple es k pos) (gTup K' n t) := by
  subst hK
  exact pg_tup hc h hn hst
end KA
namespace KA
open PySem PySem.Spec PyProof.Rows L2
/-- what isinstance asks of an own class -/
structure ICls (K : PySem.W.Frag) (C : Addr) : Prop where
  ha : PySem.W.findIn K (.ref C) "__class__" = some (some (.builtin "object.__class__"))
  hn : PySem.W.specialIn K (.builtin "object.__class__") "__get__" = some (some (.builtin "getset_descriptor.__get__"))
  htk : PySem.W.takesIn K (.builtin "object.__class__") = some true
  hm : PySem.W.mroIn K C (.type "object") = some true
  kit : PySem.W.kitOne K (.ref C) (.ref C) = some true
theorem ICls.ty {K : PySem.W.Frag} {C : Addr} (i : ICls K C) (cl : Cls K C) {H : Hp} {p dx : Addr} {fs : List (Str × V)} (h : H p = some (.ins C dx fs)) : TyX K H (.ref p) (.ref C) := .base (.ins h cl i.ha i.hn i.htk i.hm)
theorem prt_log {n d : Int} {k : Nat} (hd : d ≠ 0) (h : Sz k d) (hk : k ≤ 8000) : (prt n d).natAbs.log2 < 9000 := by
  rw [prt_abs]
  refine Nat.lt_of_lt_of_le (PySem.Flt.log2_lt_of (k := k + 1) (by omega) ?_) (by omega : k + 1 ≤ 9000)
  have : Int.gcd n d ≤ d.natAbs := Nat.le_of_dvd (by omega) (Int.gcd_dvd_natAbs_right n d)
  exact Nat.lt_of_le_of_lt this (h.mono (Nat.le_succ k))
theorem abs_nat (n : Int) : (if n < 0 then -n else n) = (n.natAbs : Int) := by
  split <;> omega
end KA
namespace KA
open PySem PySem.Spec PyProof.Rows L2
/-! ### isinstance of a caught error that has fields of its own -/
theorem xd_at {P : Program} {w : World} {H : Hp} {h : Heap} {dd : Addr} {fs : List (Str × V)} (hok : HOk P w H h) (e : H dd = some (.xd fs)) : ∃ od, h.get? dd = some od := by
  obtain ⟨mA, ⟨od, es, ep, ho, _⟩, _⟩ := (show ObjOk P w H h dd (.xd fs) from hok dd _ e)
  exact ⟨od, ho⟩
theorem kit_exc {K : PySem.W.Frag} {D x : Addr} {ox : Obj} {od : Option Obj} (C : ExcC K D) : PySem.W.KitX K (.ref x) (.ref D) (fun h => PySem.W.InstAt h x ox D od) :=
  PySem.W.kitx_exc (by obtain ⟨cd, hc, _⟩ := PySem.W.any_some C.hd; rw [hc]; rfl) C.hg C.hk C.hs C.ha C.hn C.ht C.hm
def rIsD (K : PySem.W.Frag) (a : Addr) (cls : Value) (d : Option Addr) : List V → Hp → VK → Prop := fun xs H Q => ∃ (D dd : Addr) (fs : List (Str × V)) (c : V) (u : Value) (b : Bool), xs = [.ref a, c] ∧ cls = .ref D ∧ d = some dd ∧ H dd = some (.xd fs) ∧ ExcC K D ∧ ClsV c u ∧ PySem.W.kitOne K (.ref D) u = some b ∧ Q (.bl b) H
def rIsDT (K : PySem.W.Frag) (a : Addr) (cls : Value) (d : Option Addr) : List V → Hp → VK → Prop := fun xs H Q => ∃ (D dd tp : Addr) (fs : List (Str × V)) (cs : List V) (us : List Value) (b : Bool), xs = [.ref a, .ref tp] ∧ cls = .ref D ∧ d = some dd ∧ H dd = some (.xd fs) ∧ ExcC K D ∧ H tp = some (.tup cs) ∧ Paired ClsV cs us ∧ PySem.W.kitAny K (.ref D) us = some b ∧ Q (.bl b) H
section
variable {X : Cx} {a : Addr} {oe : Obj} {cls : Value} {d : Option Addr} {pn : List (Addr × Obj)}
theorem inst_of {pins : List (Addr × Obj)} {σ : L2.St} {H : Hp} {s : Shared} {D dd : Addr} {fs : List (Str × V)} (hz : Zc (.ref D) (some dd) oe) (hf : ∃ vs, oe.data = .fields vs) (I : Inv (X.suite a ((a, oe) :: pn)) pins σ H s) (e : H dd = some (.xd fs)) : ∃ od, PySem.W.InstAt s.heap a oe D (some od) := by
  obtain ⟨hget, _⟩ := I.pin (a, oe) (List.mem_append.mpr (.inl List.mem_cons_self))
  obtain ⟨vs, hv⟩ := hf
  obtain ⟨od, ho⟩ := xd_at I.hok e
  exact ⟨od, hget, hz.1, by unfold PySem.W.notCls; rw [hv] <;> rfl, by rw [hz.2]; exact ho⟩
theorem call_isD (hz : Zc cls d oe) (hf : ∃ vs, oe.data = .fields vs) : CallR (X.suite a ((a, oe) :: pn)) (.builtin "isinstance") (rIsD X.K a cls d) := by
  intro pins s σ H xs us Q I r h
  obtain ⟨D, dd, fs, c, u, b, rfl, rfl, rfl, e, C, k, hk, q⟩ := h
  obtain ⟨u1, u2, rfl, r1, r2⟩ := vals2 r
  cases (show u1 = Value.ref a from r1)
  have e2 := k.eq r2
  subst e2
  obtain ⟨od, J⟩ := inst_of hz hf I e
  exact PySem.W.kia_one (kit_exc C) I.kIn J hk (fun z => nomatch z) fun tk => ⟨.bl b, H, I.tok tk, rfl, q⟩
theorem call_isDT (hz : Zc cls d oe) (hf : ∃ vs, oe.data = .fields vs) : CallR (X.suite a ((a, oe) :: pn)) (.builtin "isinstance") (rIsDT X.K a cls d) := by
  intro pins s σ H xs us Q I r h
  obtain ⟨D, dd, tp, fs, cs, ws, b, rfl, rfl, rfl, e, C, hT, k, hk, q⟩ := h
  obtain ⟨u1, u2, rfl, r1, r2⟩ := vals2 r
  cases (show u1 = Value.ref a from r1)
  cases (show u2 = Value.ref tp from r2)
  obtain ⟨od, J⟩ := inst_of hz hf I e
  obtain ⟨_, its, rv, o, h1, h2, n, h3⟩ := (show ObjOk X.prog X.w H s.heap tp (.tup cs) from I.hok tp _ hT)
  have e3 := ClsV.all k rv
  subst e3
  obtain ⟨oc, od', dt, sl⟩ := o
  simp only at h2 h3
  subst h2 h3
  exact PySem.W.kia_tup (kit_exc C) I.kIn J h1 hk (fun z => nomatch z) fun tk => ⟨.bl b, H, I.tok tk, rfl, q⟩
end
theorem call_isiS {X : Cx} {K' : PySem.W.Frag} (hK : X.K = K') : CallR X (.builtin "isinstance") (rIsi K') := by
  subst hK
  exact call_isi
/-! ### calls that let nothing out, bodies that are never run -/
theorem passF {X : Cx} : Passes (L2.CX X.prog X.w) X E0 := passes_call takes0 (fun _ _ _ _ h => h)
/-! ### keywords: which of what is handed in, of the defaults, of the keywords stands where -/
def kw1 {α : Type} (p : Nat × Nat) (us its ws : List α) : List α := match p with
  | (0, i) => us[i]?.toList
  | (1, i) => its[i]?.toList
  | (_, i) => ws[i]?.toList
def kw {α : Type} : List (Nat × Nat) → List α → List α → List α → List α
  | [], _, _, _ => []
  | p :: f, us, its, ws => kw1 p us its ws ++ kw f us its ws
theorem vals_at : ∀ {xs : List V} {us : List Value}, Vals xs us → ∀ i : Nat, (xs[i]? = none ∧ us[i]? = none) ∨ ∃ x u, xs[i]? = some x ∧ us[i]? = some u ∧ RelV x u
  | _, _, .nil, _ => .inl ⟨rfl, rfl⟩
  | _, _, .cons r _, 0 => .inr ⟨_, _, rfl, rfl, r⟩
  | _, _, .cons _ t, i + 1 => by
    rw [List.getElem?_cons_succ, List.getElem?_cons_succ]
    exact vals_at t i
theorem vals_one {xs : List V} {us : List Value} (h : Vals xs us) (i : Nat) : Vals xs[i]?.toList us[i]?.toList := by
  rcases vals_at h i with ⟨e1, e2⟩ | ⟨x, u, e1, e2, r⟩
  · rw [e1, e2]
    exact .nil
  · rw [e1, e2]
    exact .cons r .nil
theorem kw_rel : ∀ (f : List (Nat × Nat)) {vs ds zs : List V} {us is ws : List Value}, Vals vs us → Vals ds is → Vals zs ws → Vals (kw f vs ds zs) (kw f us is ws)
  | [], _, _, _, _, _, _, _, _, _ => .nil
  | (0, i) :: f, _, _, _, _, _, _, h1, h2, h3 => (vals_one h1 i).append (kw_rel f h1 h2 h3)
  | (1, i) :: f, _, _, _, _, _, _, h1, h2, h3 => (vals_one h2 i).append (kw_rel f h1 h2 h3)
  | (_ + 2, i) :: f, _, _, _, _, _, _, h1, h2, h3 => (vals_one h3 i).append (kw_rel f h1 h2 h3)
/-! ### PearlError's own way: one field -/
def spPearl (K : PySem.W.Frag) (f : Str) : Sp := fun vs H Q _ => ∃ (a C : Addr) (v : V), vs = [.ref a, v] ∧ OexC K C ∧ PySem.W.findIn K (.ref C) f = some none ∧ H a = some (exo a C none) ∧
  ∀ dx, H dx = none → dx ≠ a → Q .non (upd (upd H dx (exd dx [(f, v)])) a (exo a C (some dx)))
theorem pearl_same {H : Hp} {a dx : Addr} {o1 o2 o3 : HO} {fs : List (Str × V)} (ha : H a = none) (hd : H dx = none) : Same H (upd (del (upd (upd (upd H a o1) dx o2) a o3) a) dx (.xd fs)) := fun b o e => by
  rw [upd_ne (ne_of_none e hd), del_ne (ne_of_none e ha), upd_ne (ne_of_none e ha), upd_ne (ne_of_none e hd), upd_ne (ne_of_none e ha)]
  exact e
end KA
/-! errors of own classes over any built-in class of errors: made, stored into -/
namespace KA
open PySem PySem.W PySem.Calls PyProof.Rows
section
open Builtin Builtin.ObjectAttr
variable {prog : Program} {w : World} {A : Around} {E : Value → Shared → Prop} {R : Result → Shared → Prop} {hp : Heap} {g : Array GenState} {d : Drawn} {t : Nat} {os : OsState} {B : String} {bmB : List Value}
theorem gosa {K : W.Frag} {name : Str} {tk : Tok} {v : Value} {x C : Addr} {fv : Array Value} {cd : ClassData} {bm : List Value} (SF : StoreFacts B bmB "object.__setattr__" "object")
    (X : K.In hp) (hx : hp.get? x = some { cls := .ref C, data := .fields fv }) (hcd : W.clsIn K C = some cd) (hmr : cd.mro = .ref C :: bm) (hm : W.excTail bmB bm = true) (hh : cd.hasDict = true) (ha : W.findIn K (.ref C) name = some none)
    (hq : ∀ h' tk' dx, (∀ b o, b ≠ x → hp.get? b = some o → h'.get? b = some o) → hp.objs.size ≤ dx → dx ≠ x → h'.get? x = some { cls := .ref C, dict := some dx, data := .fields fv } →
      h'.Ns1 dx (fun y => if y = name then some v else none) → R (.ok (.ret .none)) ⟨h', g, d, tk', os⟩) :
    codeAny (model prog w) A (.call (.builtin "object.__setattr__") ⟨[.ref x, .str name tk, v], []⟩) R ⟨hp, g, d, t, os⟩ := by
  have I : W.InstAt hp x { cls := .ref C, data := .fields fv } C none := ⟨hx, rfl, rfl, trivial⟩
  have hxs : x ≠ hp.objs.size := Nat.ne_of_lt (Heap.lt_size hx)
  have tl : W.excTail bmB cd.mro = true := by rw [hmr]; exact hm
  have hob : cd.mro.contains (.type "object") = true := (W.excTail_contains "object" _ tl).trans SF.hasOwner
  have sub : W.Looks (model prog w) hp (isInstance (.ref x) (.type "object")) true := I.type.andThen (W.looks_mroIn X (by unfold W.mroIn; rw [hcd, Option.bind_some, if_neg (by rw [hmr]; simp), hob]))
  have SO := F.store_object
  refine codeAny_call_builtin SO.slot.plain SO.entry (@W.check_slot (model prog w) _ _ ⟨hp, g, d, t, os⟩ "object.__setattr__" "object" "__setattr__" (.ref x) [.str name tk, v] [] _ SO.kind SO.split sub (SO.args (.ref x) (.str name tk) v) ?_)
  have L1 : W.Looks (model prog w) hp (mroOf (.ref C)) cd.mro := (W.looks_clsIn X hcd).andThen .now
  have L2 : W.Looks (model prog w) hp (storeTaker? none) none := .now
  have L3 : W.Looks (model prog w) hp (classData C) cd := W.looks_clsIn X hcd
  rw [W.osa_eq, refuse_eq]
  refine wpAny_bind (wpAny_bind (I.type.at (wpAny_bind (L1.at ?_))))
  rw [W.excTail_pass _ (SF.passes _) _ tl]
  refine wpAny_pure (wpAny_bind (I.type.at (wpAny_bind ((W.looks_findIn X ha).at (wpAny_bind (L2.at ?_))))))
  show wpAny _ _ (storeInOwnDict (.ref x) (.ref C) (.str name tk) name v false) _ _ _
  obtain ⟨nm, bs, mro, ns, qn, hd, sn, sb, ab, col, del⟩ := cd
  dsimp only at hh
  subst hh
  unfold storeInOwnDict ownDictForStores
  repeat (first | with_reducible refine HandSPX.store_in_new ?_ ?_ | with_reducible refine wpAny_loadPart_at hx ?_ | with_reducible refine L3.at ?_ | wp_step)
  · exact ⟨_, #[], _, (Heap.get?_update_ne _ _ _ _ hxs.symm).trans (Heap.get?_push_at rfl rfl), rfl, fun e he => absurd he (by simp), fun _ => rfl⟩
  · intro h' tk' hn' hs
    have hx₁ : (hp.push { cls := .type "dict", data := .dict #[] }).get? x = some { cls := .ref C, data := .fields fv } := Heap.get?_push_of_some _ hx
    refine hq h' tk' hp.objs.size (fun b o hb ho => ?_) (Nat.le_refl _) hxs.symm ?_ hn'
    · exact (hs.2 b (Nat.ne_of_lt (Heap.lt_size ho))).trans ((Heap.get?_update_ne _ _ _ _ hb).trans (Heap.get?_push_of_some _ ho))
    · exact (hs.2 x hxs).trans (Heap.get?_update_self _ hx₁ rfl)
theorem gosa_old {K : W.Frag} {name : Str} {tk : Tok} {v : Value} {x C dx : Addr} {fv : Array Value} {cd : ClassData} {bm : List Value} {m0 : Str → Option Value} {nl : List Str} (SF : StoreFacts B bmB "object.__setattr__" "object")
    (X : K.In hp) (hx : hp.get? x = some { cls := .ref C, dict := some dx, data := .fields fv }) (hns : hp.Ns1 dx m0) (hw : Within m0 nl) (hz : nl.length ≤ 1000) (hcd : W.clsIn K C = some cd) (hmr : cd.mro = .ref C :: bm) (hm : W.excTail bmB bm = true) (hh : cd.hasDict = true)
    (ha : W.findIn K (.ref C) name = some none)
    (hq : ∀ h' tk', (∀ b o, b ≠ dx → hp.get? b = some o → h'.get? b = some o) → h'.Ns1 dx (fun y => if y = name then some v else m0 y) → R (.ok (.ret .none)) ⟨h', g, d, tk', os⟩) :
    codeAny (model prog w) A (.call (.builtin "object.__setattr__") ⟨[.ref x, .str name tk, v], []⟩) R ⟨hp, g, d, t, os⟩ := by
  obtain ⟨oD, esD, epD, hoD, hdD, _⟩ := hns.count hw
  have I : W.InstAt hp x { cls := .ref C, dict := some dx, data := .fields fv } C (some oD) := ⟨hx, rfl, rfl, hoD⟩
  have tl : W.excTail bmB cd.mro = true := by rw [hmr]; exact hm
  have hob : cd.mro.contains (.type "object") = true := (W.excTail_contains "object" _ tl).trans SF.hasOwner
  have sub : W.Looks (model prog w) hp (isInstance (.ref x) (.type "object")) true := I.type.andThen (W.looks_mroIn X (by unfold W.mroIn; rw [hcd, Option.bind_some, if_neg (by rw [hmr]; simp), hob]))
  have SO := F.store_object
  refine codeAny_call_builtin SO.slot.plain SO.entry (@W.check_slot (model prog w) _ _ ⟨hp, g, d, t, os⟩ "object.__setattr__" "object" "__setattr__" (.ref x) [.str name tk, v] [] _ SO.kind SO.split sub (SO.args (.ref x) (.str name tk) v) ?_)
  have L1 : W.Looks (model prog w) hp (mroOf (.ref C)) cd.mro := (W.looks_clsIn X hcd).andThen .now
  have L2 : W.Looks (model prog w) hp (storeTaker? none) none := .now
  have L3 : W.Looks (model prog w) hp (classData C) cd := W.looks_clsIn X hcd
  rw [W.osa_eq, refuse_eq]
  refine wpAny_bind (wpAny_bind (I.type.at (wpAny_bind (L1.at ?_))))
  rw [W.excTail_pass _ (SF.passes _) _ tl]
  refine wpAny_pure (wpAny_bind (I.type.at (wpAny_bind ((W.looks_findIn X ha).at (wpAny_bind (L2.at ?_))))))
  show wpAny _ _ (storeInOwnDict (.ref x) (.ref C) (.str name tk) name v false) _ _ _
  obtain ⟨nm, bs, mro, ns, qn, hd, sn, sb, ab, col, del⟩ := cd
  dsimp only at hh
  subst hh
  unfold storeInOwnDict ownDictForStores
  repeat (first | with_reducible refine OEX.store_in_old hns hw hz ?_ | with_reducible refine wpAny_loadPart_at hx ?_ | with_reducible refine L3.at ?_ | wp_step)
  intro h' tk' hn' hs
  exact hq h' tk' (fun b o hb ho => (hs.2 b hb).trans ho) hn'
end
end KA
namespace KA
open PySem PySem.Spec PyProof.Rows L2
/-- what the written part says of a class of errors over the built-in one B -/
structure OexB (newId : String) (bmB : List Value) (K : PySem.W.Frag) (C : Addr) : Prop where
  cls : ∃ nm q N bs bm sn sub ab col dd k0 k1 k2 k3 k5, K.lookup C = some (excClassObj nm q C N bs bm true sn sub ab col dd k0 k1 k2 k3 k5 newId) ∧ PySem.W.excTail bmB bm = true
  sa : PySem.W.findIn K (.ref C) "__setattr__" = some (some (.builtin "object.__setattr__"))
  exC : PySem.W.subIn K (.ref C) (.type "BaseException") = some true
  tyC : PySem.W.typeIn K (.ref C) = some (.type "type")
  kC : PySem.W.keepIn K (.ref C) = true
section
variable {X : Cx} {pins : List (Addr × Obj)} {σ : L2.St} {H : Hp} {s : Shared} {a C dx : Addr} {f : Str} {y : V} {u : Value} {fs : List (Str × V)} {Q : Unit → Shared → Prop} {E : Value → Shared → Prop} {A : Around} {B newId initId : String} {bmB : List Value}
theorem gost_new (SF : StoreFacts B bmB "object.__setattr__" "object") (T : OexB newId bmB X.K C) (I : L2.Inv X pins σ H s) (e : H a = some (exo a C none)) (hno : PySem.W.findIn X.K (.ref C) f = some none) (ry : RelV y u)
    (h : ∀ dx s', H dx = none → dx ≠ a → L2.Inv X pins σ (upd (upd H dx (exd dx [(f, y)])) a (exo a C (some dx))) s' → Q () s') : wpAny (model X.prog X.w) A (setAttr (.ref a) f u) Q E s := by
  obtain ⟨nm, q, N, bs, bm, sn, sub, ab, col, dd, k0, k1, k2, k3, k5, hC, hbm⟩ := T.cls
  have hcl : PySem.W.clsIn X.K C = some { name := nm, bases := bs, mro := .ref C :: bm, ns := N, qualname := q, hasDict := true, slotNames := sn, subclasses := sub, abstract := ab, collection := col, hasDel := false } := by unfold PySem.W.clsIn; rw [hC] <;> rfl
  obtain ⟨t1, ho⟩ := exo_at I.hok e
  obtain ⟨hp, g, d, t, os⟩ := s
  refine PySem.W.set_plain I.kIn (ox := { cls := .ref C, dict := none, data := .fields #[.ref t1, .none, .none, .none, .bool false, .none] }) (od := none) ⟨ho, rfl, rfl, trivial⟩ T.sa ?_
  refine gosa SF I.kIn ho hcl rfl hbm rfl hno (fun h' tk' dx k dn dne hx hn => ?_)
  have hnd : H dx = none := I.hok.fresh dn
  have nd : ∀ {b : Addr} {o : Obj}, hp.get? b = some o → b ≠ dx := fun {b o} q => Nat.ne_of_lt (Nat.lt_of_lt_of_le (Heap.lt_size q) dn)
  have na : ∀ {b : Addr}, H b = none → b ≠ a := fun {b} n z => by
    rw [z, e] at n
    cases n
  have U : Un X.fs [] H (upd (upd H dx (exd dx [(f, y)])) a (exo a C (some dx))) hp h' := {
    keep := fun b o q n _ _ => k b o (na n) q
    slot := fun b o q n _ _ => ⟨o.slots, k b o (na n) q⟩
    free := fun b o q n _ => by rw [upd_ne (na n), upd_ne (nd q)]; exact n
    there := fun b o q _ => by
      by_cases hb : b = a
      · exact ⟨_, by rw [hb]; exact hx⟩
      · exact ⟨o, k b o hb q⟩
    tups := fun b xs q => by rw [upd_ne (at_ne e q exo_tup), upd_ne (ne_of_none q hnd)]; exact q
    frzs := fun b o v q => by rw [upd_ne (at_ne e q exo_frz), upd_ne (ne_of_none q hnd)]; exact q
    tbls := fun b ps q => ⟨#[], by rw [upd_ne (at_ne e q exo_tbl), upd_ne (ne_of_none q hnd), q]; simp⟩ }
  refine h dx _ hnd dne (I.un (t' := tk') U fun b o q => ?_)
  by_cases hb : b = a
  · subst hb
    rw [upd_same] at q
    cases q
    exact exo_ok hx
  · rw [upd_ne hb] at q
    by_cases hd : b = dx
    · subst hd
      rw [upd_same] at q
      cases q
      exact exd_ok hn (relO_put (fs := []) ry fun g => True.intro)
    · rw [upd_ne hd] at q
      exact (I.hok b o q).stay (fun c v hc z => k c v (by
          rcases hc with hc | hc
          · rw [hc]
            exact hb
          · exact at_ne e hc exo_own) z)
        (fun c hc => by rw [upd_ne (at_ne e hc exo_own), upd_ne (ne_of_none hc hnd)]; exact hc) (fun c xs hc => by rw [upd_ne (at_ne e hc exo_tup), upd_ne (ne_of_none hc hnd)]; exact hc)
theorem gost_old (SF : StoreFacts B bmB "object.__setattr__" "object") (T : OexB newId bmB X.K C) (I : L2.Inv X pins σ H s) (e : H a = some (exo a C (some dx))) (ed : H dx = some (exd dx fs)) (hl : fs.length ≤ 900) (hno : PySem.W.findIn X.K (.ref C) f = some none) (ry : RelV y u)
    (h : ∀ s', L2.Inv X pins σ (upd H dx (exd dx ((f, y) :: fs))) s' → Q () s') : wpAny (model X.prog X.w) A (setAttr (.ref a) f u) Q E s := by
  obtain ⟨nm, q, N, bs, bm, sn, sub, ab, col, dd, k0, k1, k2, k3, k5, hC, hbm⟩ := T.cls
  have hcl : PySem.W.clsIn X.K C = some { name := nm, bases := bs, mro := .ref C :: bm, ns := N, qualname := q, hasDict := true, slotNames := sn, subclasses := sub, abstract := ab, collection := col, hasDel := false } := by unfold PySem.W.clsIn; rw [hC] <;> rfl
  obtain ⟨t1, ho⟩ := exo_at I.hok e
  obtain ⟨mA, hns, rel⟩ := exd_at I.hok ed
  have hw := within_of rel
  obtain ⟨hp, g, d, t, os⟩ := s
  obtain ⟨oD, _, _, hoD, _, _⟩ := hns.count hw
  refine PySem.W.set_plain I.kIn (ox := { cls := .ref C, dict := some dx, data := .fields #[.ref t1, .none, .none, .none, .bool false, .none] }) (od := some oD) ⟨ho, rfl, rfl, hoD⟩ T.sa ?_
  refine gosa_old SF I.kIn ho hns hw (by rw [List.length_map]; omega) hcl rfl hbm rfl hno (fun h' tk' k hn => ?_)
  have hd : ∃ o, h'.get? dx = some o := by
    obtain ⟨o, _, _, e', _⟩ := hn
    exact ⟨o, e'⟩
  exact h _ (I.write (t' := tk') (x := dx) (e := dx) (o := exd dx ((f, y) :: fs)) (by rw [ed]; exact True.intro) (.inl rfl) k hd (exd_ok hn (relO_put ry rel)))
theorem goinit {us : List Value} {Q : Value → Shared → Prop} (FB : ExcBaseFacts B newId initId bmB) (T : OexB newId bmB X.K C) (I : L2.Inv X pins σ H s) (e : H a = some (exo a C none)) (hl : us.length ≤ sizeLine) (h : ∀ s', L2.Inv X pins σ H s' → Q .none s') :
    wpAny (model X.prog X.w) A (call (.builtin initId) (.ref a :: us)) Q E s := by
  obtain ⟨nm, q, N, bs, bm, sn, sub, ab, col, dd, k0, k1, k2, k3, k5, hC, hbm⟩ := T.cls
  obtain ⟨t1, ho⟩ := exo_at I.hok e
  obtain ⟨hp, g, d, t, os⟩ := s
  refine wpAny_call (PySem.HandSPX.init_base FB (fun Y => PySem.W.excTail_contains Y bm hbm) (I.kIn _ _ hC) ho hl fun h' t2 k hx => ?_)
  have J := I.write (t' := t) (x := a) (e := a) (o := exo a C none) (by rw [e]; exact True.intro) (.inl rfl) k ⟨_, hx⟩ (exo_ok hx)
  have eu : upd H a (exo a C none) = H := by
    funext b
    by_cases hb : b = a
    · rw [hb, upd_same, e]
    · rw [upd_ne hb]
  rw [eu] at J
  exact h _ J
end
/-- B.__init__(self, ..) -/
def tBI (newId : String) (bmB : List Value) (K : PySem.W.Frag) (ta : TA) : TE := fun σ H Q => ta σ H fun vs H1 => ∃ (a C : Addr) (ws : List V), vs = .ref a :: ws ∧ ws.length ≤ 1000 ∧ OexB newId bmB K C ∧ H1 a = some (exo a C none) ∧ Q .non H1
/-- self.f = e -/
def tOstB (newId : String) (bmB : List Value) (K : PySem.W.Frag) (f : Str) (to te : TE) : TS := fun D σ H => te σ H fun y H1 => to σ H1 fun x H2 => ∃ a C : Addr, x = .ref a ∧ OexB newId bmB K C ∧ PySem.W.findIn K (.ref C) f = some none ∧
  ((H2 a = some (exo a C none) ∧ ∀ dx, H2 dx = none → dx ≠ a → D.nx σ (upd (upd H2 dx (exd dx [(f, y)])) a (exo a C (some dx)))) ∨
    ∃ (dx : Addr) (fs : List (Str × V)), H2 a = some (exo a C (some dx)) ∧ H2 dx = some (exd dx fs) ∧ fs.length ≤ 900 ∧ D.nx σ (upd H2 dx (exd dx ((f, y) :: fs))))
section
variable {X : Cx} {o e : Expr} {es : List Expr} {to te : TE} {ta : TA} {f : Str} {p p' p1 p2 pos : Pos} {B newId initId : String} {bmB : List Value}
/-- B.__init__(self, ..) of a built-in class of errors -/
theorem pe_binit {pl : Sem Bool} {x : Str} (FB : ExcBaseFacts B newId initId bmB) (hg : Gl X x) (hm : X.mg x = none) (hv : bootBuiltins x = some (.type B)) (htp : typeOf (.type B) = pure (.type "type")) (hst : Manifest.isStub B = false) (hhi : PySem.W.handedIn (.builtin initId) = true)
    (vV : PySem.W.findCls X.K (.type B) (.type "type") "__init__" = some (.val (.builtin initId))) (ha : PA X (e :: es) ta)
    (hc : eval (.Call (.Attribute (.Name x p1) "__init__" p2) (e :: es) [] pos) X.env = (do
      let ov ← eval (.Name x p1) X.env
      standAt p2.atName
      let (f, first) ← holding [ov] (getMethod ov "__init__" pl)
      callWith pos f first (backTo pos (starEach (e :: es) X.env)) (backToKw pos (keywordEach [] X.env))) := by rfl)
    (he : starEach (e :: es) X.env = (false, eval e X.env) :: starEach es X.env := by rfl) (hpl : (backTo pos (starEach es X.env)).any (·.1) = false := by rfl) (hn : x ≠ "__name__" := by decide) (hdb : (x == ("__debug__" : Str)) = false := by decide) :
    PE X (.Call (.Attribute (.Name x p1) "__init__" p2) (e :: es) [] pos) (tBI newId bmB X.K ta) := by
  refine ⟨fun pins s σ H Q I h => ?_⟩
  refine PySem.W.methodCall_KW (ld_blt I hg hm hv ?_ hn hdb) hc
  obtain ⟨m, fr⟩ := I.fr
  refine PySem.W.method_type fr I.ok.mod.kin htp hst vV hhi ?_
  show wpAny _ _ (callWith pos (Value.builtin initId) [] (backTo pos (starEach (e :: es) X.env)) []) _ _ _
  refine PyProof.Rows.callWith_method1 (thn (ha.run pos pins _ σ H _ (I.tok _) h) fun us s1 ⟨vs, H1, I1, r1, a, C, ws, ev, hl, T, ea, q⟩ => ?_) he hpl
  subst ev
  cases r1 with
  | @cons _ u0 _ ur ra rw' =>
    obtain rfl : u0 = Value.ref a := ra
    have hlen : ur.length ≤ sizeLine := by
      rw [← Paired.length rw', sizeLine_eq]
      omega
    exact goinit FB T I1 ea hlen fun s' J => ⟨.non, H1, J, rfl, q⟩
theorem ps_ostB (SF : StoreFacts B bmB "object.__setattr__" "object") (ho : PE X o to) (he : PE X e te) (hs : swapsWith e (some (.Attribute o f p')) pos.line X.env = pure false := by rfl) : PS X (.Assign [.Attribute o f p'] e pos) (tOstB newId bmB X.K f to te) := by
  refine ⟨fun pins s σ H D I h => ?_⟩
  refine plainObj_wpAny_Assign_Attribute (thn (he.run pins s σ H _ I h) fun v s1 ⟨y, H1, I1, r1, q1⟩ => thn (ho.run pins s1 σ H1 _ I1 q1) fun u s2 ⟨x, H2, I2, r2, a, C, ex, T, hno, q⟩ => ?_) hs
  subst ex
  obtain rfl : u = Value.ref a := r2
  rcases q with ⟨ea, q⟩ | ⟨dx, fs, ea, ed, hl, q⟩
  · exact gost_new SF T I2 ea hno r1 fun dx s' n ne J => ⟨σ, _, J, q dx n ne⟩
  · exact gost_old SF T I2 ea ed hl hno r1 fun s' J => ⟨σ, _, J, q⟩
theorem pmk_gex {CX : CXT} {x : Str} {C fI : Addr} {k : Nat} {fd : FuncData} {ps : List Str} {sp : Sp} {ds : List Value} {dvs : List V} (FB : ExcBaseFacts B newId initId bmB) (T : OexB newId bmB X.K C) (iC : PySem.W.findIn X.K (.ref C) "__init__" = some (some (.ref fI))) (tI : PySem.W.typeIn X.K (.ref fI) = some (.type "function"))
    (F1 : FnOk X.prog X.w X.K X.mg X.base CX k fI fd ps sp) (hr : Room (k + 1) X.A) (hb : Binds X.K fd ps ds) (hd : Vals dvs ds) (hx : Passes CX X (fun _ _ _ => False)) (hg : Gl X x) (hm : X.mg x = some (.ref C)) (ha : PA X (e :: es) ta)
    (hdb : (x == ("__debug__" : Str)) = false := by decide) (he : starEach (e :: es) X.env = (false, eval e X.env) :: starEach es X.env := by rfl) (hpl : (backTo pos (starEach es X.env)).any (·.1) = false := by rfl) :
    PMk X (.Call (.Name x p) (e :: es) [] pos) (tMkO C sp dvs ta) := by
  intro pins s σ H Q I h
  obtain ⟨nm, q, N, bs, bm, sn, sub, ab, col, dd, k0, k1, k2, k3, k5, hC, hbm⟩ := T.cls
  refine wpAny_Call_Name_kw (ld_glob I hg hm ?_ hdb)
  refine PySem.W.callWith_K (h₀ := X.base) I.ok.mod.kin T.kC (thn (ha.run pos pins s σ H _ I h) fun us s1 ⟨vs, H1, I1, r1, hz, q1⟩ => ⟨I1.kIn, ?_⟩) he hpl
  show wpAny _ _ (call (.ref C) us) _ _ _
  obtain ⟨hp, g, dr, tk, os⟩ := s1
  have hsz : hp.objs.size ≤ hp.objs.size + 1 := Nat.le_succ _
  have hn : H1 (hp.objs.size + 1) = none := I1.hok.fresh hsz
  have hq := q1 (hp.objs.size + 1) hn
  have kk : ∀ b o, hp.get? b = some o → ((hp.push (PySem.W.kdv_tup us)).push (PySem.HandSPX.excO C hp.objs.size)).get? b = some o := fun b o e => Heap.get?_push_of_some _ (Heap.get?_push_of_some _ e)
  have hget : ((hp.push (PySem.W.kdv_tup us)).push (PySem.HandSPX.excO C hp.objs.size)).get? (hp.objs.size + 1) = some (PySem.HandSPX.excO C hp.objs.size) := by heap_get
  have I2 : L2.Inv X pins σ (upd H1 (hp.objs.size + 1) (exo (hp.objs.size + 1) C none)) ⟨(hp.push (PySem.W.kdv_tup us)).push (PySem.HandSPX.excO C hp.objs.size), g, dr, tk, os⟩ :=
    I1.laid (t' := tk) (a := hp.objs.size + 1) (o := exo (hp.objs.size + 1) C none) (h' := (hp.push (PySem.W.kdv_tup us)).push (PySem.HandSPX.excO C hp.objs.size)) kk hsz (exo_ok hget)
  have r2 : Vals (V.ref (hp.objs.size + 1) :: (vs ++ dvs)) (Value.ref (hp.objs.size + 1) :: (us ++ ds)) := .cons rfl (r1.append hd)
  have hl : (Value.ref (hp.objs.size + 1) :: us ++ ds).length = ps.length := by
    have e := r2.length
    rw [F1.len _ _ _ _ hq] at e
    exact e.symm
  have hus : us.length ≤ sizeLine := by
    rw [← Paired.length r1, sizeLine_eq]
    omega
  refine wpAny_call (PySem.HandSPX.call_own FB (fun Y => PySem.W.excTail_contains Y bm hbm) (I1.kIn _ _ hC) (PySem.W.looks_findIn I1.kIn iC) (fun self => PySem.W.bind_fn I1.kIn self tI) hus
    (codeAny_mono (F1.run _ X.stack _ _ ⟨Value.ref (hp.objs.size + 1) :: us, []⟩ (Value.ref (hp.objs.size + 1) :: (us ++ ds)) _ _ (fun _ _ _ => False) (hr.make C us []) (I2.env0.make C us []) (hb _ (Value.ref (hp.objs.size + 1) :: us) I2.kIn hl) r2 hq) fun r s' hq' => ?_))
  cases r with
  | error er => exact hx pins σ _ _ er s' I2 hq'
  | ok fl =>
    cases fl with
    | ret u =>
      obtain ⟨v, H2, os2, bare2, un2, hok2, rv, ev, d, fs, ea, ed, hd1, q2⟩ := hq'
      subst ev
      obtain ⟨h2, g2, d2, t2, os'⟩ := s'
      exact ⟨rv, mk_end (raises_own T.exC T.tyC) I1 hsz kk un2 hok2 os2 bare2 ea ed hd1 q2⟩
    | next => exact False.elim hq'
    | brk => exact False.elim hq'
    | cont => exact False.elim hq'
end
/-- what a B.__init__ + one field of its own promises: E(v) with field f -/
def spErr (newId : String) (bmB : List Value) (K : PySem.W.Frag) (f : Str) : Sp := fun vs H Q _ => ∃ (a C : Addr) (v : V), vs = [.ref a, v] ∧ OexB newId bmB K C ∧ PySem.W.findIn K (.ref C) f = some none ∧ H a = some (exo a C none) ∧
  ∀ dx, H dx = none → dx ≠ a → Q .non (upd (upd H dx (exd dx [(f, v)])) a (exo a C (some dx)))
abbrev zdT : List Value := [.type "ZeroDivisionError", .type "ArithmeticError", .type "Exception", .type "BaseException", .type "object"]
abbrev ixT : List Value := [.type "IndexError", .type "LookupError", .type "Exception", .type "BaseException", .type "object"]
abbrev luT : List Value := [.type "LookupError", .type "Exception", .type "BaseException", .type "object"]
theorem typ_ZD : typeOf (.type "ZeroDivisionError") = pure (.type "type") := by kernel_rfl
theorem typ_IX : typeOf (.type "IndexError") = pure (.type "type") := by kernel_rfl
theorem typ_LU : typeOf (.type "LookupError") = pure (.type "type") := by kernel_rfl
end KA
namespace KA
open PySem PySem.Spec PyProof.Rows L2
/-! a try with several except clauses, each with a name of its own -/
def endsAs (D : Ends) (j : Nat) : Ends where
  nx := fun τ G => D.nx (τ.set j none) G
  rt := D.rt
  bk := fun τ G => D.bk (τ.set j none) G
  ct := fun τ G => D.ct (τ.set j none) G
abbrev HSpec := Value × Nat × (Addr → Value → Option Addr → TS)
def wAll (K : PySem.W.Frag) (Wo : WX) (D : Ends) : List HSpec → WX
  | [] => Wo
  | (c, j, t) :: more => fun k o τ G => ∃ b, PySem.W.exmOne K k c = some b ∧ (b = true → ∀ z, G z = none → t z k o (endsAs D j) (τ.set j (some (.ref z))) G) ∧ (b = false → wAll K Wo D more k o τ G)
inductive HAs (X : Cx) : List ExceptHandler → List HSpec → Prop
  | nil : HAs X [] []
  | cons {x n : Str} {c : Value} {j : Nat} {t : Addr → Value → Option Addr → TS} {s0 : Stmt} {su : List Stmt} {np hp : Pos} {hs : List ExceptHandler} {l : List HSpec} (nm : Names X x c) (hj : X.N[j]? = some n) (hl : X.env.kindOf n = some .local)
      (run : ∀ (z : Addr) (ob : Obj) (k : Value) (o : Option Addr) (pn : List (Addr × Obj)), Zc k o ob → (∃ ws, ob.data = .fields ws) → PSs (X.suite z ((z, ob) :: pn)) (s0 :: su) (t z k o)) (more : HAs X hs l) :
      HAs X (.ExceptHandler (some (.Name x np)) (some n) (s0 :: su) hp :: hs) ((c, j, t) :: l)
section
variable {X : Cx} {body : List Stmt} {h1 : ExceptHandler} {hs : List ExceptHandler} {l : List HSpec} {pos : Pos} {tb : WX → TS} {Wo : WX}
theorem ps_try_all (st : X.stack = X.env :: X.outer) (fr : X.env.frame = some X.env.locals) (nd : X.N.Nodup) (tk : Takes X Wo)
    (hb : ∀ (W : WX) (pn : List (Addr × Obj)) (xe : Value → Shared → Prop), Takes (X.tr pn xe) W → PassesOwn (model X.prog X.w) X.A X.env xe → PSs (X.tr pn xe) body (tb W))
    (hh : HAs X (h1 :: hs) l) : PS X (.Try body (h1 :: hs) [] [] pos) (fun D σ H => tb (wAll X.K Wo D l) D σ H) := by
  constructor
  intro pins s σ H D I h
  have ok := I.ok
  have frs' : X.A.frames = some (X.env :: X.outer) := ok.frames.trans (congrArg some st)
  apply wpAny_Try_except
  let xe' : Value → Shared → Prop := fun u s1 => wpAny (model X.prog X.w) X.A (noteFrame u X.env) (fun _ s2 => wpAny (model X.prog X.w) X.A (setFlight u none) (fun _ s3 => wpAny (model X.prog X.w) X.A (handleBy u X.env (h1 :: hs)) (SP X pins D) X.xe s3) X.xe s2) X.xe s1
  have land : Takes (X.tr (X.pn ++ pins) xe') (wAll X.K Wo D l) := by
    rintro u s' ⟨z, B, sI, qins, τ, G, k, o, rfl, J0, c1, c2, c3, c4, c5, c6, c7⟩
    have J : Inv X pins τ G sI := J0.ofTry ok
    have sky : Sky B (X.env :: X.outer) z (Zc k o) X.env.locals s'.heap := by
      rw [← st]
      exact c3
    show wpAny (model X.prog X.w) X.A (noteFrame (.ref z) X.env) _ _ _
    refine Sky.land Zc.steady frs' fr sky fun g fl u3 => ?_
    have J3 : Inv X pins τ G { s' with heap := g } := J.landed c1 fl.1 (c2.trans u3) c5 c6
    obtain ⟨ob, ws, e3, z3, d3⟩ := fl.there
    have noFr : z ∉ frs (X.env :: X.outer) := fun hm => by
      obtain ⟨_, ob', e', nf⟩ := Heap.FunFrames.mem fl.2.2.1 hm
      have := e3.symm.trans e'
      cases this
      exact nf _ d3
    have noL : z ≠ X.env.locals := fun q => noFr (List.mem_filterMap.mpr ⟨X.env, List.mem_cons_self, fr.trans (congrArg some q.symm)⟩)
    have noS : z ∉ X.fs := fun hm => by
      obtain ⟨en, hen, q⟩ := List.mem_filterMap.mp hm
      exact noFr (List.mem_filterMap.mpr ⟨en, List.mem_cons_of_mem _ hen, q⟩)
    have S3 := J3.suite e3 d3 c4 noL noS
    have LT : PySem.W.Looks (model X.prog X.w) g (typeOf (.ref z)) k := fun A Q E t0 kk q => wpAny_typeOf_ref (kk _ _ e3) (by rw [z3.1]; exact q)
    have each : ∀ {hs' : List ExceptHandler} {l' : List HSpec}, HAs X hs' l' → wAll X.K Wo D l' k o τ G → wpAny (model X.prog X.w) X.A (handleBy (.ref z) X.env hs') (SP X pins D) X.xe { s' with heap := g } := by
      intro hs' l' hk
      induction hk with
      | nil =>
        intro wo
        apply wpAny_handleBy_nil
        obtain ⟨k1, k2, k3, oe, vs, T, oT, ts', he, hz, hd, hT, hr⟩ := id fl
        unfold PySem.passOn
        refine wpAny_bind (wpAny_field he hd hT ?_)
        have nn : ¬ ((Value.ref T == Value.none) = true) := by simp
        rw [if_neg nn]
        have out : wpAny (model X.prog X.w) X.A (setFlight (.ref z) X.env.frame) (fun _ s4 => wpAny (model X.prog X.w) X.A (throw (.ref z) : Sem Flow) (SP X pins D) X.xe s4) X.xe { s' with heap := g } := by
          rw [fr]
          refine HandSPX.setFlight_upZ fl fun g4 f4 u4 => wpAny_throw (tk _ _ ⟨z, B, sI, pins, τ, G, k, o, rfl, J, c1, (c2.trans u3).trans u4, .inr (.inr ?_), c4, c5, c6, wo⟩)
          rw [st]
          exact f4
        first
          | exact wpAny_bind (wpAny_pure (wpAny_bind out))
          | exact wpAny_bind out
      | @cons x n c j t s0 su np hp hs2 l2 nm hj hl run more ih =>
        rintro ⟨b, hb1, yes, no⟩
        refine wpAny_handleBy_cons (codeAny_handlers_test ?_) (fun q => by cases q)
        have ask : ∀ {Q : Value → Shared → Prop} {E : Value → Shared → Prop}, Q c { s' with heap := g } → wpAny (model X.prog X.w) (X.A.mark (some (.ref z))) (eval (.Name x np) X.env) Q E { s' with heap := g } := fun {Q E} q => by
          rcases nm with ⟨n1, n2, m1 | ⟨m1, m2, m3⟩⟩
          · exact ld_glob (X := X.suite z ((z, ob) :: (X.pn ++ pins))) S3 n1 m1 q n2
          · exact ld_blt (X := X.suite z ((z, ob) :: (X.pn ++ pins))) S3 n1 m1 m2 q m3 n2
        refine ask ((PySem.W.exm_one (M := model X.prog X.w) J3.kIn LT hb1).here ?_)
        cases b with
        | false => exact ih (no rfl)
        | true =>
          refine codeAny_handlers_suite_as (HandSPX.lands_againZ fl fun g4 f4 u4 => ?_)
          have J4 : Inv X pins τ G { s' with heap := g4 } := J.landed c1 f4.1 ((c2.trans u3).trans u4) c5 c6
          obtain ⟨ob4, ws4, e4, z4, d4⟩ := f4.there
          have S4 := J4.suite e4 d4 c4 noL noS
          refine store_ok (X := X.suite z ((z, ob4) :: (X.pn ++ pins))) (v := .ref z) S4 nd hj (.inl hl) rfl (fun s5 S5 => ?_) (.inr hl)
          have ran := (run z ob4 k o (X.pn ++ pins) z4 ⟨_, d4⟩).run [] s5 _ G _ S5 (yes rfl z c4)
          have close : ∀ {s6 : Shared} {τ6 : L2.St} {G6 : Hp} {Q : Shared → Prop}, Inv (X.suite z ((z, ob4) :: (X.pn ++ pins))) [] τ6 G6 s6 → (∀ s7, Inv X pins (τ6.set j none) G6 s7 → Q s7) →
              wpAny (model X.prog X.w) X.A (do bindName X.env n .none; unbindBehindTheSuite X.env n hp) (fun _ s7 => Q s7) X.xe s6 := fun S6 hq => gone_ok (S6.unsuite ok) nd hj hl hq
          refine wpAny_mono ran (fun fl6 s6 hsp => ?_) (fun _ _ q => q.elim)
          cases fl6 with
          | ret u =>
            obtain ⟨v6, τ6, G6, S6, r6, q6⟩ := hsp
            exact close S6 fun s7 J7 => ⟨_, _, _, J7, r6, q6⟩
          | next =>
            obtain ⟨τ6, G6, S6, q6⟩ := hsp
            exact close S6 fun s7 J7 => ⟨_, _, J7, q6⟩
          | brk =>
            obtain ⟨τ6, G6, S6, q6⟩ := hsp
            exact close S6 fun s7 J7 => ⟨_, _, J7, q6⟩
          | cont =>
            obtain ⟨τ6, G6, S6, q6⟩ := hsp
            exact close S6 fun s7 J7 => ⟨_, _, J7, q6⟩
    exact each hh c7
  refine wpAny_mono ((hb (wAll X.K Wo D l) (X.pn ++ pins) xe' land PassesOwn.looking).run [] s σ H D (I.toTry _) h) (fun fl s1 hsp => ?_) (fun u s1 hu => hu)
  cases fl with
  | ret u =>
    obtain ⟨v, τ, G, J, r, q⟩ := hsp
    exact ⟨v, τ, G, J.ofTry ok, r, q⟩
  | next =>
    obtain ⟨τ, G, J, q⟩ := hsp
    exact wpAny_execs_nil ⟨τ, G, J.ofTry ok, q⟩
  | brk =>
    obtain ⟨τ, G, J, q⟩ := hsp
    exact ⟨τ, G, J.ofTry ok, q⟩
  | cont =>
    obtain ⟨τ, G, J, q⟩ := hsp
    exact ⟨τ, G, J.ofTry ok, q⟩
end
end KA
namespace KA
open PySem PySem.Spec PyProof.Rows L2
/-- B.__init__(self, ..), B an own class: a def of the class, called as it stands there -/
structure ClsFn (K : PySem.W.Frag) (C : Addr) (nm : Str) (f : Addr) : Prop where
  ga : PySem.W.specialIn K (.ref C) "__getattribute__" = some (some (.builtin "type.__getattribute__"))
  rd : PySem.W.readsIn K C (.type "type") = true
  fd : PySem.W.findCls K (.ref C) (.type "type") nm = some (.val (.ref f))
  kp : PySem.W.keepIn K (.ref f) = true
section
variable {X : Cx} {CX : CXT} {k : Nat} {f C : Addr} {fd : FuncData} {ps : List Str} {ds : List Value} {dvs : List V} {sp : Sp} {E : XK} {x nm : Str} {p1 p2 pos : Pos} {e : Expr} {es : List Expr} {t : TA}
theorem pe_cfn {pl : Sem Bool} (c : ClsFn X.K C nm f) (F : FnOk X.prog X.w X.K X.mg X.base CX k f fd ps sp) (hr : Room k X.A) (hg : Gl X x) (hm : X.mg x = some (.ref C)) (hb : Binds X.K fd ps ds) (hd : Vals dvs ds) (hx : Passes CX X E)
    (ha : PA X (e :: es) t) (hdb : (x == ("__debug__" : Str)) = false := by decide)
    (hc : eval (.Call (.Attribute (.Name x p1) nm p2) (e :: es) [] pos) X.env = (do
      let ov ← eval (.Name x p1) X.env
      standAt p2.atName
      let (g, first) ← holding [ov] (getMethod ov nm pl)
      callWith pos g first (backTo pos (starEach (e :: es) X.env)) (backToKw pos (keywordEach [] X.env))) := by rfl)
    (he : starEach (e :: es) X.env = (false, eval e X.env) :: starEach es X.env := by rfl) (hpl : (backTo pos (starEach es X.env)).any (·.1) = false := by rfl) :
    PE X (.Call (.Attribute (.Name x p1) nm p2) (e :: es) [] pos) (tCall sp dvs E t) := by
  constructor
  intro pins s σ H Q I h
  refine PySem.W.methodCall_KW (ld_glob I hg hm ?_ hdb) hc
  refine PySem.W.method_cls I.kIn c.ga (PySem.W.cls_value I.kIn c.rd c.fd rfl ?_)
  have I' := I.tok (s.toks + 1)
  refine PySem.W.callWith_K (first := []) (h₀ := X.base) I.ok.mod.kin c.kp (thn (ha.run pos pins _ σ H _ I' h) fun us s1 ⟨vs, H1, I1, r, q⟩ => ⟨I1.kIn, ?_⟩) he hpl
  exact run_fn F hr hb hd hx I1 r q
end
/-! methods with keywords alone, and methods within a try -/
def tMN (C : Addr) (nm : Str) (m : Nat) (sp : Sp) (gV : List V → List V → List V) (E : L2.St → XK) (ta : TE) (tk : TA) : TE := fun σ H Q => ta σ H fun x H1 => ∃ (a dx : Addr) (fs : List (Str × V)), x = .ref a ∧ H1 a = some (.ins C dx fs) ∧ fs.lookup nm = none ∧
  tk σ H1 fun zs H2 => zs.length = m ∧ sp (gV [.ref a] zs) H2 Q (E σ)
section
variable {X : Cx} {CX : CXT} {k : Nat} {f C : Addr} {fd : FuncData} {ps ks : List Str} {sp : Sp} {E : L2.St → XK} {nm : Str} {apos pos : Pos} {o : Expr} {kws : List Keyword} {ta : TE} {tk : TA} {g : List Value → List Value → List Value} {gV : List V → List V → List V}
theorem pe_methN {pl : Sem Bool} (ho : PE X o ta) (c : Cls X.K C) (hm : Meth X.K C nm f) (F : FnOk X.prog X.w X.K X.mg X.base CX k f fd ps sp) (hr : Room k X.A) (hb : KBn X.K fd ps 1 ks g gV) (hx : ∀ σ, PassesAt CX X σ (E σ)) (hkw : PK X kws tk)
    (hall : (backToKw pos (keywordEach kws X.env)).all (·.1.isSome) = true := by rfl) (hks : (backToKw pos (keywordEach kws X.env)).filterMap (·.1) = ks := by rfl)
    (hpl : ((backTo pos (starEach [] X.env)).any (·.1) || (backToKw pos (keywordEach kws X.env)).any (·.1.isNone)) = false := by rfl)
    (ht : eval (.Call (.Attribute o nm apos) [] kws pos) X.env = (do
      let ov ← eval o X.env
      standAt apos.atName
      let (g, first) ← holding [ov] (getMethod ov nm pl)
      callWith pos g first (backTo pos (starEach [] X.env)) (backToKw pos (keywordEach kws X.env))) := by rfl) :
    PE X (.Call (.Attribute o nm apos) [] kws pos) (tMN C nm ks.length sp gV E ta tk) := by
  constructor
  intro pins s σ H Q I h
  refine PySem.W.methodCall_KW (pl := pl) (thn (ho.run pins s σ H _ I h) fun u s1 ⟨x, H1, I1, rx, a, dx, fs, ex, ea, lk, q⟩ => ?_) ht
  subst ex
  obtain rfl : u = Value.ref a := rx
  refine getmeth_ok I1 ea c hm lk ?_
  refine PySem.W.callWith_KW0 (first := [.ref a]) (h₀ := X.base) I.ok.mod.kin hm.kp hall ?_ hpl
  refine thn (hkw.run pos pins s1 σ H1 _ I1 q) fun ws s2 ⟨zs, H2, I2, rz, l2, q2⟩ => ⟨I2.kIn, ?_⟩
  rw [hks]
  have r1 : Vals [V.ref a] [Value.ref a] := .cons rfl .nil
  refine wpAny_call (codeAny_mono (F.run X.A X.stack s2 H2 ⟨[Value.ref a], ks.zip ws⟩ (g [Value.ref a] ws) (gV [V.ref a] zs) Q (E σ) hr I2.env0 (hb.to s2 [Value.ref a] ws I2.kIn rfl (rz.length.symm.trans l2)) (hb.rel r1 rz) q2) fun r s' hq => ?_)
  match r, hq with
  | .error er, hq => exact hx σ pins H2 s2 er s' I2 hq
  | .ok (.ret u), hq => exact I2.after hq
  | .ok .next, hq => exact hq.elim
  | .ok .brk, hq => exact hq.elim
  | .ok .cont, hq => exact hq.elim
end
end KA
namespace KA
open PySem PySem.Spec PyProof.Rows L2
section
variable {X : Cx} {n : Nat}
/-- x == y (or another comparison), x an instance of the class at C whose own def keeps sp, y of any kind -/
def rOwn (K : PySem.W.Frag) (C : Addr) (sp : Sp) (E : XK) : R2 := fun x y H Q => ∃ (a dx : Addr) (fs : List (Str × V)) (t : Value), x = .ref a ∧ H a = some (.ins C dx fs) ∧ TyX K H y t ∧ PySem.W.notFirst K C t = true ∧ sp [.ref a, y] H (fun v H' => (∃ b, v = .bl b) ∧ Q v H') E
theorem op_own {op : CmpOp} {CX : CXT} {C f : Addr} {fd : FuncData} {ps : List Str} {sp : Sp} {E : XK} (F : FnOk X.prog X.w X.K X.mg X.base CX n f fd ps sp)
    (hs : PySem.W.findIn X.K (.ref C) (cmpInfo op).2.1 = some (some (.ref f))) (hf : PySem.W.isFn X.K (.ref f) = true) (hb : Binds X.K fd ps []) (hx : Passes CX X E) (hr : Room n X.A) (ho : compareOp op = richCompare op := by rfl) : OpR X (compareOp op) (rOwn X.K C sp E) := by
  intro pins s σ H x y u v Q I rx ry d
  obtain ⟨a, dx, fs, t, rfl, ha, ty, hn, hsp⟩ := d
  cases rx
  obtain ⟨mA, J, _⟩ := ins_get I.hok ha
  obtain ⟨od, J, _⟩ := J.look
  obtain ⟨Pz, Z, p, _⟩ := kit_of I ry ty
  obtain ⟨m, hF⟩ := I.fr
  rw [ho]
  refine PySem.W.cmp_K (op := op) (tb := t) hr.units0 hF I.ok.mod.kin J (Z.ty _ _ I.kIn p) hn hs hf ?_
  have hl := F.len _ _ _ _ hsp
  have r2 : Vals [V.ref a, y] [Value.ref a, v] := .cons rfl (.cons ry .nil)
  refine wpAny_call (codeAny_mono (F.run X.A X.stack s H ⟨[.ref a, v], []⟩ [.ref a, v] [.ref a, y] _ E hr I.env0 (by
    have := hb s [.ref a, v] I.kIn (by simpa using hl)
    simpa using this) r2 hsp) fun r s' hq => ?_)
  cases r with
  | error e => exact hx pins σ H s e s' I hq
  | ok fl =>
    cases fl with
    | ret w =>
      obtain ⟨z, H', I', rz, ⟨b, ez⟩, q⟩ := I.after hq
      subst ez
      cases rz
      exact ⟨.bl b, H', I', rfl, q⟩
    | next => exact False.elim hq
    | brk => exact False.elim hq
    | cont => exact False.elim hq
end
end KA
namespace KA
open PySem PySem.Spec PySem.W PyProof.Rows
section
variable {prog : Program} {w : World} {A : Around} {E : Value → Shared → Prop} {s : Shared} {K : Frag} {x C f : Addr} {ox : Obj} {od : Option Obj}
theorem repr_K {Q : Value → Shared → Prop} (hu : A.in1.units < cLine) (X : K.In s.heap) (I : InstAt s.heap x ox C od) (hs : findIn K (.ref C) "__repr__" = some (some (.ref f))) (hf : isFn K (.ref f) = true)
    (hcall : wpAny (model prog w) A.in1 (call (.ref f) [.ref x]) (fun r s' => ∃ m tk, r = .str m tk ∧ Q (.str m tk) s') E s) :
    wpAny (model prog w) A (call (.builtin "repr") [.ref x]) Q E s := by
  refine Calls.call_function_entry F.kind_repr F.plain_repr F.entry_repr (F.args_repr1 _) ?_
  unfold Builtin.«repr»
  refine wpAny_bind (m := oneArg "repr" _) (wpAny_pure ?_)
  refine wpAny_bind (wpAny_cRoomFor hu ?_)
  refine wpAny_bind (wpAny_bind (I.type.here ((looks_findIn X hs).here ?_)))
  show wpAny _ _ (if (some (Value.ref f)).isNone = true then _ else _) _ _ _
  rw [if_neg (by simp)]
  refine wpAny_bind (m := callSpecialIfBound? (.ref x) (Str.ofString "__repr__") _) (ifBound_K X I hs hf (wpAny_mono hcall (fun r s' hr => ?_) fun _ _ y => y))
  obtain ⟨m, tk, rfl, hq⟩ := hr
  refine wpAny_bind (wpAny_isInstance (typeIs_str _ _ _) isSubtype_str_str ?_)
  first
    | exact wpAny_pure ⟨_, rfl, hq⟩
    | (rw [if_pos rfl]; exact wpAny_pure ⟨_, rfl, hq⟩)
    | (simp only [if_true]; exact wpAny_pure ⟨_, rfl, hq⟩)
end
end KA
namespace KA
open PySem PySem.Spec PyProof.Rows L2
section
variable {X : Cx} {n : Nat} {CX : CXT} {C f : Addr} {fd : FuncData} {ps : List Str} {sp : Sp} {E : XK}
/-- repr(x), str(x): x an instance of the class at C, whose own def keeps sp -/
def rShow (C : Addr) (sp : Sp) (E : XK) : List V → Hp → VK → Prop := fun xs H Q => ∃ (a dx : Addr) (fs : List (Str × V)), xs = [.ref a] ∧ H a = some (.ins C dx fs) ∧ sp [.ref a] H (fun v H' => (∃ m, v = .str m) ∧ Q v H') E
theorem run_self {A : Around} {pins : List (Addr × Obj)} {σ : L2.St} {H : Hp} {s : Shared} {a : Addr} {Q : VK} (F : FnOk X.prog X.w X.K X.mg X.base CX n f fd ps sp) (hb : Binds X.K fd ps []) (hx : Passes CX X E) (hr : Room n A) (hA : A.frames = X.A.frames) (I : L2.Inv X pins σ H s)
    (hsp : sp [.ref a] H (fun v H' => (∃ m, v = .str m) ∧ Q v H') E) : wpAny (model X.prog X.w) A (call (.ref f) [.ref a]) (fun r s' => ∃ m tk, r = .str m tk ∧ EP X pins σ Q (.str m tk) s') X.xe s := by
  have e0 : Env0 X.prog X.w X.K X.mg X.base A X.stack s H := by
    have e := I.env0
    exact ⟨by rw [hA]; exact e.frames, e.mod, e.bs, e.bsz, e.funs, e.frf, e.hok, e.bare⟩
  have hl := F.len _ _ _ _ hsp
  have r2 : Vals [V.ref a] [Value.ref a] := .cons rfl .nil
  refine wpAny_call (codeAny_mono (F.run A X.stack s H ⟨[.ref a], []⟩ [.ref a] [.ref a] _ E hr e0 (by
    have := hb s [.ref a] I.kIn (by simpa using hl)
    simpa using this) r2 hsp) fun r s' hq => ?_)
  cases r with
  | error e => exact hx pins σ H s e s' I hq
  | ok fl =>
    cases fl with
    | ret w =>
      obtain ⟨z, H', I', rz, ⟨m, ez⟩, q⟩ := I.after hq
      subst ez
      obtain ⟨tk, rfl⟩ := (show ∃ t, w = Value.str m t from rz)
      exact ⟨m, tk, rfl, .str m, H', I', ⟨tk, rfl⟩, q⟩
    | next => exact False.elim hq
    | brk => exact False.elim hq
    | cont => exact False.elim hq
theorem call_reprO (F : FnOk X.prog X.w X.K X.mg X.base CX n f fd ps sp) (hs : PySem.W.findIn X.K (.ref C) "__repr__" = some (some (.ref f))) (hf : PySem.W.isFn X.K (.ref f) = true) (hb : Binds X.K fd ps []) (hx : Passes CX X E) (hr : Room (n + 1) X.A) :
    CallR X (.builtin "repr") (rShow C sp E) := by
  intro pins s σ H xs us Q I r h
  obtain ⟨a, dx, fs, rfl, ha, hsp⟩ := h
  obtain ⟨u, rfl, r1⟩ := vals1 r
  cases (show u = Value.ref a from r1)
  obtain ⟨mA, J, _⟩ := ins_get I.hok ha
  obtain ⟨od, J, _⟩ := J.look
  exact repr_K hr.in1.units0 I.kIn J hs hf (run_self F hb hx hr.in1 rfl I hsp)
theorem call_strO (F : FnOk X.prog X.w X.K X.mg X.base CX n f fd ps sp) (hs : PySem.W.findIn X.K (.ref C) "__str__" = some (some (.ref f))) (hf : PySem.W.isFn X.K (.ref f) = true) (hb : Binds X.K fd ps []) (hx : Passes CX X E) (hr : Room (n + 2) X.A) :
    CallR X (.type "str") (rShow C sp E) := by
  intro pins s σ H xs us Q I r h
  obtain ⟨a, dx, fs, rfl, ha, hsp⟩ := h
  obtain ⟨u, rfl, r1⟩ := vals1 r
  cases (show u = Value.ref a from r1)
  obtain ⟨mA, J, _⟩ := ins_get I.hok ha
  obtain ⟨od, J, _⟩ := J.look
  refine PySem.W.kso_call hr.in1.in1.units0 I.kIn J hs hf (wpAny_mono (run_self F hb hx hr.in1.in1 rfl I hsp) (fun r s' hr => ?_) fun _ _ y => y)
  obtain ⟨m, tk, rfl, q⟩ := hr
  exact q
/-- {x}: a text, an int, a truth -/
def tFmtB (te : TE) : TE := fun σ H Q => te σ H fun x H1 => (∃ y : Str, x = .str y ∧ y.length ≤ sizeLine ∧ Q (.str y) H1) ∨ (∃ i : Int, x = .int i ∧ i.natAbs.log2 < 1920 ∧ Q (.str (toString i)) H1) ∨ ∃ b : Bool, x = .bl b ∧ Q (.str (if b then "True" else "False")) H1
theorem pe_fmtB {e : Expr} {te : TE} {pos : Pos} (he : PE X e te) : PE X (.FormattedValue e (-1) none pos) (tFmtB te) := by
  refine ⟨fun pins s σ H Q I h => ?_⟩
  refine wpAny_FormattedValue_plain (thn (he.run pins s σ H _ I h) fun v s1 hv => ?_)
  obtain ⟨x, H1, I1, r1, q⟩ := hv
  rcases q with ⟨y, rfl, hz, q⟩ | ⟨i, rfl, hz, q⟩ | ⟨b, rfl, q⟩
  · obtain ⟨t, rfl⟩ := r1
    exact wpAny_formatField_str ⟨.str y, H1, I1, ⟨t, rfl⟩, q⟩ ⟨.str y, H1, I1.tok _, ⟨_, rfl⟩, q⟩ hz
  · obtain ⟨t, rfl⟩ := r1
    exact wpAny_formatField_int hz ⟨.str (toString i), H1, I1.tok _, ⟨_, rfl⟩, q⟩
  · cases (show v = Value.bool b from r1)
    exact wpAny_formatField_bool ⟨.str (if b then "True" else "False"), H1, I1.tok _, ⟨_, rfl⟩, q⟩
end
end KA
namespace KA
open PySem PySem.Spec PyProof.Rows L2
section
variable {prog : Program} {w : World} {A : Around} {E : Value → Shared → Prop} {s : Shared} {a : Addr} {o : Obj}
theorem lrep_head {Q : Fin → Shared → Prop} {x : Value} {l : List Value} {n : Nat} {b : Nat} (hget : s.heap.get? a = some o) (hd : o.data = .seq (x :: l).toArray n)
    (h1 : wpAny (model prog w) A (do again (.builtin "list.__repr__.loop" ⟨[.ref a, rawInt 0, ← newList [], rawInt b], []⟩)) Q E s) (h2 : ∀ u tk, Q (.done (.ret (.str "[...]" u))) { s with toks := tk }) :
    wpAny (model prog w) A (Builtin.listReprAt b ⟨[.ref a], []⟩) Q E s := by
  unfold Builtin.listReprAt
  show wpAny _ _ (Builtin.List.listItems (.ref a) >>= _) _ _ s
  refine wpAny_bind (wpAny_listItems hget hd ?_)
  refine PySem.W.KFB.if_not rfl ?_
  refine wpAny_bind (wpAny_stack_any fun st => ?_)
  dsimp only
  split
  · refine wpAny_bind (wpAny_rule ?_)
    exact wpAny_bind (wpAny_mkStr (wpAny_pure (h2 _ _)) (by decide +kernel))
  · exact h1
theorem lrep_way : ("[...]" : Str).length ≤ 5 := by decide +kernel
/-- list.__repr__, whatever is under way -/
theorem lrep_call {Q : Value → Shared → Prop} {x : Value} {l : List Value} {n : Nat} {ts : List Str} (hc : o.cls = .type "list") (ha : s.heap.get? a = some o) (hd : o.data = .seq (x :: l).toArray n) (hlen : ts.length = (x :: l).toArray.size)
    (hT : ∀ (i : Nat) (y : Value), (x :: l).toArray[i]? = some y → ∃ t, ts[i]? = some t ∧ ReprIs prog w y t) (hsz : (listText ts).length ≤ sizeLine)
    (h : ∀ h' (m : Str) u tk, (∀ b z, s.heap.get? b = some z → h'.get? b = some z) → m.length ≤ (listText ts).length + 5 → Q (.str m u) { s with heap := h', toks := tk }) :
    wpAny (model prog w) A (call (.builtin "list.__repr__") [.ref a]) Q E s := by
  refine wpAny_call (codeAny_call_builtin F.slot_list_repr.plain F.entry_list_repr (F.slot_list_repr.check _ _ _ _ _ _ _ _ ⟨o, ha, hc⟩ (F.args_list_repr_1 _) ?_))
  refine lrep_head (b := 0) ha hd ?_ (fun u tk => h s.heap _ u tk (fun _ _ e => e) (Nat.le_trans lrep_way (Nat.le_add_left _ _)))
  refine wpAny_bind (m := newList []) (wpAny_newObj_type ?_)
  refine wpAny_pure ⟨F.quiet_list_repr_loop _, ?_⟩
  refine codeAny_list_repr_start (P := s.heap.objs.size) (Nat.ne_of_lt (Heap.lt_size ha)) hlen hT (Heap.get?_push_of_some _ ha) hd (Heap.get?_push_size _ rfl) (fun h' u tk hk => ?_) (by omega)
  exact h h' _ u tk (fun b z e => hk b z (Nat.ne_of_lt (Heap.lt_size e)) (Heap.get?_push_of_some _ e)) (Nat.le_add_right _ _)

theorem drep_way : ("{...}" : Str).length ≤ 5 := by decide +kernel
/-- dict.__repr__ of {}, whatever is under way -/
theorem drep_call {Q : Value → Shared → Prop} {ep : Nat} (hc : o.cls = .type "dict") (ha : s.heap.get? a = some o) (hd : o.data = .dict #[] ep) (hsys : (a == sysModules) = false)
    (h : ∀ (m : Str) u tk, m.length ≤ 10 → Q (.str m u) { s with toks := tk }) : wpAny (model prog w) A (call (.builtin "dict.__repr__") [.ref a]) Q E s := by
  refine wpAny_call (codeAny_call_builtin_own (Code.quiet_builtin _ (by decide +kernel)) F.entry_dict_repr (F.slot_dict_repr.check _ _ _ _ _ _ _ _ ⟨o, ha, hc⟩ (F.args_dict_repr_1 _) (wpOwn_of_wpAny ?_)))
  show wpAny _ _ (Builtin.dictReprAt 0 ⟨[.ref a], []⟩) _ _ s
  unfold Builtin.dictReprAt
  refine wpAny_bind ?_
  unfold Builtin.Dict.dictSlotNone
  refine wpAny_bind (wpAny_notOrdered_dict ⟨o, ha, hc⟩ ?_)
  show wpAny _ _ (pure (Value.ref a)) _ _ s
  refine wpAny_pure ?_
  rw [dictReprRunning_eq]
  refine wpAny_bind (wpAny_bind (wpAny_stack_any fun st => wpAny_pure ?_))
  split
  · refine wpAny_bind (wpAny_rule ?_)
    exact wpAny_bind (wpAny_mkStr (wpAny_pure (h _ _ _ (Nat.le_trans drep_way (by decide)))) (by decide +kernel))
  · show wpAny _ _ (Builtin.Dict.addrOf (.ref a) >>= _) _ _ s
    refine wpAny_bind (wpAny_pure ?_)
    show wpAny _ _ (Builtin.Dict.showsAll a >>= _) _ _ s
    unfold Builtin.Dict.showsAll
    rw [if_neg (by rw [hsys]; exact Bool.false_ne_true)]
    refine wpAny_bind (wpAny_pure (wpAny_bind (wpAny_dictEpoch ha hd (wpAny_bind (wpAny_dictEntries ha hd ?_)))))
    refine wpAny_bind ?_
    rw [Std.Legacy.Range.forIn_eq_forIn_range']
    show wpAny _ _ (forIn [] _ _) _ _ s
    refine wpAny_pure ?_
    refine wpAny_bind (wpAny_mkStr (wpAny_pure (h _ _ _ ?_)) (by decide +kernel))
    decide +kernel
end
/-- str() of what is shown by its __repr__ -/
theorem str_by {prog : Program} {w : World} {A : Around} {E : Value → Shared → Prop} {s : Shared} {a : Addr} {o : Obj} {Q : Value → Shared → Prop} {T idr : String} {N : Nat} (hu : A.units + 3 < cLine) (hc : o.cls = .type T) (ha : s.heap.get? a = some o)
    (slotStr : Slot T "__str__" "object.__str__") (slotRepr : SlotG T "__repr__" idr)
    (rep : ∀ (prog' : Program) (w' : World) (A' : Around) (E' : Value → Shared → Prop) (s' : Shared) (Q' : Value → Shared → Prop), s'.heap.get? a = some o →
      (∀ h' (m : Str) u tk, (∀ b z, s'.heap.get? b = some z → h'.get? b = some z) → m.length ≤ N → Q' (.str m u) { s' with heap := h', toks := tk }) → wpAny (model prog' w') A' (call (.builtin idr) [.ref a]) Q' E' s')
    (h : ∀ h' (m : Str) u tk, (∀ b z, s.heap.get? b = some z → h'.get? b = some z) → m.length ≤ N → Q (.str m u) { s with heap := h', toks := tk }) :
    wpAny (model prog w) A (call (.type "str") [.ref a]) Q E s :=
  callType_new F.called_str (by decide) (F.typeCall_str_1 _) (F.newCall_str_1 _) (fun obj => F.args_object_init_2 obj _) F.entry_str_new
    (meets_str_new (S := fun A' R s' => A'.units + 2 < cLine ∧ s'.heap.get? a = some o ∧
        ∀ h' (m : Str) u tk, (∀ b z, s'.heap.get? b = some z → h'.get? b = some z) → m.length ≤ N → R (.ok (.ret (.str m u))) { s' with heap := h', toks := tk })
      fun prog' w' A' R s' g => wpAny_strOf_slot rfl (by show A'.units + 1 + 1 < cLine; have := g.1; omega) ⟨o, g.2.1, hc⟩ slotStr slotRepr (rep prog' w' _ _ s' _ g.2.1 fun h' m u tk hk hm => ⟨m, u, rfl, g.2.2 h' m u tk hk hm⟩))
    ⟨by show A.units + 1 + 2 < cLine; omega, ha, fun h' m u tk hk hm => ⟨typeIs_str _ _ _, h h' m u tk hk hm⟩⟩
/-- a thing without parts, of bounded text -/
inductive Leaf : V → Prop
  | int (i : Int) (h : i.natAbs.log2 < 1000) : Leaf (.int i)
  | str (z : Str) (h : z.length ≤ 1000) (hc : ∀ c ∈ z.cps.toList, c < 16 ^ 8) : Leaf (.str z)
  | bl (b : Bool) : Leaf (.bl b)
  | non : Leaf .non
theorem size_20k : (20000 : Nat) ≤ sizeLine := by decide
theorem leaf_repr {prog : Program} {w : World} {v : V} {u : Value} (h : Leaf v) (r : RelV v u) : ∃ t : Str, ReprIs prog w u t ∧ t.length ≤ 12000 := by
  cases h with
  | int i hi =>
    obtain ⟨t, rfl⟩ := r
    refine ⟨_, ReprIs.int t (by omega), ?_⟩
    have e := int_text_length_le (k := 1000) (by decide) hi
    show (Str.ofString (toString i)).length ≤ 12000
    rw [PySem.ofString_length]
    omega
  | str z hz hc =>
    obtain ⟨t, rfl⟩ := r
    have h1 := StrLaws.reprText_len z hc
    have := size_20k
    exact ⟨_, ReprIs.str z t (by omega), by omega⟩
  | bl b =>
    cases r
    exact ⟨_, ReprIs.bool b, by cases b <;> decide⟩
  | non =>
    cases r
    exact ⟨_, ReprIs.none, by decide⟩
section
variable {X : Cx}
theorem list_text_one (t : Str) : (listText [t]).length ≤ t.length + 4 := by
  have h := piled_le_listText [t]
  have h2 := textFrom_len [t] 0 "["
  show (textFrom 0 "[" [t] ++ "]").length ≤ _
  rw [strLen_append]
  show (("[" : Str) ++ (if 0 > 0 then ", " else "" : String) ++ t).length + 1 ≤ _
  rw [strLen_append, strLen_append]
  show 1 + 0 + t.length + 1 ≤ _
  omega
/-- the same, of texts of any signs -/
inductive LeafW : V → Prop
  | int (i : Int) (h : i.natAbs.log2 < 1000) : LeafW (.int i)
  | str (z : Str) (h : z.length ≤ 3000) : LeafW (.str z)
  | bl (b : Bool) : LeafW (.bl b)
  | non : LeafW .non
theorem Leaf.w {v : V} (h : Leaf v) : LeafW v := by
  cases h with
  | int i h => exact .int i h
  | str z h _ => exact .str z (by omega)
  | bl b => exact .bl b
  | non => exact .non
/-- what str() is asked of: a thing without parts, or one list, tuple of one, or {} -/
inductive Leaf1 (K : PySem.W.Frag) (H : Hp) : V → Prop
  | leaf {v : V} (h : LeafW v) : Leaf1 K H v
  | lst {a : Addr} {v : V} (e : H a = some (.lst [v])) (h : Leaf v) : Leaf1 K H (.ref a)
  | tup {a : Addr} {v : V} (e : H a = some (.tup [v])) (h : Leaf v) : Leaf1 K H (.ref a)
  | dct {a : Addr} (e : H a = some (.dK [])) : Leaf1 K H (.ref a)
def rStrL (K : PySem.W.Frag) : List V → Hp → VK → Prop := fun xs H Q => ∃ x, xs = [x] ∧ Leaf1 K H x ∧ ∀ m : Str, m.length ≤ 20000 → (Leaf x → m.length ≤ 1002) → Q (.str m) H
theorem call_str_leaf {k : Nat} (hr : Room k X.A) : CallR X (.type "str") (rStrL X.K) := by
  intro pins s σ H xs us Q I r h
  obtain ⟨x, rfl, hx, q⟩ := h
  obtain ⟨u, rfl, rx⟩ := vals1 r
  have hz := size_20k
  have hu := hr.units
  cases hx with
  | leaf hl =>
    cases hl with
    | int i hi =>
      obtain ⟨t, rfl⟩ := rx
      have e : (Str.ofString (toString i)).length ≤ 1002 := by
        have e := int_text_length_le (k := 1000) (by decide) hi
        rw [PySem.ofString_length]
        omega
      exact PySem.P.str_of_int (by omega) ⟨.str _, H, I.tok _, ⟨_, rfl⟩, q _ (Nat.le_trans e (by decide)) (fun _ => e)⟩
    | str z hz' =>
      obtain ⟨t, rfl⟩ := rx
      refine PySem.P.str_of_str ⟨.str _, H, I, ⟨_, rfl⟩, q _ (by omega) (fun l => ?_)⟩
      cases l
      omega
    | bl b =>
      cases rx
      exact PySem.P.str_of_bool ⟨.str _, H, I.tok _, ⟨_, rfl⟩, q _ (by cases b <;> decide) (fun _ => by cases b <;> decide)⟩
    | non =>
      cases rx
      exact PySem.P.str_of_none ⟨.str _, H, I.tok _, ⟨_, rfl⟩, q _ (by decide) (fun _ => by decide)⟩
  | @lst a v e hl =>
    cases rx
    obtain ⟨_, its, n, rv, ho⟩ : _ ≤ sizeLine ∧ ∃ (its : List Value) (n : Nat), Vals [v] its ∧ s.heap.get? a = some { cls := .type "list", data := .seq its.toArray n } := I.hok a _ e
    obtain ⟨u, rfl, ru⟩ := vals1 rv
    refine str_by (N := 13000) (by omega) rfl ho F.slot_list_str F.slot_list_repr.toG (fun prog' w' A' E' s' Q' hg hq => ?_) (fun h' m u tk hk hm => ⟨.str m, H, I.kept hk, ⟨_, rfl⟩, q m (by omega) (fun l => nomatch l)⟩)
    obtain ⟨t, ht, hl⟩ := leaf_repr (prog := prog') (w := w') hl ru
    have ht2 := list_text_one t
    refine lrep_call (ts := [t]) rfl hg rfl rfl (fun i y hy => ?_) (by omega) (fun h' m u tk hk hm => hq h' m u tk hk (by omega))
    cases i with
    | zero => cases hy; exact ⟨t, rfl, ht⟩
    | succ i => cases hy
  | @tup a v e hl =>
    cases rx
    obtain ⟨_, its, rv, o, ho, hc, n, hd⟩ : _ ≤ sizeLine ∧ ∃ its : List Value, Vals [v] its ∧ IsTup s.heap a its.toArray := I.hok a _ e
    obtain ⟨u, rfl, ru⟩ := vals1 rv
    refine str_by (N := 13000) (by omega) hc ho F.slot_tuple_str F.slot_tuple_repr (fun prog' w' A' E' s' Q' hg hq => ?_) (fun h' m u tk hk hm => ⟨.str m, H, I.kept hk, ⟨_, rfl⟩, q m (by omega) (fun l => nomatch l)⟩)
    obtain ⟨t, ht, hl⟩ := leaf_repr (prog := prog') (w := w') hl ru
    have ht2 := fmt_text [t]
    have ht3 : piled [t] = t.length + 2 := rfl
    exact fmt_tuple_repr (ts := [t]) hg hc hd (.cons ht .nil) (by omega) (fun m u tk hm => hq s'.heap m u tk (fun _ _ e => e) (by omega))
  | @dct a e =>
    cases rx
    obtain ⟨_, hs, vs, kv, o, es, ep, ho, hx, hd, _, he, _⟩ := dk_of I.hok e
    cases kv
    have : es = #[] := by
      cases es
      cases he
      rfl
    subst this
    refine str_by (N := 13000) (by omega) hx.1 ho F.slot_dict_str F.slot_dict_repr (fun prog' w' A' E' s' Q' hg hq => ?_) (fun h' m u tk hk hm => ⟨.str m, H, I.kept hk, ⟨_, rfl⟩, q m (by omega) (fun l => nomatch l)⟩)
    exact drep_call hx.1 hg hd hs (fun m u tk hm => hq s'.heap m u tk (fun _ _ e => e) (by omega))
end
end KA
namespace KA
open PySem PySem.SeqAt
open AutoSeq1 (wpAny_loadPart')
open MeetsSeq MeetsSeq2 MeetsSeq3 SeqRoads2
section
variable {prog : Program} {w : World} {A : Around} {R : Result → Shared → Prop}
/-- two lists as long, read anew at each turn: the two items are told equal (then J goes on) or not (then F) -/
def LstI (prog : Program) (w : World) (A : Around) (E : Value → Shared → Prop) (p q : Addr) (N : Nat) (J : Nat → Shared → Prop) (F : Shared → Prop) : Prop :=
  ∀ i s, J i s → ∃ (xs ys : Array Value) (m m2 : Nat), s.heap.get? p = some { cls := .type "list", data := .seq xs m } ∧ s.heap.get? q = some { cls := .type "list", data := .seq ys m2 } ∧ xs.size = N ∧ ys.size = N ∧
    ∀ (g1 : i < xs.size) (g2 : i < ys.size), wpAny (model prog w) A.in1 (eqBool xs[i] ys[i]) (fun r s' => (r = true → J (i + 1) s') ∧ (r = false → F s' ∧ ∃ (xs ys : Array Value) (m m2 : Nat), s'.heap.get? p = some { cls := .type "list", data := .seq xs m } ∧ s'.heap.get? q = some { cls := .type "list", data := .seq ys m2 } ∧ xs.size = N ∧ ys.size = N)) E s
/-- op: 2 is ==, 3 is != ; what is told where all items are equal is no -/
theorem turnsB (op : Nat) (yes : Bool) (hop : (op = 2 ∧ yes = true) ∨ (op = 3 ∧ yes = false)) (p q : Addr) (N : Nat) (J : Nat → Shared → Prop) (F : Shared → Prop) (hJ : LstI prog w A (fun e s' => R (.error e) s') p q N J F)
    (done : ∀ s, J N s → R (.ok (.ret (.bool yes))) s) (fail : ∀ s, F s → R (.ok (.ret (.bool (!yes)))) s) : ∀ (k i : Nat), N - i = k → i ≤ N → ∀ s, J i s →
      wpAny (model prog w) A.in1 (Builtin.«list.__eq__.loop» ⟨[.ref p, .ref q, rawInt i, rawInt op], []⟩) (GQ.FinOf prog w A R) (fun e s' => R (.error e) s') s
  | 0, i, hk, hi, s, hs => by
    obtain ⟨xs, ys, m, m2, gp, gq, zp, zq, _⟩ := hJ _ _ hs
    have iN : i = N := by omega
    have last : R (.ok (.ret (.bool yes))) s := done s (iN ▸ hs)
    have n1 : xs[((i : Nat) : Int).toNat]? = none := by simp; omega
    have n2 : ys[((i : Nat) : Int).toNat]? = none := by simp; omega
    rcases hop with ⟨rfl, rfl⟩ | ⟨rfl, rfl⟩
    · obtain ⟨hh, gg, dd, kk, oo⟩ := s
      wp_walk using wpAny_loadPart' gp, wpAny_loadPart' gq
      rw [n1, n2]
      wp_walk using wpAny_loadPart' gp, wpAny_loadPart' gq
      show R (.ok (.ret (.bool (xs.size == ys.size)))) _
      rw [zp, zq]
      simpa using last
    · obtain ⟨hh, gg, dd, kk, oo⟩ := s
      wp_walk using wpAny_loadPart' gp, wpAny_loadPart' gq
      rw [n1, n2]
      wp_walk using wpAny_loadPart' gp, wpAny_loadPart' gq
      show R (.ok (.ret (.bool (xs.size != ys.size)))) _
      rw [zp, zq]
      simpa using last
  | k + 1, i, hk, hi, s, hs => by
    obtain ⟨xs, ys, m, m2, gp, gq, zp, zq, tn⟩ := hJ _ _ hs
    have ip : i < xs.size := by omega
    have iq : i < ys.size := by omega
    have tt := tn ip iq
    have n1 : xs[((i : Nat) : Int).toNat]? = some xs[i] := by simp [ip]
    have n2 : ys[((i : Nat) : Int).toNat]? = some ys[i] := by simp [iq]
    have up : ((i : Int) + 1) = ((i + 1 : Nat) : Int) := by omega
    have next := fun s2 h2 => turnsB op yes hop p q N J F hJ done fail k (i + 1) (by omega) (by omega) s2 h2
    rcases hop with ⟨rfl, rfl⟩ | ⟨rfl, rfl⟩
    · obtain ⟨hh, gg, dd, kk, oo⟩ := s
      wp_walk using wpAny_loadPart' gp, wpAny_loadPart' gq
      rw [n1, n2]
      refine wpAny_bind (wpAny_mono tt (fun r s2 h2 => ?_) fun _ _ x => x)
      cases r with
      | true =>
        have h3 := next s2 (h2.1 rfl)
        obtain ⟨hh2, gg2, dd2, kk2, oo2⟩ := s2
        wp_walk
        rw [up]
        exact ⟨plainId_quiet plain_eq_loop _, codeAny_builtin entry_eq_loop (by rw [Around.under_plainId plain_eq_loop _]; exact h3)⟩
      | false =>
        obtain ⟨hF, xs2, ys2, m3, m4, gp2, gq2, zp2, zq2⟩ := h2.2 rfl
        have h3 := fail s2 hF
        have n3 : xs2[((i : Nat) : Int).toNat]? = some (xs2[i]'(by omega)) := by simp
        have n4 : ys2[((i : Nat) : Int).toNat]? = some (ys2[i]'(by omega)) := by simp
        obtain ⟨hh2, gg2, dd2, kk2, oo2⟩ := s2
        wp_walk using wpAny_loadPart' gp2, wpAny_loadPart' gq2
        rw [n3, n4]
        wp_walk
        exact h3
    · obtain ⟨hh, gg, dd, kk, oo⟩ := s
      wp_walk using wpAny_loadPart' gp, wpAny_loadPart' gq
      rw [n1, n2]
      refine wpAny_bind (wpAny_mono tt (fun r s2 h2 => ?_) fun _ _ x => x)
      cases r with
      | true =>
        have h3 := next s2 (h2.1 rfl)
        obtain ⟨hh2, gg2, dd2, kk2, oo2⟩ := s2
        wp_walk
        rw [up]
        exact ⟨plainId_quiet plain_eq_loop _, codeAny_builtin entry_eq_loop (by rw [Around.under_plainId plain_eq_loop _]; exact h3)⟩
      | false =>
        obtain ⟨hF, xs2, ys2, m3, m4, gp2, gq2, zp2, zq2⟩ := h2.2 rfl
        have h3 := fail s2 hF
        have n3 : xs2[((i : Nat) : Int).toNat]? = some (xs2[i]'(by omega)) := by simp
        have n4 : ys2[((i : Nat) : Int).toNat]? = some (ys2[i]'(by omega)) := by simp
        obtain ⟨hh2, gg2, dd2, kk2, oo2⟩ := s2
        wp_walk using wpAny_loadPart' gp2, wpAny_loadPart' gq2
        rw [n3, n4]
        wp_walk
        exact h3
theorem listsB (ne yes : Bool) (hop : ne = !yes) (p q : Addr) (N : Nat) (J : Nat → Shared → Prop) (F : Shared → Prop) (hJ : LstI prog w A (fun e s' => R (.error e) s') p q N J F)
    (done : ∀ s, J N s → R (.ok (.ret (.bool yes))) s) (fail : ∀ s, F s → R (.ok (.ret (.bool (!yes)))) s) {s : Shared} (hs : J 0 s) :
    wpAny (model prog w) A.in1 ((if ne then Builtin.«list.__ne__» else Builtin.«list.__eq__») ⟨[.ref p, .ref q], []⟩) (GQ.FinOf prog w A R) (fun e s' => R (.error e) s') s := by
  obtain ⟨xs, ys, m, m2, gp, gq, zp, zq, _⟩ := hJ _ _ hs
  have same : ¬ (xs.size != ys.size) = true := by simp [zp, zq]
  have sub := AutoSeq1.sub_list_list
  cases yes with
  | true =>
    subst hop
    have all := turnsB (A := A) (R := R) 2 true (.inl ⟨rfl, rfl⟩) p q N J F hJ done fail _ 0 rfl (Nat.zero_le _) s hs
    obtain ⟨hh, gg, dd, kk, oo⟩ := s
    show wpAny _ _ (Builtin.«list.__eq__» ⟨[.ref p, .ref q], []⟩) _ _ _
    wp_walk using wpAny_loadPart' gp, wpAny_loadPart' gq
    exact ⟨plainId_quiet plain_eq_loop _, codeAny_builtin entry_eq_loop (by rw [Around.under_plainId plain_eq_loop _]; exact all)⟩
  | false =>
    subst hop
    have all := turnsB (A := A) (R := R) 3 false (.inr ⟨rfl, rfl⟩) p q N J F hJ done fail _ 0 rfl (Nat.zero_le _) s hs
    obtain ⟨hh, gg, dd, kk, oo⟩ := s
    show wpAny _ _ (Builtin.«list.__ne__» ⟨[.ref p, .ref q], []⟩) _ _ _
    wp_walk using wpAny_loadPart' gp, wpAny_loadPart' gq
    exact ⟨plainId_quiet plain_eq_loop _, codeAny_builtin entry_eq_loop (by rw [Around.under_plainId plain_eq_loop _]; exact all)⟩
/-- lists of unlike lengths -/
theorem listsN (ne : Bool) (p q : Addr) {xs ys : Array Value} {m m2 : Nat} {s : Shared} (gp : s.heap.get? p = some { cls := .type "list", data := .seq xs m }) (gq : s.heap.get? q = some { cls := .type "list", data := .seq ys m2 }) (h : xs.size ≠ ys.size)
    (fail : R (.ok (.ret (.bool ne))) s) : wpAny (model prog w) A.in1 ((if ne then Builtin.«list.__ne__» else Builtin.«list.__eq__») ⟨[.ref p, .ref q], []⟩) (GQ.FinOf prog w A R) (fun e s' => R (.error e) s') s := by
  have unl : (xs.size != ys.size) = true := by simpa using h
  have sub := AutoSeq1.sub_list_list
  cases ne with
  | true =>
    obtain ⟨hh, gg, dd, kk, oo⟩ := s
    show wpAny _ _ (Builtin.«list.__ne__» ⟨[.ref p, .ref q], []⟩) _ _ _
    wp_walk using wpAny_loadPart' gp, wpAny_loadPart' gq
    exact fail
  | false =>
    obtain ⟨hh, gg, dd, kk, oo⟩ := s
    show wpAny _ _ (Builtin.«list.__eq__» ⟨[.ref p, .ref q], []⟩) _ _ _
    wp_walk using wpAny_loadPart' gp, wpAny_loadPart' gq
    exact fail
end
end KA
namespace KA
open PySem PySem.SeqAt
open AutoSeq1 (wpAny_loadPart')
open MeetsSeq MeetsSeq2 MeetsSeq3 SeqRoads2
section
variable {prog : Program} {w : World} {A : Around} {R : Result → Shared → Prop}
theorem tupsB (ne : Bool) (p q : Addr) (xs ys : Array Value) (n n2 : Nat) (d1 d2 : Option Addr) (l1 l2 : Array (Option Value)) (J : Nat → Shared → Prop) (F : Shared → Prop)
    (turn : ∀ i (h1 : i < xs.size) (h2 : i < ys.size) s, J i s → wpAny (model prog w) A.in1 (eqBool xs[i] ys[i]) (fun r s' => (r = true → J (i + 1) s') ∧ (r = false → F s')) (fun e s' => R (.error e) s') s)
    (done : ∀ s, J (min xs.size ys.size) s → R (.ok (.ret (.bool (ne ^^ (xs.size == ys.size))))) s) (fail : ∀ s, F s → R (.ok (.ret (.bool ne))) s)
    {s : Shared} (gp : s.heap.get? p = some { cls := .type "tuple", dict := d1, data := .seq xs n, slots := l1 }) (gq : s.heap.get? q = some { cls := .type "tuple", dict := d2, data := .seq ys n2, slots := l2 }) (h : J 0 s) :
    wpAny (model prog w) A.in1 ((if ne then Builtin.«tuple.__ne__» else Builtin.«tuple.__eq__») ⟨[.ref p, .ref q], []⟩) (GQ.FinOf prog w A R) (fun e s' => R (.error e) s') s := by
  have sub := AutoSeq1.sub_tuple_tuple
  have hZ : (xs.toList.zip ys.toList).length = min xs.size ys.size := by simp
  have h0 := h
  have at_ : ∀ {i : Nat} {z : Value × Value} {rest : List (Value × Value)}, z :: rest = (xs.toList.zip ys.toList).drop i → ∃ (h1 : i < xs.size) (h2 : i < ys.size), z = (xs[i], ys[i]) ∧ rest = (xs.toList.zip ys.toList).drop (i + 1) := fun {i z rest} hz => by
    have lt : i < (xs.toList.zip ys.toList).length := by
      rcases Nat.lt_or_ge i (xs.toList.zip ys.toList).length with h' | h'
      · exact h'
      · rw [List.drop_of_length_le h'] at hz
        cases hz
    have h1 : i < xs.size := by omega
    have h2 : i < ys.size := by omega
    rw [List.drop_eq_getElem_cons lt] at hz
    injection hz with e1 e2
    exact ⟨h1, h2, by rw [e1]; simp, e2⟩
  have end_ : ∀ {i : Nat}, ([] : List (Value × Value)) = (xs.toList.zip ys.toList).drop i → i ≤ min xs.size ys.size → i = min xs.size ys.size := fun {i} hz hi => by
    rcases Nat.lt_or_ge i (xs.toList.zip ys.toList).length with h' | h'
    · rw [List.drop_eq_getElem_cons h'] at hz
      cases hz
    · omega
  cases ne with
  | false =>
    obtain ⟨hh, gg, dd, kk, oo⟩ := s
    show wpAny _ _ (Builtin.«tuple.__eq__» ⟨[.ref p, .ref q], []⟩) _ _ _
    wp_walk using wpAny_loadPart' gp, wpAny_loadPart' gq, wpAny_forIn_list _ (fun rest b s' => b.1 = none ∧ ∃ i, rest = (xs.toList.zip ys.toList).drop i ∧ i ≤ min xs.size ys.size ∧ J i s') _
    case turn =>
      rintro ⟨y, x⟩ rest b s' ⟨hb', i, hz, hi, hI⟩
      obtain ⟨h1, h2, e, hrest⟩ := at_ hz
      injection e with e1 e2
      subst e1 e2
      refine wpAny_bind (wpAny_mono (turn i h1 h2 s' hI) (fun r s2 q2 => ?_) fun _ _ x => x)
      cases r with
      | true =>
        wp_walk
        exact ⟨rfl, i + 1, hrest, by omega, q2.1 rfl⟩
      | false =>
        have h3 := fail s2 (q2.2 rfl)
        wp_walk
        exact h3
    case fin =>
      rintro ⟨b1, b2⟩ s' ⟨hb', i, hz, hi, hI⟩
      simp only at hb'
      subst hb'
      have hR := done s' (end_ hz hi ▸ hI)
      wp_walk
      simpa [Builtin.Tuple.tupleCompareSizes] using hR
    case h =>
      exact ⟨rfl, 0, rfl, Nat.zero_le _, h0⟩
  | true =>
    obtain ⟨hh, gg, dd, kk, oo⟩ := s
    show wpAny _ _ (Builtin.«tuple.__ne__» ⟨[.ref p, .ref q], []⟩) _ _ _
    wp_walk using wpAny_loadPart' gp, wpAny_loadPart' gq, wpAny_forIn_list _ (fun rest b s' => b.1 = none ∧ ∃ i, rest = (xs.toList.zip ys.toList).drop i ∧ i ≤ min xs.size ys.size ∧ J i s') _
    case turn =>
      rintro ⟨y, x⟩ rest b s' ⟨hb', i, hz, hi, hI⟩
      obtain ⟨h1, h2, e, hrest⟩ := at_ hz
      injection e with e1 e2
      subst e1 e2
      refine wpAny_bind (wpAny_mono (turn i h1 h2 s' hI) (fun r s2 q2 => ?_) fun _ _ x => x)
      cases r with
      | true =>
        wp_walk
        exact ⟨rfl, i + 1, hrest, by omega, q2.1 rfl⟩
      | false =>
        have h3 := fail s2 (q2.2 rfl)
        wp_walk
        exact h3
    case fin =>
      rintro ⟨b1, b2⟩ s' ⟨hb', i, hz, hi, hI⟩
      simp only at hb'
      subst hb'
      have hR := done s' (end_ hz hi ▸ hI)
      wp_walk
      simpa [Builtin.Tuple.tupleCompareSizes, bne] using hR
    case h =>
      exact ⟨rfl, 0, rfl, Nat.zero_le _, h0⟩
end
section
variable {prog : Program} {w : World} {A : Around} {E : Value → Shared → Prop} {s : Shared}
def opNe (ne : Bool) : CmpOp := if ne then .NotEq else .Eq
theorem rcL {p q : Addr} {N : Nat} {Q : Value → Shared → Prop} (ne : Bool) (hu : A.units < cLine) (J : Nat → Shared → Prop) (F : Shared → Prop) (hJ : LstI prog w A E p q N J F)
    (done : ∀ s, J N s → Q (.bool (!ne)) s) (fail : ∀ s, F s → Q (.bool ne) s) (hs : J 0 s) : wpAny (model prog w) A (richCompare (opNe ne) (.ref p) (.ref q)) Q E s := by
  obtain ⟨xs, ys, m, m2, gp, gq, _, _, _⟩ := hJ _ _ hs
  cases ne with
  | false =>
    refine wpAny_richCompare_same_room (op := .Eq) ⟨_, gp, rfl⟩ ⟨_, gq, rfl⟩ PySem.F.slot_list_eq (GQ.call_here PySem.F.slot_list_eq ⟨_, gp, rfl⟩ PySem.F.entry_list_eq (PySem.F.args_list_eq_2 _ _) ?_) hu
    exact listsB (R := wants (fun v s' => v ≠ .notImplemented ∧ Q v s') E) false true rfl p q N J F hJ (fun s' z => ⟨(fun x => nomatch x), done s' z⟩) (fun s' z => ⟨(fun x => nomatch x), fail s' z⟩) hs
  | true =>
    refine wpAny_richCompare_same_room (op := .NotEq) ⟨_, gp, rfl⟩ ⟨_, gq, rfl⟩ PySem.F.slot_list_ne (GQ.call_here PySem.F.slot_list_ne ⟨_, gp, rfl⟩ PySem.F.entry_list_ne (PySem.F.args_list_ne_2 _ _) ?_) hu
    exact listsB (R := wants (fun v s' => v ≠ .notImplemented ∧ Q v s') E) true false rfl p q N J F hJ (fun s' z => ⟨(fun x => nomatch x), done s' z⟩) (fun s' z => ⟨(fun x => nomatch x), fail s' z⟩) hs
theorem rcN {p q : Addr} {xs ys : Array Value} {m m2 : Nat} {Q : Value → Shared → Prop} (ne : Bool) (hu : A.units < cLine) (gp : s.heap.get? p = some { cls := .type "list", data := .seq xs m }) (gq : s.heap.get? q = some { cls := .type "list", data := .seq ys m2 }) (h : xs.size ≠ ys.size)
    (fail : Q (.bool ne) s) : wpAny (model prog w) A (richCompare (opNe ne) (.ref p) (.ref q)) Q E s := by
  cases ne with
  | false =>
    refine wpAny_richCompare_same_room (op := .Eq) ⟨_, gp, rfl⟩ ⟨_, gq, rfl⟩ PySem.F.slot_list_eq (GQ.call_here PySem.F.slot_list_eq ⟨_, gp, rfl⟩ PySem.F.entry_list_eq (PySem.F.args_list_eq_2 _ _) ?_) hu
    exact listsN (R := wants (fun v s' => v ≠ .notImplemented ∧ Q v s') E) false p q gp gq h ⟨(fun x => nomatch x), fail⟩
  | true =>
    refine wpAny_richCompare_same_room (op := .NotEq) ⟨_, gp, rfl⟩ ⟨_, gq, rfl⟩ PySem.F.slot_list_ne (GQ.call_here PySem.F.slot_list_ne ⟨_, gp, rfl⟩ PySem.F.entry_list_ne (PySem.F.args_list_ne_2 _ _) ?_) hu
    exact listsN (R := wants (fun v s' => v ≠ .notImplemented ∧ Q v s') E) true p q gp gq h ⟨(fun x => nomatch x), fail⟩
theorem rcT {p q : Addr} {xs ys : Array Value} {Q : Value → Shared → Prop} (ne : Bool) (hu : A.units < cLine) (J : Nat → Shared → Prop) (F : Shared → Prop) (hl : s.heap.IsTuple p xs) (hb : s.heap.IsTuple q ys)
    (turn : ∀ i (h1 : i < xs.size) (h2 : i < ys.size) s, J i s → wpAny (model prog w) A.in1 (eqBool xs[i] ys[i]) (fun r s' => (r = true → J (i + 1) s') ∧ (r = false → F s')) E s)
    (done : ∀ s, J (min xs.size ys.size) s → Q (.bool (ne ^^ (xs.size == ys.size))) s) (fail : ∀ s, F s → Q (.bool ne) s) (h : J 0 s) : wpAny (model prog w) A (richCompare (opNe ne) (.ref p) (.ref q)) Q E s := by
  obtain ⟨⟨cls, dd, data, sl⟩, ho, hc, n, hd⟩ := id hl
  obtain ⟨⟨cls2, dd2, data2, sl2⟩, ho2, hc2, n2, hd2⟩ := id hb
  simp only at hc hd hc2 hd2
  subst hc hd hc2 hd2
  cases ne with
  | false =>
    refine wpAny_richCompare_same_room (op := .Eq) ⟨_, ho, rfl⟩ ⟨_, ho2, rfl⟩ PySem.F.slot_tuple_eq (GQ.call_here PySem.F.slot_tuple_eq ⟨_, ho, rfl⟩ PySem.F.entry_tuple_eq (PySem.F.args_tuple_eq_2 _ _) ?_) hu
    exact tupsB (R := wants (fun v s' => v ≠ .notImplemented ∧ Q v s') E) false p q xs ys n n2 dd dd2 sl sl2 J F turn (fun s' z => ⟨(fun x => nomatch x), done s' z⟩) (fun s' z => ⟨(fun x => nomatch x), fail s' z⟩) ho ho2 h
  | true =>
    refine wpAny_richCompare_same_room (op := .NotEq) ⟨_, ho, rfl⟩ ⟨_, ho2, rfl⟩ PySem.F.slot_tuple_ne (GQ.call_here PySem.F.slot_tuple_ne ⟨_, ho, rfl⟩ PySem.F.entry_tuple_ne (PySem.F.args_tuple_ne_2 _ _) ?_) hu
    exact tupsB (R := wants (fun v s' => v ≠ .notImplemented ∧ Q v s') E) true p q xs ys n n2 dd dd2 sl sl2 J F turn (fun s' z => ⟨(fun x => nomatch x), done s' z⟩) (fun s' z => ⟨(fun x => nomatch x), fail s' z⟩) ho ho2 h
end
end KA
namespace KA
open PySem PySem.Spec PyProof.Rows L2
/-- two values, and what == tells of them -/
abbrev BEq2 := V → V → Bool → Hp → Prop
def MonB (D : BEq2) : Prop := ∀ x y b H H', Ext H H' → D x y b H → D x y b H'
def EqB (X : Cx) (n : Nat) (D : BEq2) : Prop :=
  ∀ (A : Around) (pins : List (Addr × Obj)) (s : Shared) (σ : L2.St) (H : Hp) (x y : V) (u v : Value) (b : Bool), Sub X n A → L2.Inv X pins σ H s → RelV x u → RelV y v → D x y b H →
    wpAny (model X.prog X.w) A (eqBool u v) (fun r s' => r = b ∧ ∃ H', L2.Inv X pins σ H' s' ∧ Ext H H') X.xe s
def RcB (X : Cx) (n : Nat) (ne : Bool) (D : BEq2) : Prop :=
  ∀ (A : Around) (pins : List (Addr × Obj)) (s : Shared) (σ : L2.St) (H : Hp) (x y : V) (u v : Value) (b : Bool), Sub X n A → L2.Inv X pins σ H s → RelV x u → RelV y v → D x y b H →
    wpAny (model X.prog X.w) A (richCompare (opNe ne) u v) (fun r s' => r = .bool (ne ^^ b) ∧ ∃ H', L2.Inv X pins σ H' s' ∧ Ext H H') X.xe s
section
variable {X : Cx} {n m : Nat} {D D' : BEq2}
theorem EqB.mono (h : EqB X n D) (hn : n ≤ m) : EqB X m D := fun A pins s σ H x y u v b sb => h A pins s σ H x y u v b (sb.mono hn)
theorem EqB.or (h : EqB X n D) (h' : EqB X n D') : EqB X n (fun x y b H => D x y b H ∨ D' x y b H) := fun A pins s σ H x y u v b sb I rx ry d => d.elim (fun d => h A pins s σ H x y u v b sb I rx ry d) (fun d => h' A pins s σ H x y u v b sb I rx ry d)
theorem MonB.or (h : MonB D) (h' : MonB D') : MonB (fun x y b H => D x y b H ∨ D' x y b H) := fun x y b H H' e d => d.elim (fun d => .inl (h x y b H H' e d)) fun d => .inr (h' x y b H H' e d)
/-- flat values -/
def BFlat : BEq2 := fun x y b _ => flatV x = true ∧ flatV y = true ∧ eqV x y = b
theorem monB_flat : MonB BFlat := fun _ _ _ _ _ _ d => d
theorem eqB_flat : EqB X 0 BFlat := by
  intro A pins s σ H x y u v b sb I rx ry d
  obtain ⟨fx, fy, e⟩ := d
  have q := eqAt_V (A := A) (s := s) rx ry fx fy
  rw [e] at q
  exact q X.prog X.w X.xe _ ⟨rfl, H, I, Ext.rfl'⟩
/-- item by item, as far as both go -/
def PrsB (D : BEq2) (xs ys : List V) (f : Nat → Bool) (H : Hp) : Prop := ∀ (i : Nat) x y, xs[i]? = some x → ys[i]? = some y → D x y (f i) H
theorem turnB (hD : MonB D) (h : EqB X n D) {A : Around} (sb : Sub X (n + 1) A) {pins : List (Addr × Obj)} {σ : L2.St} {H : Hp} {xs ys : List V} {its its2 : List Value} {f : Nat → Bool} (p : PrsB D xs ys f H) (r : Vals xs its) (r2 : Vals ys its2)
    (i : Nat) (h1 : i < its.toArray.size) (h2 : i < its2.toArray.size) (s' : Shared) (l : LoopI X pins σ H s') :
    wpAny (model X.prog X.w) A.in1 (eqBool its.toArray[i] its2.toArray[i]) (fun r s2 => r = f i ∧ LoopI X pins σ H s2) X.xe s' := by
  obtain ⟨H1, I1, e1⟩ := l
  have l1 : i < its.length := by simpa using h1
  have l2 : i < its2.length := by simpa using h2
  have k1 : i < xs.length := by rw [r.length]; exact l1
  have k2 : i < ys.length := by rw [r2.length]; exact l2
  obtain ⟨u, hu, ru⟩ := r.get (List.getElem?_eq_getElem k1)
  obtain ⟨v, hv, rv⟩ := r2.get (List.getElem?_eq_getElem k2)
  have g1 : its.toArray[i] = u := by
    rw [List.getElem?_eq_getElem l1] at hu
    simpa using Option.some.inj hu
  have g2 : its2.toArray[i] = v := by
    rw [List.getElem?_eq_getElem l2] at hv
    simpa using Option.some.inj hv
  rw [g1, g2]
  refine wpAny_mono (h A.in1 pins s' σ H1 _ _ u v _ sb.in1 I1 ru rv (hD _ _ _ _ _ e1 (p i _ _ (List.getElem?_eq_getElem k1) (List.getElem?_eq_getElem k2)))) (fun r s2 q => ?_) fun _ _ x => x
  obtain ⟨hr, H2, I2, e2⟩ := q
  exact ⟨hr, H2, I2, e1.trans e2⟩
def allF (N : Nat) (f : Nat → Bool) : Bool := (List.range N).all f
theorem allF_true {N : Nat} {f : Nat → Bool} (h : ∀ j, j < N → f j = true) : allF N f = true := by
  unfold allF
  rw [List.all_eq_true]
  exact fun j hj => h j (List.mem_range.mp hj)
theorem allF_false {N j : Nat} {f : Nat → Bool} (h : j < N) (e : f j = false) : allF N f = false := by
  unfold allF
  rw [List.all_eq_false]
  exact ⟨j, List.mem_range.mpr h, by rw [e]; exact Bool.false_ne_true⟩
def BList (D : BEq2) : BEq2 := fun x y b H => ∃ (p q : Addr) (xs ys : List V) (f : Nat → Bool), x = .ref p ∧ y = .ref q ∧ H p = some (.lst xs) ∧ H q = some (.lst ys) ∧ (xs.length = ys.length → PrsB D xs ys f H) ∧ b = (decide (xs.length = ys.length) && allF xs.length f)
def BTup (K : PySem.W.Frag) (D : BEq2) : BEq2 := fun x y b H => ∃ (p q : Addr) (xs ys : List V) (f : Nat → Bool), x = .ref p ∧ y = .ref q ∧ SqT K H p xs ∧ SqT K H q ys ∧ PrsB D xs ys f H ∧ b = (decide (xs.length = ys.length) && allF xs.length f)
theorem PrsB.mon (hD : MonB D) {xs ys : List V} {f : Nat → Bool} {H H' : Hp} (e : Ext H H') (p : PrsB D xs ys f H) : PrsB D xs ys f H' := fun i x y h1 h2 => hD x y _ H H' e (p i x y h1 h2)
theorem monB_list (hD : MonB D) : MonB (BList D) := fun x y b H H' e d => by
  obtain ⟨p, q, xs, ys, f, hx, hy, h1, h2, pr, hb⟩ := d
  exact ⟨p, q, xs, ys, f, hx, hy, e _ _ h1, e _ _ h2, fun z => (pr z).mon hD e, hb⟩
theorem monB_tup {K : PySem.W.Frag} (hD : MonB D) : MonB (BTup K D) := fun x y b H H' e d => by
  obtain ⟨p, q, xs, ys, f, hx, hy, h1, h2, pr, hb⟩ := d
  exact ⟨p, q, xs, ys, f, hx, hy, h1.ext e, h2.ext e, pr.mon hD e, hb⟩
theorem rcB_list (ne : Bool) (hD : MonB D) (h : EqB X n D) : RcB X (n + 1) ne (BList D) := by
  intro A pins s σ H x y u v b sb I rx ry d
  obtain ⟨p, q, xs, ys, f, rfl, rfl, hp, hq, pr, rfl⟩ := d
  cases rx
  cases ry
  by_cases hl : xs.length = ys.length
  · have pr := pr hl
    have look : ∀ s', LoopI X pins σ H s' → ∃ (as bs : List Value) (m m2 : Nat), Vals xs as ∧ Vals ys bs ∧ s'.heap.get? p = some { cls := .type "list", data := .seq as.toArray m } ∧ s'.heap.get? q = some { cls := .type "list", data := .seq bs.toArray m2 } ∧ as.toArray.size = xs.length ∧ bs.toArray.size = xs.length := fun s' z => by
      obtain ⟨H1, I1, e1⟩ := id z
      obtain ⟨_, its, k, r, e⟩ := I1.hok p _ (e1 _ _ hp)
      obtain ⟨_, its2, k2, r2, e2⟩ := I1.hok q _ (e1 _ _ hq)
      exact ⟨its, its2, k, k2, r, r2, e, e2, by rw [List.size_toArray, ← r.length], by rw [List.size_toArray, ← r2.length, hl]⟩
    refine rcL (N := xs.length) ne sb.room.units0 (fun i s' => LoopI X pins σ H s' ∧ ∀ j, j < i → f j = true) (fun s' => LoopI X pins σ H s' ∧ ∃ j, j < xs.length ∧ f j = false) (fun i s' z => ?_) (fun s' z => ?_) (fun s' z => ?_) ⟨⟨H, I, Ext.rfl'⟩, fun j hj => absurd hj (Nat.not_lt_zero _)⟩
    · obtain ⟨z, hf⟩ := z
      obtain ⟨as, bs, k, k2, r, r2, e, e2, z1, z2⟩ := look s' z
      refine ⟨_, _, k, k2, e, e2, z1, z2, fun g1 g2 => wpAny_mono (turnB hD h sb pr r r2 i g1 g2 s' z) (fun r s2 q2 => ?_) fun _ _ x => x⟩
      obtain ⟨rfl, q2⟩ := q2
      refine ⟨fun t => ⟨q2, fun j hj => ?_⟩, fun t => ⟨⟨q2, i, by omega, t⟩, ?_⟩⟩
      · by_cases hji : j = i
        · rw [hji]; exact t
        · exact hf j (by omega)
      · obtain ⟨as, bs, k, k2, r, r2, e, e2, z1, z2⟩ := look s2 q2
        exact ⟨_, _, k, k2, e, e2, z1, z2⟩
    · obtain ⟨⟨H1, z⟩, hf⟩ := z
      refine ⟨?_, H1, z⟩
      rw [decide_eq_true hl, allF_true hf]
      cases ne <;> rfl
    · obtain ⟨⟨H1, z⟩, j, hj, e⟩ := z
      refine ⟨?_, H1, z⟩
      rw [allF_false hj e, Bool.and_false, Bool.xor_false]
  · obtain ⟨_, its, k, r, e⟩ := I.hok p _ hp
    obtain ⟨_, its2, k2, r2, e2⟩ := I.hok q _ hq
    refine rcN ne sb.room.units0 e e2 (by rw [List.size_toArray, List.size_toArray, ← r.length, ← r2.length]; exact hl) ⟨?_, H, I, Ext.rfl'⟩
    rw [decide_eq_false hl, Bool.false_and, Bool.xor_false]
theorem rcB_tup (ne : Bool) (hD : MonB D) (h : EqB X n D) : RcB X (n + 1) ne (BTup X.K D) := by
  intro A pins s σ H x y u v b sb I rx ry d
  obtain ⟨p, q, xs, ys, f, rfl, rfl, hp, hq, pr, rfl⟩ := d
  cases rx
  cases ry
  obtain ⟨its, r, e, z⟩ := I.tuple hp
  obtain ⟨its2, r2, e2, z2⟩ := I.tuple hq
  have w1 : its.toArray.size = xs.length := by rw [List.size_toArray, ← r.length]
  have w2 : its2.toArray.size = ys.length := by rw [List.size_toArray, ← r2.length]
  refine rcT ne sb.room.units0 (fun i s' => LoopI X pins σ H s' ∧ ∀ j, j < i → f j = true) (fun s' => LoopI X pins σ H s' ∧ ∃ j, j < xs.length ∧ f j = false) e e2 (fun i g1 g2 s' z => ?_) (fun s' z => ?_) (fun s' z => ?_) ⟨⟨H, I, Ext.rfl'⟩, fun j hj => absurd hj (Nat.not_lt_zero _)⟩
  · obtain ⟨z, hf⟩ := z
    refine wpAny_mono (turnB hD h sb pr r r2 i g1 g2 s' z) (fun r s2 q2 => ?_) fun _ _ x => x
    obtain ⟨rfl, q2⟩ := q2
    refine ⟨fun t => ⟨q2, fun j hj => ?_⟩, fun t => ⟨q2, i, by omega, t⟩⟩
    by_cases hji : j = i
    · rw [hji]; exact t
    · exact hf j (by omega)
  · obtain ⟨⟨H1, z⟩, hf⟩ := z
    refine ⟨?_, H1, z⟩
    rw [w1, w2] at hf ⊢
    by_cases hl : xs.length = ys.length
    · rw [decide_eq_true hl, allF_true (fun j hj => hf j (by omega)), hl]
      simp
    · rw [decide_eq_false hl]
      have : (xs.length == ys.length) = false := by simpa using hl
      rw [this]
      rfl
  · obtain ⟨⟨H1, z⟩, j, hj, e⟩ := z
    refine ⟨?_, H1, z⟩
    rw [allF_false hj e, Bool.and_false, Bool.xor_false]
/-- x == y, x != y as expressions -/
def rEqB (ne : Bool) (D : BEq2) : R2 := fun x y H Q => ∃ b, D x y b H ∧ ∀ H', Ext H H' → Q (.bl (ne ^^ b)) H'
theorem op_eqB (h : RcB X n false D) (hr : Room n X.A) : OpR X (compareOp .Eq) (rEqB false D) := by
  intro pins s σ H x y v u Q I rx ry hq
  obtain ⟨b, d, q⟩ := hq
  show wpAny (model X.prog X.w) X.A (richCompare .Eq v u) (EP X pins σ Q) X.xe s
  refine wpAny_mono (h X.A pins s σ H x y v u b ⟨hr, rfl⟩ I rx ry d) (fun r s' z => ?_) fun _ _ x => x
  obtain ⟨rfl, H', I', e⟩ := z
  exact ⟨.bl _, H', I', rfl, q H' e⟩
theorem op_neB (h : RcB X n true D) (hr : Room n X.A) : OpR X (compareOp .NotEq) (rEqB true D) := by
  intro pins s σ H x y v u Q I rx ry hq
  obtain ⟨b, d, q⟩ := hq
  show wpAny (model X.prog X.w) X.A (richCompare .NotEq v u) (EP X pins σ Q) X.xe s
  refine wpAny_mono (h X.A pins s σ H x y v u b ⟨hr, rfl⟩ I rx ry d) (fun r s' z => ?_) fun _ _ x => x
  obtain ⟨rfl, H', I', e⟩ := z
  exact ⟨.bl _, H', I', rfl, q H' e⟩
end
end KA
namespace KA
open PySem PySem.Spec PySem.W PyProof.Rows
section
variable {prog : Program} {w : World} {A : Around} {E : Value → Shared → Prop} {s : Shared} {K : Frag} {x C f : Addr} {ox : Obj} {od : Option Obj}
theorem none_eq_ref {Q : Value → Shared → Prop} (h : Q .notImplemented s) : wpAny (model prog w) A (call (.builtin "NoneType.__eq__") [.none, .ref x]) Q E s := by
  refine wpAny_call_entry PySem.F.slot_NoneType_eq (typeIs_none s) PySem.F.entry_NoneType_eq ?_ (PySem.F.args_NoneType_eq_2 _ _)
  unfold Builtin.«NoneType.__eq__»
  wp_walk
  exact ⟨_, rfl, h⟩
/-- None == x, x an instance whose class has its own == : that one is asked -/
theorem cmp_none {Q : Value → Shared → Prop} (hu : A.units < cLine) (X : K.In s.heap) (I : InstAt s.heap x ox C od) (hn : subIn K (.ref C) (.type "NoneType") = some false)
    (hs : findIn K (.ref C) "__eq__" = some (some (.ref f))) (hf : isFn K (.ref f) = true)
    (h : wpAny (model prog w) A (call (.ref f) [.ref x, .none]) (PySem.W.CmpBack Q) E s) : wpAny (model prog w) A (richCompare .Eq .none (.ref x)) Q E s := by
  have one : wpAny (model prog w) A (tryCompare (.ref x) "__eq__" .none) (fun r s' => ∃ v, r = some v ∧ Q v s') E s := by
    unfold tryCompare
    refine wpAny_bind (ifBound_K X I hs hf (wpAny_mono h (fun v s' hv => ?_) fun _ _ e => e))
    cases v <;> first | exact hv.elim | exact wpAny_pure ⟨_, rfl, hv⟩
  have two : wpAny (model prog w) A (tryCompare .none "__eq__" (.ref x)) (fun r s' => r = none ∧ s' = s) E s := by
    unfold tryCompare
    refine wpAny_bind (wpAny_callSpecialIfBound?_slot (name := (cmpInfo .Eq).2.1) (typeIs_none s) PySem.F.slot_NoneType_eq (none_eq_ref ?_))
    exact wpAny_pure ⟨rfl, rfl⟩
  unfold richCompare
  refine wpAny_holding (wpAny_bind (wpAny_cRoomFor hu ?_))
  rw [show oneThing? .Eq .none (.ref x) = none from rfl]
  refine wpAny_bind (wpAny_typeOf (typeIs_none s) (wpAny_bind (I.type.here ?_)))
  refine PySem.W.KFB.if_so rfl (wpAny_bind ((looks_subIn X hn).here ?_))
  refine PySem.W.KFB.if_not rfl ?_
  refine wpAny_bind (wpAny_mono two (fun r s' z => ?_) fun _ _ e => e)
  obtain ⟨rfl, rfl⟩ := z
  refine PySem.W.KFB.if_so rfl (wpAny_bind (wpAny_mono one (fun r s' z => ?_) fun _ _ e => e))
  obtain ⟨v, rfl, hq⟩ := z
  exact wpAny_pure hq
end
end KA

namespace KA
open PySem PySem.Spec PyProof.Rows L2
/-- eqBool of what is not one thing, by the rich comparison -/
theorem eqBool_by {prog : Program} {w : World} {A : Around} {E : Value → Shared → Prop} {s : Shared} {u v : Value} {Q : Bool → Shared → Prop} (hu : (∃ a, u = .ref a) ∨ u = .none) (hne : (u == v) = false)
    (h : wpAny (model prog w) A (richCompare .Eq u v) (fun r s' => ∃ b, r = .bool b ∧ Q b s') E s) : wpAny (model prog w) A (eqBool u v) Q E s := by
  unfold eqBool
  refine wpAny_holding ?_
  refine wpAny_ite_split (fun hab => by rw [hne] at hab; cases hab) (fun _ => ?_)
  rcases hu with ⟨a, rfl⟩ | rfl
  · refine wpAny_bind (wpAny_mono h (fun r s' hv => ?_) fun _ _ x => x)
    obtain ⟨b, rfl, q⟩ := hv
    exact wpAny_truthy_bool q
  · refine wpAny_bind (wpAny_mono h (fun r s' hv => ?_) fun _ _ x => x)
    obtain ⟨b, rfl, q⟩ := hv
    exact wpAny_truthy_bool q
/-- what an own == promises: R tells its answer -/
def spEqO (R : Addr → V → Bool → Hp → Prop) : Sp := fun vs H Q _ => ∃ (a : Addr) (y : V) (b : Bool), vs = [.ref a, y] ∧ R a y b H ∧ ∀ H', Ext H H' → Q (.bl b) H'
section
variable {X : Cx} {n : Nat} {CX : CXT} {C f : Addr} {fd : FuncData} {ps : List Str} {R : Addr → V → Bool → Hp → Prop} {E : XK}
theorem run_eqO {A : Around} {pins : List (Addr × Obj)} {σ : L2.St} {H : Hp} {s : Shared} {a : Addr} {y : V} {v : Value} {b : Bool} (F : FnOk X.prog X.w X.K X.mg X.base CX n f fd ps (spEqO R)) (hb : Binds X.K fd ps []) (hx : Passes CX X E) (sb : Sub X n A) (I : L2.Inv X pins σ H s)
    (ry : RelV y v) (d : R a y b H) : wpAny (model X.prog X.w) A (call (.ref f) [.ref a, v]) (PySem.W.CmpBack fun r s' => r = .bool b ∧ ∃ H', L2.Inv X pins σ H' s' ∧ Ext H H') X.xe s := by
  have hsp : spEqO R [.ref a, y] H (fun z H' => z = .bl b ∧ Ext H H') E := ⟨a, y, b, rfl, d, fun H' e => ⟨rfl, e⟩⟩
  have e0 : Env0 X.prog X.w X.K X.mg X.base A X.stack s H := by
    have e := I.env0
    exact ⟨by rw [sb.fr]; exact e.frames, e.mod, e.bs, e.bsz, e.funs, e.frf, e.hok, e.bare⟩
  have hl := F.len _ _ _ _ hsp
  have r2 : Vals [V.ref a, y] [Value.ref a, v] := .cons rfl (.cons ry .nil)
  refine wpAny_call (codeAny_mono (F.run A X.stack s H ⟨[.ref a, v], []⟩ [.ref a, v] [.ref a, y] _ E sb.room e0 (by
    have := hb s [.ref a, v] I.kIn (by simpa using hl)
    simpa using this) r2 hsp) fun r s' hq => ?_)
  cases r with
  | error e => exact hx pins σ H s e s' I hq
  | ok fl =>
    cases fl with
    | ret z =>
      obtain ⟨z, H', I', rz, ez, ex⟩ := I.after hq
      subst ez
      cases rz
      exact ⟨rfl, H', I', ex⟩
    | next => exact False.elim hq
    | brk => exact False.elim hq
    | cont => exact False.elim hq
/-- an instance of the class at C beside anything, or None beside an instance -/
def BOwn (K : PySem.W.Frag) (C : Addr) (R : Addr → V → Bool → Hp → Prop) : BEq2 := fun x y b H =>
  (∃ (a dx : Addr) (fs : List (Str × V)) (t : Value), x = .ref a ∧ H a = some (.ins C dx fs) ∧ TyX K H y t ∧ PySem.W.notFirst K C t = true ∧ R a y b H ∧ (y = .ref a → b = true)) ∨
  ∃ (a dx : Addr) (fs : List (Str × V)), x = .non ∧ y = .ref a ∧ H a = some (.ins C dx fs) ∧ R a .non b H
theorem rcB_own (F : FnOk X.prog X.w X.K X.mg X.base CX n f fd ps (spEqO R)) (hs : PySem.W.findIn X.K (.ref C) "__eq__" = some (some (.ref f))) (hf : PySem.W.isFn X.K (.ref f) = true) (hb : Binds X.K fd ps []) (hx : Passes CX X E)
    (hn : PySem.W.subIn X.K (.ref C) (.type "NoneType") = some false) : RcB X n false (BOwn X.K C R) := by
  intro A pins s σ H x y u v b sb I rx ry d
  have fin : (false ^^ b) = b := Bool.false_xor b
  rw [fin]
  rcases d with ⟨a, dx, fs, t, rfl, ha, ty, nf, hR, _⟩ | ⟨a, dx, fs, rfl, rfl, ha, hR⟩
  · cases rx
    obtain ⟨mA, J, _⟩ := ins_get I.hok ha
    obtain ⟨od, J, _⟩ := J.look
    obtain ⟨Pz, Z, p, _⟩ := kit_of I ry ty
    obtain ⟨m, hF⟩ := I.fr
    exact PySem.W.cmp_K (op := .Eq) (tb := t) sb.room.units0 hF I.ok.mod.kin J (Z.ty _ _ I.kIn p) nf hs hf (run_eqO F hb hx sb I ry hR)
  · cases rx
    cases ry
    obtain ⟨mA, J, _⟩ := ins_get I.hok ha
    obtain ⟨od, J, _⟩ := J.look
    exact cmp_none sb.room.units0 I.kIn J hn hs hf (run_eqO (y := .non) F hb hx sb I rfl hR)
theorem eqB_own (F : FnOk X.prog X.w X.K X.mg X.base CX n f fd ps (spEqO R)) (hs : PySem.W.findIn X.K (.ref C) "__eq__" = some (some (.ref f))) (hf : PySem.W.isFn X.K (.ref f) = true) (hb : Binds X.K fd ps []) (hx : Passes CX X E)
    (hn : PySem.W.subIn X.K (.ref C) (.type "NoneType") = some false) : EqB X n (BOwn X.K C R) := by
  intro A pins s σ H x y u v b sb I rx ry d
  by_cases hsame : (u == v) = true
  · have e := eq_of_beq hsame
    subst e
    have hb1 : b = true := by
      rcases d with ⟨a, dx, fs, t, rfl, ha, ty, nf, hR, h⟩ | ⟨a, dx, fs, rfl, rfl, ha, hR⟩
      · cases rx
        refine h ?_
        cases y with
        | ref c =>
          cases ry
          rfl
        | non => cases ry
        | bl _ => cases ry
        | int _ => obtain ⟨_, z⟩ := ry; cases z
        | str _ => obtain ⟨_, z⟩ := ry; cases z
        | byt _ => obtain ⟨_, z⟩ := ry; cases z
        | flt _ => obtain ⟨_, z⟩ := ry; cases z
        | ty _ => cases ry
      · cases rx
        cases ry
    rw [hb1]
    exact SeqAt.EqAt.same (A := A) (s := s) u X.prog X.w X.xe _ ⟨rfl, H, I, Ext.rfl'⟩
  · have hu : (∃ a, u = .ref a) ∨ u = .none := by
      rcases d with ⟨a, dx, fs, t, rfl, ha, ty, nf, hR, h⟩ | ⟨a, dx, fs, rfl, rfl, ha, hR⟩
      · cases rx
        exact .inl ⟨_, rfl⟩
      · cases rx
        exact .inr rfl
    refine eqBool_by hu (by simpa using hsame) (wpAny_mono (rcB_own F hs hf hb hx hn A pins s σ H x y u v b sb I rx ry d) (fun r s' q => ?_) fun _ _ x => x)
    obtain ⟨hr, q⟩ := q
    exact ⟨b, by rw [hr, Bool.false_xor], rfl, q⟩
theorem monB_own {K : PySem.W.Frag} (hR : ∀ a y b H H', Ext H H' → R a y b H → R a y b H') : MonB (BOwn K C R) := fun x y b H H' e d => by
  rcases d with ⟨a, dx, fs, t, hx, ha, ty, nf, r, h⟩ | ⟨a, dx, fs, hx, hy, ha, r⟩
  · exact .inl ⟨a, dx, fs, t, hx, e _ _ ha, tyx_same e ty, nf, hR _ _ _ _ _ e r, h⟩
  · exact .inr ⟨a, dx, fs, hx, hy, e _ _ ha, hR _ _ _ _ _ e r⟩
end
end KA
namespace KA
open PySem PySem.Spec PyProof.Rows L2
section
variable {prog : Program} {w : World} {A : Around} {E : Value → Shared → Prop} {s : Shared}
theorem back_adjust (n : Nat) : Builtin.Slice.sliceAdjust none none (-1) (n : Int) = ((n : Int) - 1, -1) := rfl
theorem back_places (n : Nat) : Builtin.Slice.slicePlaces ((n : Int) - 1) (-1) (-1) = n := by
  unfold Builtin.Slice.slicePlaces
  rw [if_neg (by decide)]
  by_cases h : n = 0
  · subst h; rfl
  · rw [if_pos (by omega)]
    have e : ((n : Int) - 1 - -1 - 1) / (- -1) = (n : Int) - 1 := by
      rw [show (- -1 : Int) = 1 from rfl, Int.ediv_one]
      omega
    rw [e]
    omega
theorem back_pick (xs : Array Value) : ((List.range xs.size).filterMap fun (k : Nat) => xs[(((xs.size : Nat) : Int) - 1 + (k : Int) * (-1)).toNat]?).toArray = xs.toList.reverse.toArray := by
  congr 1
  have key : ∀ n, n ≤ xs.size → ((List.range n).filterMap fun (k : Nat) => xs[(((xs.size : Nat) : Int) - 1 + (k : Int) * (-1)).toNat]?) = xs.toList.reverse.take n := by
    intro n
    induction n with
    | zero => intro _; rfl
    | succ n ih =>
      intro hn
      have e : (((xs.size : Nat) : Int) - 1 + (n : Int) * (-1)).toNat = xs.size - 1 - n := by omega
      have e2 : xs.toList.reverse[n]? = some (xs[xs.size - 1 - n]'(by omega)) := by
        rw [List.getElem?_reverse (by rw [Array.length_toList]; omega)]
        simp
      rw [List.range_succ, List.filterMap_append, ih (by omega), List.take_add_one, e2, List.filterMap_cons, e, Array.getElem?_eq_getElem (by omega)]
      rfl
  rw [key xs.size (Nat.le_refl _), List.take_of_length_le (by rw [List.length_reverse, Array.length_toList]; exact Nat.le_refl _)]
theorem back_applied {sl : Addr} {vk : Value} {n : Nat} {Q : Int × Int × Nat → Shared → Prop} {vl vu : Value} (hs : s.heap.IsSliceOf sl vl vu vk) (pl : IsPart vl none) (pu : IsPart vu none) (pk : IsPart vk (some (-1)))
    (h : Q ((n : Int) - 1, -1, n) s) : wpAny (model prog w) A (Builtin.Slice.sliceApplied (.ref sl) (pure (n : Int))) Q E s := by
  obtain ⟨os, hos, hcs, hds⟩ := id hs
  unfold Builtin.Slice.sliceApplied Builtin.Slice.sliceFields
  refine wpAny_bind (wpAny_bind (wpAny_field hos hds (x := vl) rfl (wpAny_bind (wpAny_field hos hds (x := vu) rfl (wpAny_bind (wpAny_field hos hds (x := vk) rfl (wpAny_pure ?_)))))))
  refine wpAny_bind (HT.slicePart_ pk ?_)
  show wpAny _ _ (if ((-1 : Int) == 0) = true then _ else _) _ _ s
  rw [if_neg (by decide)]
  refine wpAny_bind (HT.slicePart_ pl (wpAny_bind (HT.slicePart_ pu (wpAny_bind (wpAny_pure ?_)))))
  show wpAny _ _ (match Builtin.Slice.sliceAdjust none none (-1) (n : Int) with | (lo, hi) => pure (lo, (-1 : Int), Builtin.Slice.slicePlaces lo hi (-1))) _ _ s
  rw [back_adjust]
  show wpAny _ _ (pure ((n : Int) - 1, (-1 : Int), Builtin.Slice.slicePlaces ((n : Int) - 1) (-1) (-1))) _ _ s
  rw [back_places]
  exact wpAny_pure h
/-- t[::-1] of a tuple -/
theorem back_tuple {t sl : Addr} {items : Array Value} {vl vu vk : Value} {Q : Value → Shared → Prop} (ht : IsTup s.heap t items) (hs : s.heap.IsSliceOf sl vl vu vk) (pl : IsPart vl none) (pu : IsPart vu none) (pk : IsPart vk (some (-1)))
    (h : Q (.ref s.heap.objs.size) { s with heap := s.heap.push { cls := .type "tuple", data := .seq items.toList.reverse.toArray } }) (hsz : items.size ≤ sizeLine) : wpAny (model prog w) A (getItem (.ref t) (.ref sl)) Q E s := by
  have hok : sizeOk (.seq items.toList.reverse.toArray) := by
    show items.toList.reverse.toArray.size ≤ sizeLine
    rw [List.size_toArray, List.length_reverse, Array.length_toList]
    exact hsz
  obtain ⟨os, hos, hcs, hds⟩ := id hs
  have hTs : s.TypeIs (.ref sl) "slice" := ⟨os, hos, hcs⟩
  unfold getItem
  try with_reducible refine wpAny_holding ?_
  first | refine wpAny_bind (wpAny_pure ?_) | skip
  refine wpAny_bind (wpAny_sequenceKey ht.typeIs (by decide) ?_)
  refine wpAny_bind (wpAny_callSpecial?_slot (name := Str.ofString "__getitem__") ht.typeIs PyProof.Rows.slot_tuple_getitem
    (wpAny_call_entry PyProof.Rows.slot_tuple_getitem ht.typeIs PyProof.Rows.entry_tuple_getitem ?_ (PyProof.Rows.args_tuple_getitem _ _)))
  show wpAny _ _ (Builtin.Tuple.tupleItemsOf (.ref t) >>= _) _ _ s
  refine wpAny_bind (PyProof.Rows.tupleItemsOf_ ht (wpAny_bind (wpAny_typeOf hTs ?_)))
  rw [if_pos (by decide)]
  refine wpAny_bind (back_applied (n := items.size) hs pl pu pk ?_)
  have hno : ¬ ((((items.size : Nat) : Int) - 1 == 0 && (-1 : Int) == 1 && items.size == items.size) = true) := by
    intro q
    rw [Bool.and_eq_true, Bool.and_eq_true] at q
    exact absurd q.1.2 (by decide)
  show wpAny _ _ (if (((items.size : Nat) : Int) - 1 == 0 && (-1 : Int) == 1 && items.size == items.size) = true then _ else _) _ _ s
  rw [if_neg hno, back_pick]
  first
    | exact wpAny_bind (m := Builtin.Tuple.tupleExact _) (wpAny_newObj_type (wpAny_pure ⟨_, rfl, wpAny_pure h⟩) hok)
    | exact wpAny_bind (m := Builtin.Tuple.tupleExact _) (wpAny_newObj_type (wpAny_bind (wpAny_pure (wpAny_pure ⟨_, rfl, wpAny_pure h⟩))) hok)
    | exact wpAny_bind (wpAny_bind (m := Builtin.Tuple.tupleExact _) (wpAny_newObj_type (wpAny_pure (wpAny_pure ⟨_, rfl, wpAny_pure h⟩)) hok))
    | exact wpAny_bind (wpAny_bind (m := Builtin.Tuple.tupleExact _) (wpAny_newObj_type (wpAny_pure ⟨_, rfl, wpAny_pure h⟩) hok))
end
section
variable {X : Cx}
def tRevT (K : PySem.W.Frag) (te : TE) : TE := fun σ H Q => te σ H fun x H1 => ∃ a xs, x = .ref a ∧ SqT K H1 a xs ∧ ∀ p, H1 p = none → Q (.ref p) (upd H1 p (.tup xs.reverse))
theorem pe_revT {e : Expr} {te : TE} {k : Nat} {p1 p2 p3 pos : Pos} (he : PE X e te) : PE X (.Subscript e (.Slice none none (some (.UnaryOp .USub (.Constant (.int 1) k p1) p2)) p3) pos) (tRevT X.K te) := by
  refine ⟨fun pins s σ H Q I h => ?_⟩
  refine Subscript_ (thn (he.run pins s σ H _ I h) fun v s1 ⟨x, H1, I1, r1, q1⟩ => ?_)
  obtain ⟨a, xs, ex, hx, q⟩ := q1
  subst ex
  cases r1
  have part : PO X (some (.UnaryOp .USub (.Constant (.int 1) k p1) p2)) (tPart (tUn (rU fun i => .int (-i)) (tC (.int 1)))) := po_some (pe_un un_neg pe_int)
  refine wpAny_Slice (thn (po_none.run pins s1 σ H1 (fun o Hx => o = none ∧ Hx = H1) I1 ⟨rfl, rfl⟩) fun vl s2 ⟨l, H2, I2, pl, el, e2⟩ => ?_)
  subst el e2
  refine thn (po_none.run pins s2 σ H2 (fun o Hx => o = none ∧ Hx = H2) I2 ⟨rfl, rfl⟩) fun vu s3 ⟨u, H3, I3, pu, eu, e3⟩ => ?_
  subst eu e3
  refine thn (part.run pins s3 σ H3 (fun o Hx => o = some (-1) ∧ Hx = H3) I3 ⟨1, rfl, -1, rfl, rfl, rfl⟩) fun vs s4 ⟨o, H4, I4, ps, eo, e4⟩ => ?_
  subst eo e4
  have J : L2.Inv X pins σ H4 { s4 with heap := s4.heap.push { cls := .type "slice", data := .fields #[vl, vu, vs] } } := I4.kept (t' := s4.toks) fun b ob q => Heap.get?_push_of_some _ q
  obtain ⟨its, r, ht, hz⟩ := J.tuple hx
  have hlen := r.length
  show wpAny (model X.prog X.w) X.A (subscriptTail e (.Slice none none (some (.UnaryOp .USub (.Constant (.int 1) k p1) p2)) p3) (.ref a) (.ref s4.heap.objs.size)) (EP X pins σ Q) X.xe { s4 with heap := s4.heap.push { cls := .type "slice", data := .fields #[vl, vu, vs] } }
  refine tail_any (ops := [.ref a, .ref s4.heap.objs.size]) ht.typeIs (PyProof.Rows.slot_tuple_getitem.lookup) ?_ (by with_unfolding_all rfl)
  refine back_tuple ht (Heap.IsSliceOf.new _ vl vu vs) pl pu ps ?_ (by rw [List.size_toArray]; omega)
  refine ⟨.ref _, _, J.laid (t' := s4.toks) (o := .tup xs.reverse) (fun b ob q => Heap.get?_push_of_some _ q) (Nat.le_refl _) ?_, rfl, q _ (J.hok.fresh (Nat.le_refl _))⟩
  exact ⟨by rw [List.length_reverse]; exact hz, _, r.reverse, IsTup.new _ _⟩
end
end KA
namespace KA
open PySem PySem.Spec PyProof.Rows L2
section
variable {X : Cx} {a b : Expr} {ta tb : TE} {rest : List Expr} {pos : Pos} {K' : PySem.W.Frag}
/-- the truth of a value, of an instance of an own class without __bool__ and __len__, too -/
def TruW (K : PySem.W.Frag) (x : V) (H : Hp) (k : Bool) : Prop := TruV K x H k ∨ ∃ (a C dx : Addr) (fs : List (Str × V)), x = .ref a ∧ H a = some (.ins C dx fs) ∧ PySem.W.findIn K (.ref C) "__bool__" = some none ∧ PySem.W.findIn K (.ref C) "__len__" = some none ∧ k = true
theorem truW_ok : TruR X (fun x H Q => ∃ k, TruW X.K x H k ∧ Q k H) := by
  intro pins s σ H x v Q I rx h
  obtain ⟨k, h | ⟨a, C, dx, fs, rfl, ha, hb, hl, rfl⟩, q⟩ := h
  · exact tru_ok pins s σ H x v Q I rx ⟨k, h, q⟩
  · cases rx
    obtain ⟨mA, J, _⟩ := ins_get I.hok ha
    obtain ⟨od, J, _⟩ := J.look
    obtain ⟨m, hF⟩ := I.fr
    exact PySem.W.truthy_K0 hF I.ok.mod.kin J hb hl ⟨H, I, q⟩
def tAndW (K : PySem.W.Frag) (ta tb : TE) : TE := fun σ H Q => ta σ H fun x H1 => ∃ k, TruW K x H1 k ∧ if k = true then tb σ H1 Q else Q x H1
theorem pe_andW (hK : X.K = K') (ha : PE X a ta) (hb : PE X (.BoolOp .And (b :: rest) pos) tb) : PE X (.BoolOp .And (a :: b :: rest) pos) (tAndW K' ta tb) := by
  subst hK
  refine ⟨fun pins s σ H Q I h => ?_⟩
  refine BoolOp_and (thn (ha.run pins s σ H _ I h) fun v s1 ⟨x, H1, I1, r1, k, e, q1⟩ => ?_)
  refine thn (truW_ok pins s1 σ H1 x v (fun c H2 => c = k ∧ H2 = H1) I1 r1 ⟨k, e, rfl, rfl⟩) fun c s2 ⟨H2, I2, e1, e2⟩ => ?_
  subst e2 e1
  cases c with
  | true => exact hb.run pins s2 σ H2 Q I2 q1
  | false => exact ⟨x, H2, I2, r1, q1⟩
theorem op_catAK (hK : X.K = K') : OpR X (binaryOp .Add) (rCatA K') := by
  subst hK
  exact op_catA
end
end KA
namespace KA
open PySem PySem.Spec PyProof.Rows L2
section
variable {X : Cx} {a b : Expr} {ta tb : TE} {rest : List Expr} {pos : Pos} {K' : PySem.W.Frag}
/-- a or b, a of any kind whose truth is known -/
def tOrW (K : PySem.W.Frag) (ta tb : TE) : TE := fun σ H Q => ta σ H fun x H1 => ∃ k, TruW K x H1 k ∧ if k = true then Q x H1 else tb σ H1 Q
theorem pe_orW (eK : X.K = K') (h1 : PE X a ta) (h2 : PE X (.BoolOp .Or (b :: rest) pos) tb) : PE X (.BoolOp .Or (a :: b :: rest) pos) (tOrW K' ta tb) := by
  subst eK
  refine ⟨fun pins s σ H Q I h => BoolOp_or (thn (h1.run pins s σ H _ I h) fun v s1 ⟨x, H1, I1, r1, k, e, q1⟩ => ?_)⟩
  refine thn (truW_ok pins s1 σ H1 x v (fun c G => c = k ∧ G = H1) I1 r1 ⟨k, e, rfl, rfl⟩) fun c s2 ⟨G, I2, e1, e2⟩ => ?_
  subst e2 e1
  cases c with
  | false => exact h2.run pins s2 σ G Q I2 q1
  | true => exact ⟨x, G, I2, r1, q1⟩
end
end KA
namespace KA
open PySem PySem.Spec PyProof.Rows L2
/-! enumerate over a tuple -/
theorem meets_enumT {v : Value} {o1 : Obj} {P1 : Heap → Prop} (Bg : Begins v o1 P1) :
    Meets (Builtin.«enumerate.__new__» ⟨[.type "enumerate", v], []⟩) (fun _ R s0 => P1 s0.heap ∧
      R (.ok (.ret (.ref (s0.heap.push o1).objs.size))) { s0 with heap := (s0.heap.push o1).push { cls := .type "enumerate", data := .fields #[.none, .bool false, .ref s0.heap.objs.size, rawInt 0, .none, .none] } }) :=
  .of_wp fun prog w A R s0 hyp => by
    obtain ⟨hp, gg, dd, tk, os⟩ := s0
    obtain ⟨hb, fin⟩ := hyp
    have hsub := sub_enumerate
    have go : ∀ {A' : Around} {E : Value → Shared → Prop} {Q : Value → Shared → Prop}, Q (.ref hp.objs.size) ⟨hp.push o1, gg, dd, tk, os⟩ → wpAny (model prog w) A' (pyIter v) Q E ⟨hp, gg, dd, tk, os⟩ := fun z => Bg.iter prog w _ _ ⟨hp, gg, dd, tk, os⟩ _ hb z
    wp_walk using go
    refine wpAny_stack_any fun _ => wpAny_pure ?_
    split
    · rename_i c _ _ _ _ _
      cases (c == Value.type "enumerate") <;> (wp_walk using go; exact ⟨_, rfl, fin⟩)
    · wp_walk using go
      exact ⟨_, rfl, fin⟩
section
variable {prog : Program} {w : World} {A : Around} {E : Value → Shared → Prop} {s : Shared}
theorem call_enumT {v : Value} {o1 : Obj} {P1 : Heap → Prop} {Q : Value → Shared → Prop} (Bg : Begins v o1 P1) (hb : P1 s.heap)
    (fin : ∀ g, IsEnum g (s.heap.objs.size + 1) s.heap.objs.size 0 .none → g.get? s.heap.objs.size = some o1 → (∀ b ob, s.heap.get? b = some ob → g.get? b = some ob) → Q (.ref (s.heap.objs.size + 1)) { s with heap := g }) :
    wpAny (model prog w) A (call (.type "enumerate") [v]) Q E s := by
  refine callType_new F.called_enumerate (by decide) (F.typeCall_enumerate_1 _) (F.newCall_enumerate_1 _) (fun ob => F.args_object_init_2 ob _) F.entry_enumerate_new (meets_enumT Bg) ⟨hb, ?_⟩
  have sz1 : (s.heap.push o1).objs.size = s.heap.objs.size + 1 := Heap.size_push ..
  show _ ∧ _
  rw [sz1]
  have isE : IsEnum ((s.heap.push o1).push { cls := .type "enumerate", data := .fields #[.none, .bool false, .ref s.heap.objs.size, rawInt 0, .none, .none] }) (s.heap.objs.size + 1) s.heap.objs.size 0 .none := by
    have z := Heap.get?_push_size (s.heap.push o1) (o := { cls := .type "enumerate", data := .fields #[.none, .bool false, .ref s.heap.objs.size, rawInt 0, .none, .none] }) rfl
    rwa [sz1] at z
  exact ⟨⟨_, isE, rfl⟩, fin _ isE (Heap.get?_push_of_some _ (Heap.get?_push_size _ Bg.free)) fun b ob z => Heap.get?_push_of_some _ (Heap.get?_push_of_some _ z)⟩
theorem enumT_end {en it a : Addr} {i : Nat} {its : List Value} {old : Value} {Q : Option Value → Shared → Prop} (nh : A.handled = none) (isE : IsEnum s.heap en it i old) (isT : s.heap.IsTupleIter it a i) (tp : s.heap.IsTuple a its.toArray) (le : its.length ≤ i)
    (fin : ∀ g, Heap.ExtBut it s.heap g → Q none { s with heap := g }) : wpAny (model prog w) A (pyNext (.ref en)) Q E s := by
  have ty : s.TypeIs (.ref en) "enumerate" := ⟨_, isE, rfl⟩
  unfold pyNext
  refine wpAny_bind (wpAny_attempt (wpAny_callSpecial?_slot (name := Str.ofString "__next__") ty F.slot_enumerate_next (wpAny_call_entry F.slot_enumerate_next ty F.entry_enumerate_next ?_ (F.args_enumerate_next_1 _))))
  show wpAny _ _ (field (.ref en) 2 >>= _) _ _ _
  refine wpAny_bind (wpAny_field isE rfl (x := .ref it) rfl (wpAny_bind (wpAny_nextOf_tuple_end nh isT tp (by simp; omega) fun g z eb ⟨o, ho, co⟩ => ?_)))
  exact wpAny_bind (wpAny_isInstance (T := "StopIteration") (b := true) ⟨o, ho, co⟩ isSubtype_stop (wpAny_pure (fin _ eb)))
end
/-- the tuple at a, each item in a new pair -/
def IteT (K : PySem.W.Frag) (a : Addr) : It :=
  ⟨fun i H => ∃ (xs : List V) (x : V), SqT K H a xs ∧ xs[i]? = some x, fun i H v G => ∃ T x, v = .ref T ∧ H T = none ∧ G = upd H T (.tup [.int (i : Nat), x]) ∧ ∀ xs, SqT K H a xs → xs[i]? = some x, fun i H => ∃ xs : List V, SqT K H a xs ∧ xs.length ≤ i⟩
theorem tup_no_iter {h : Heap} {a it : Addr} {i : Nat} {b : Addr} {its : Array Value} (hi : h.IsTupleIter it b i) (ht : h.IsTuple a its) : a ≠ it := fun e => by
  obtain ⟨o, h1, c1, _⟩ := hi
  obtain ⟨o', h2, c2, _⟩ := ht
  rw [e] at h2
  rw [Option.some.inj (h1.symm.trans h2)] at c1
  exact absurd (c1.symm.trans c2) (by decide)
theorem tup_no_enum {h : Heap} {a en it : Addr} {i : Int} {old : Value} {its : Array Value} (hi : IsEnum h en it i old) (ht : h.IsTuple a its) : en ≠ a := fun e => by
  obtain ⟨o', h2, c2, _⟩ := ht
  have h1 : h.get? en = _ := hi
  rw [← e] at h2
  rw [← Option.some.inj (h1.symm.trans h2)] at c2
  exact absurd (show Value.type "enumerate" = Value.type "tuple" from c2) (by decide)
theorem turn_enumT {P : Program} {w : World} {K : PySem.W.Frag} {elts : List Expr} {kk : Nat} {tp : Pos} (a en it : Addr) :
    Turn P w K (.Tuple elts kk tp) (IteT K a) [en, it] en (fun i h => (∃ old, IsEnum h en it ((i : Nat) : Int) old) ∧ h.IsTupleIter it a i ∧ en ≠ it) where
  mem := by simp
  obj := fun i h st b hb => by
    obtain ⟨⟨old, isE⟩, ⟨o, ho, _, dt⟩, _⟩ := st
    rcases (show b = en ∨ b = it by simpa using hb) with rfl | rfl
    · exact ⟨_, isE, fun v z => nomatch z⟩
    · exact ⟨o, ho, fun v z => by rw [dt] at z; cases z⟩
  keep := fun i h g st k => by
    obtain ⟨⟨old, isE⟩, isT, ne⟩ := st
    exact ⟨⟨old, k en (by simp) _ isE⟩, isT.at fun o z => k it (by simp) o z, ne⟩
  item := by
    intro X eP ew eK cm i pins s σ H E I fp st go
    subst eP ew eK
    obtain ⟨⟨old, isE⟩, isT, ne⟩ := st
    obtain ⟨xs, x, sq, hx⟩ := go
    obtain ⟨its, rv, tp', hz⟩ := I.tuple sq
    have tp' : s.heap.IsTuple a its.toArray := tp'
    obtain ⟨u, hu, ru⟩ := rv.get hx
    have lte : en < s.heap.objs.size := Heap.lt_size isE
    have lti : it < s.heap.objs.size := by
      obtain ⟨_, z, _⟩ := isT
      exact Heap.lt_size z
    have dr := Draws.tuple (prog := X.prog) (w := X.w) (A := X.A.in1) (show X.A.in1.handled = none from I.ok.hd cm) it a (tup_no_iter isT tp') its.toArray
    have iLt : i < its.toArray.size := by
      have := (List.getElem?_eq_some_iff.mp hu).1
      simpa using this
    refine wpAny_pyNext_enum_itemD dr isE ⟨isT, tp'⟩ iLt ne (by simp [ne, tup_no_enum isE tp']) fun y g tk py isO st' newT szg kp => ?_
    have ey : y = u := by
      have py : its.toArray[i]? = some y := py
      have : its[i]? = some y := by simpa using py
      exact Option.some.inj (this.symm.trans hu)
    subst ey
    refine ⟨_, rfl, wpAny_letOwnedTupleGo_enum (s := { s with heap := g, toks := tk + 1 }) isO fun g2 isE2 sb => ?_⟩
    have newT2 : g2.get? s.heap.objs.size = some { cls := .type "tuple", data := .seq #[.int i tk, y] } := (sb.2 _ (Nat.ne_of_gt lte)).trans newT
    have okT : ObjOk X.prog X.w (upd H s.heap.objs.size (.tup [.int (i : Nat), x])) g2 s.heap.objs.size (.tup [.int (i : Nat), x]) :=
      ⟨by show 2 ≤ sizeLine; decide, [.int i tk, y], .cons ⟨_, rfl⟩ (.cons ru .nil), ⟨_, newT2, rfl, _, rfl⟩⟩
    have J : Inv X pins σ (upd H s.heap.objs.size (.tup [.int (i : Nat), x])) { s with heap := g2, toks := tk + 1 } :=
      I.turnedNew (ch := [en, it]) (fun b ob nb z => (sb.2 b (fun q => nb (by simp [q]))).trans (kp b ob (fun q => nb (by simp [q])) (fun q => nb (by simp [q])) z)) fp (Nat.le_refl _) okT
    refine ⟨.ref s.heap.objs.size, _, J, rfl, ⟨_, x, rfl, I.hok.fresh (Nat.le_refl _), rfl, fun ys hy => by rw [I.tuple_inj hy sq]; exact hx⟩, ⟨⟨y, ?_⟩, st'.1.at fun o z => (sb.2 it (Ne.symm ne)).trans z, ne⟩, fun b hb => ?_⟩
    · rw [show ((i + 1 : Nat) : Int) = (i : Int) + 1 by omega]
      exact isE2
    · have ltb : b < s.heap.objs.size := by
        rcases (show b = en ∨ b = it by simpa using hb) with q | q
        · rw [q]; exact lte
        · rw [q]; exact lti
      rw [upd_ne (Nat.ne_of_lt ltb)]
      exact (fp b hb).1
  done := by
    intro X eP ew eK cm i pins s σ H E I fp st go
    subst eP ew eK
    obtain ⟨⟨old, isE⟩, isT, ne⟩ := st
    obtain ⟨xs, sq, hx⟩ := go
    obtain ⟨its, rv, tp', hz⟩ := I.tuple sq
    have tp' : s.heap.IsTuple a its.toArray := tp'
    obtain ⟨f0, f1, f2, f3, f4, f5⟩ := fp it (by simp)
    have ll := rv.length
    exact enumT_end (I.ok.hd cm) isE isT tp' (by omega) fun g eb => ⟨rfl, I.turned (t' := s.toks) (fun b o nb z => eb b o nb z) f0 f1 f3 f4 f5⟩
  self := fun A i s Q E st fin => by
    obtain ⟨⟨_, isE⟩, _⟩ := st
    exact wpAny_pyIter_enum isE fin
def iEnumT (K : PySem.W.Frag) (ta : TA) : TI := fun σ H R => ta σ H fun vs G => ∃ a xs, vs = [.ref a] ∧ SqT K G a xs ∧ R (IteT K a) G
theorem pi_enumT {X : Cx} {e : Expr} {ta : TA} {p pos tp : Pos} {elts : List Expr} {kk : Nat} (gl : Gl X "enumerate") (mn : X.mg "enumerate" = none) (ha : PA X [e] ta) (st : starEach [e] X.env = [(false, eval e X.env)] := by rfl) :
    PI X (.Tuple elts kk tp) (.Call (.Name "enumerate" p) [e] [] pos) (iEnumT X.K ta) := by
  refine ⟨fun pins s σ H R I h => ?_⟩
  refine Call_ (ld_blt I gl mn boot_enumerate (PyProof.Rows.callWith_type1 (thn (ha.run pos pins s σ H _ I h) fun us s1 ⟨vs, H1, I1, r1, a, xs, ex, sq, q⟩ => ?_) st rfl))
  subst ex
  obtain ⟨u, rfl, r⟩ : ∃ u, us = [u] ∧ RelV (.ref a) u := by
    cases r1 with
    | cons r rr => cases rr; exact ⟨_, rfl, r⟩
  cases r
  obtain ⟨its, rv, tp', hz⟩ := I1.tuple sq
  refine call_enumT (begins_tuple a its.toArray) tp' fun g isE isT kp => wpAny_pyIter_enum isE ?_
  have I2 : Inv X pins σ H1 { s1 with heap := g } := I1.kept (t' := s1.toks) kp
  refine ⟨s1.heap.objs.size + 1, [s1.heap.objs.size + 1, s1.heap.objs.size], _, _, H1, rfl, I2, turn_enumT a (s1.heap.objs.size + 1) s1.heap.objs.size, ⟨⟨.none, isE⟩, ⟨_, isT, rfl, rfl⟩, Nat.succ_ne_self _⟩, fun b hb => ?_, q⟩
  have le : s1.heap.objs.size ≤ b := by
    rcases (show b = s1.heap.objs.size + 1 ∨ b = s1.heap.objs.size by simpa using hb) with z | z
    · rw [z]; exact Nat.le_add_right _ _
    · rw [z]; exact Nat.le_refl _
  exact I1.fpOk le (I1.hok.fresh le)
/-- a comprehension over enumerate(tuple) that leaves places out; the heap stays but for the pairs -/
theorem lc_enumT {K : PySem.W.Frag} {a : Addr} {xs : List V} {H : Hp} {D : Addr} (hD : H D = none) (hS : H a = some (.tup xs)) (hl : xs.length ≤ 10000) (p : Nat → Bool) (f : Nat → V)
    {g : TG} {tt : TT} {te : TE} {vs : List Nat} {σ : L2.St} {Qd : Hp → Prop}
    (turn : ∀ (i : Nat) (x : V) (T : Addr) (H2 : Hp) (R : V → Hp → Prop) (C : Hp → Prop), xs[i]? = some x → Same H H2 → H2 T = some (.tup [.int (i : Nat), x]) → (p i = true → R (f i) H2) → (p i = false → C H2) → g (.ref T) (wipe σ vs) H2 fun σ2 H3 => wipe σ2 vs = wipe σ vs ∧ tt σ2 H3 fun b H4 => if b = true then te σ2 H4 R else C H4)
    (fin : ∀ H', Same H H' → H' D = some (.lst (((List.range xs.length).filter p).map f)) → Qd H') :
    ∃ W : Nat → Nat → Hp → Prop, (∃ m, W 0 m (upd H D (.lst []))) ∧ ∀ i m H, W i m H →
      ((IteT K a).stop i H ∧ Qd H) ∨ ((IteT K a).go i H ∧ ∃ Nx : Hp → Prop, (∀ H', Nx H' → ∃ m', m' < m ∧ W (i + 1) m' H') ∧ ∀ x H', (IteT K a).yld i H x H' → g x (wipe σ vs) H' fun σ2 H2 => wipe σ2 vs = wipe σ vs ∧ tt σ2 H2 fun b H3 =>
        if b = true then te σ2 H3 fun y H4 => ∃ acc, H4 D = some (.lst acc) ∧ acc.length < sizeLine ∧ Nx (upd H4 D (.lst (acc ++ [y]))) else Nx H3) := by
  refine ⟨fun i m H' => i ≤ xs.length ∧ m = xs.length - i ∧ Same H H' ∧ H' D = some (.lst (((List.range i).filter p).map f)), ⟨_, Nat.zero_le _, rfl, same_upd hD, upd_same⟩, ?_⟩
  rintro i m H1 ⟨hi, rfl, s1, e1⟩
  have ea := s1 _ _ hS
  by_cases he : i = xs.length
  · subst he
    exact .inl ⟨⟨xs, .inl (.inl ea), Nat.le_refl _⟩, fin H1 s1 e1⟩
  have hlt : i < xs.length := by omega
  refine .inr ⟨⟨xs, xs[i], .inl (.inl ea), List.getElem?_eq_getElem hlt⟩, fun H' => Same H H' ∧ H' D = some (.lst (((List.range (i + 1)).filter p).map f)), fun H' ⟨z1, z2⟩ => ⟨xs.length - (i + 1), by omega, by omega, rfl, z1, z2⟩, ?_⟩
  rintro _ _ ⟨T, x, rfl, hT, rfl, hx⟩
  have nT := ne_of_none e1 hT
  have z := same_upd hT (o := .tup [.int (i : Nat), x])
  have s2 := s1.trans z
  have e2 := z _ _ e1
  refine turn i x T _ _ _ (hx xs (.inl (.inl ea))) s2 upd_same (fun hp => ?_) (fun hp => ?_)
  · refine ⟨_, e2, ?_, fun b o h => ?_, ?_⟩
    · rw [List.length_map]
      refine Nat.lt_of_le_of_lt (List.length_filter_le _ _) ?_
      rw [List.length_range]
      exact Nat.lt_of_lt_of_le (show i < 10000 by omega) (by decide)
    · rw [upd_ne (ne_of_none h hD)]
      exact s2 _ _ h
    · rw [upd_same, List.range_succ, List.filter_append, List.map_append, List.filter_cons_of_pos hp]
      rfl
  · refine ⟨s2, ?_⟩
    rw [e2, List.range_succ, List.filter_append, List.map_append, List.filter_cons_of_neg (by rw [hp]; exact Bool.false_ne_true)]
    show _ = some (HO.lst (_ ++ []))
    rw [List.append_nil]
end KA
namespace KA
open PySem PySem.SeqAt
open AutoSeq1 (wpAny_loadPart')
open MeetsSeq MeetsSeq2 MeetsSeq3 SeqRoads2
section
variable {prog : Program} {w : World} {A : Around} {R : Result → Shared → Prop}
/-- a list, read anew at each turn: the item is told equal to x or not -/
def ItI (prog : Program) (w : World) (A : Around) (E : Value → Shared → Prop) (p : Addr) (x : Value) (N : Nat) (J : Nat → Nat → Shared → Prop) (T : Nat → Nat → Bool → Shared → Prop) : Prop :=
  ∀ i c s, J i c s → ∃ (xs : Array Value) (m : Nat), s.heap.get? p = some { cls := .type "list", data := .seq xs m } ∧ xs.size = N ∧
    ∀ (g1 : i < xs.size), wpAny (model prog w) A.in1 (eqBool xs[i] x) (fun r s' => T i c r s') E s
theorem inB (p : Addr) (x : Value) (N : Nat) (J : Nat → Nat → Shared → Prop) (F : Shared → Prop) (hJ : ItI prog w A (fun e s' => R (.error e) s') p x N J (fun i c r s' => (r = false → J (i + 1) c s') ∧ (r = true → F s')))
    (done : ∀ c s, J N c s → R (.ok (.ret (.bool false))) s) (hit : ∀ s, F s → R (.ok (.ret (.bool true))) s) : ∀ (k i c : Nat), N - i = k → i ≤ N → ∀ s, J i c s →
      wpAny (model prog w) A.in1 (Builtin.«list.__contains__.loop» ⟨[.ref p, x, rawInt i], []⟩) (GQ.FinOf prog w A R) (fun e s' => R (.error e) s') s
  | 0, i, c, hk, hi, s, hs => by
    obtain ⟨xs, m, gp, zp, _⟩ := hJ _ _ _ hs
    have iN : i = N := by omega
    have last : R (.ok (.ret (.bool false))) s := done c s (iN ▸ hs)
    have n1 : xs[((i : Nat) : Int).toNat]? = none := by simp; omega
    obtain ⟨hh, gg, dd, kk, oo⟩ := s
    wp_walk using wpAny_loadPart' gp
    rw [n1]
    wp_walk
    exact last
  | k + 1, i, c, hk, hi, s, hs => by
    obtain ⟨xs, m, gp, zp, tn⟩ := hJ _ _ _ hs
    have ip : i < xs.size := by omega
    have tt := tn ip
    have n1 : xs[((i : Nat) : Int).toNat]? = some xs[i] := by simp [ip]
    have up : ((i : Int) + 1) = ((i + 1 : Nat) : Int) := by omega
    have next := fun s2 h2 => inB p x N J F hJ done hit k (i + 1) c (by omega) (by omega) s2 h2
    obtain ⟨hh, gg, dd, kk, oo⟩ := s
    wp_walk using wpAny_loadPart' gp
    rw [n1]
    refine wpAny_bind (wpAny_mono tt (fun r s2 h2 => ?_) fun _ _ x => x)
    cases r with
    | false =>
      have h3 := next s2 (h2.1 rfl)
      obtain ⟨hh2, gg2, dd2, kk2, oo2⟩ := s2
      wp_walk
      rw [up]
      exact ⟨plainId_quiet plain_contains_loop _, codeAny_builtin entry_contains_loop (by rw [Around.under_plainId plain_contains_loop _]; exact h3)⟩
    | true =>
      have h3 := hit s2 (h2.2 rfl)
      obtain ⟨hh2, gg2, dd2, kk2, oo2⟩ := s2
      wp_walk
      exact h3
theorem containsB (p : Addr) (x : Value) (N : Nat) (J : Nat → Nat → Shared → Prop) (F : Shared → Prop) (hJ : ItI prog w A (fun e s' => R (.error e) s') p x N J (fun i c r s' => (r = false → J (i + 1) c s') ∧ (r = true → F s')))
    (done : ∀ c s, J N c s → R (.ok (.ret (.bool false))) s) (hit : ∀ s, F s → R (.ok (.ret (.bool true))) s) {s : Shared} (hs : J 0 0 s) :
      wpAny (model prog w) A.in1 (Builtin.«list.__contains__» ⟨[.ref p, x], []⟩) (GQ.FinOf prog w A R) (fun e s' => R (.error e) s') s := by
  have all := inB p x N J F hJ done hit _ 0 0 rfl (Nat.zero_le _) s hs
  obtain ⟨xs, m, gp, zp, _⟩ := hJ _ _ _ hs
  obtain ⟨hh, gg, dd, kk, oo⟩ := s
  wp_walk using wpAny_loadPart' gp
  exact ⟨plainId_quiet plain_contains_loop _, codeAny_builtin entry_contains_loop (by rw [Around.under_plainId plain_contains_loop _]; exact all)⟩
theorem cntB (p : Addr) (x : Value) (N : Nat) (J : Nat → Nat → Shared → Prop) (hJ : ItI prog w A (fun e s' => R (.error e) s') p x N J (fun i c r s' => J (i + 1) (if r then c + 1 else c) s'))
    (done : ∀ c s, J N c s → R (.ok (.ret (.int (c : Int) s.toks))) { s with toks := s.toks + 1 }) : ∀ (k i c : Nat), N - i = k → i ≤ N → ∀ s, J i c s →
      wpAny (model prog w) A.in1 (Builtin.«list.count.loop» ⟨[.ref p, x, rawInt i, rawInt c], []⟩) (GQ.FinOf prog w A R) (fun e s' => R (.error e) s') s
  | 0, i, c, hk, hi, s, hs => by
    obtain ⟨xs, m, gp, zp, _⟩ := hJ _ _ _ hs
    have iN : i = N := by omega
    have last := done c s (iN ▸ hs)
    have n1 : xs[((i : Nat) : Int).toNat]? = none := by simp; omega
    obtain ⟨hh, gg, dd, kk, oo⟩ := s
    wp_walk using wpAny_loadPart' gp
    rw [n1]
    wp_walk
    exact last
  | k + 1, i, c, hk, hi, s, hs => by
    obtain ⟨xs, m, gp, zp, tn⟩ := hJ _ _ _ hs
    have ip : i < xs.size := by omega
    have tt := tn ip
    have n1 : xs[((i : Nat) : Int).toNat]? = some xs[i] := by simp [ip]
    have up : ((i : Int) + 1) = ((i + 1 : Nat) : Int) := by omega
    have up2 : ((c : Int) + 1) = ((c + 1 : Nat) : Int) := by omega
    have next := fun c' s2 h2 => cntB p x N J hJ done k (i + 1) c' (by omega) (by omega) s2 h2
    obtain ⟨hh, gg, dd, kk, oo⟩ := s
    wp_walk using wpAny_loadPart' gp
    rw [n1]
    refine wpAny_bind (wpAny_mono tt (fun r s2 h2 => ?_) fun _ _ x => x)
    cases r with
    | false =>
      have h3 := next c s2 h2
      obtain ⟨hh2, gg2, dd2, kk2, oo2⟩ := s2
      wp_walk
      simp only [Bool.false_eq_true, if_false]
      rw [up]
      exact ⟨plainId_quiet plain_count_loop _, codeAny_builtin entry_count_loop (by rw [Around.under_plainId plain_count_loop _]; exact h3)⟩
    | true =>
      have h3 := next (c + 1) s2 h2
      obtain ⟨hh2, gg2, dd2, kk2, oo2⟩ := s2
      wp_walk
      simp only [if_true]
      rw [up, up2]
      exact ⟨plainId_quiet plain_count_loop _, codeAny_builtin entry_count_loop (by rw [Around.under_plainId plain_count_loop _]; exact h3)⟩
theorem countB (p : Addr) (x : Value) (N : Nat) (J : Nat → Nat → Shared → Prop) (hJ : ItI prog w A (fun e s' => R (.error e) s') p x N J (fun i c r s' => J (i + 1) (if r then c + 1 else c) s'))
    (done : ∀ c s, J N c s → R (.ok (.ret (.int (c : Int) s.toks))) { s with toks := s.toks + 1 }) {s : Shared} (hs : J 0 0 s) :
      wpAny (model prog w) A.in1 (Builtin.«list.count» ⟨[.ref p, x], []⟩) (GQ.FinOf prog w A R) (fun e s' => R (.error e) s') s := by
  have all := cntB p x N J hJ done _ 0 0 rfl (Nat.zero_le _) s hs
  obtain ⟨xs, m, gp, zp, _⟩ := hJ _ _ _ hs
  obtain ⟨hh, gg, dd, kk, oo⟩ := s
  wp_walk using wpAny_loadPart' gp
  exact ⟨plainId_quiet plain_count_loop _, codeAny_builtin entry_count_loop (by rw [Around.under_plainId plain_count_loop _]; exact all)⟩
theorem idxB (upto : Int) (p : Addr) (x : Value) (N : Nat) (hN : (N : Int) < upto) (J : Nat → Nat → Shared → Prop) (hJ : ItI prog w A (fun e s' => R (.error e) s') p x N J (fun i c r s' => (r = false → J (i + 1) c s') ∧ (r = true → R (.ok (.ret (.int (i : Int) s'.toks))) { s' with toks := s'.toks + 1 })))
    (done : ∀ c s, ¬ J N c s) : ∀ (k i c : Nat), N - i = k → i ≤ N → ∀ s, J i c s →
      wpAny (model prog w) A.in1 (Builtin.«list.index.loop» ⟨[.ref p, x, rawInt i, rawInt upto], []⟩) (GQ.FinOf prog w A R) (fun e s' => R (.error e) s') s
  | 0, i, c, hk, hi, s, hs => by
    have iN : i = N := by omega
    exact absurd (iN ▸ hs) (done c s)
  | k + 1, i, c, hk, hi, s, hs => by
    obtain ⟨xs, m, gp, zp, tn⟩ := hJ _ _ _ hs
    have ip : i < xs.size := by omega
    have tt := tn ip
    have hst : (i : Int) < upto := by omega
    have n1 : (if (i : Int) < upto then xs[((i : Nat) : Int).toNat]? else none) = some xs[i] := by rw [if_pos hst]; simp [ip]
    have up : ((i : Int) + 1) = ((i + 1 : Nat) : Int) := by omega
    have next := fun s2 h2 => idxB upto p x N hN J hJ done k (i + 1) c (by omega) (by omega) s2 h2
    obtain ⟨hh, gg, dd, kk, oo⟩ := s
    wp_walk using wpAny_loadPart' gp
    rw [n1]
    refine wpAny_bind (wpAny_mono tt (fun r s2 h2 => ?_) fun _ _ x => x)
    cases r with
    | false =>
      have h3 := next s2 (h2.1 rfl)
      obtain ⟨hh2, gg2, dd2, kk2, oo2⟩ := s2
      wp_walk
      rw [up]
      exact ⟨plainId_quiet plain_index_loop _, codeAny_builtin entry_index_loop (by rw [Around.under_plainId plain_index_loop _]; exact h3)⟩
    | true =>
      have h3 := h2.2 rfl
      obtain ⟨hh2, gg2, dd2, kk2, oo2⟩ := s2
      wp_walk
      exact h3
theorem indexB (p : Addr) (x : Value) (N : Nat) (hN : (N : Int) < 2 ^ 63 - 1) (J : Nat → Nat → Shared → Prop) (hJ : ItI prog w A (fun e s' => R (.error e) s') p x N J (fun i c r s' => (r = false → J (i + 1) c s') ∧ (r = true → R (.ok (.ret (.int (i : Int) s'.toks))) { s' with toks := s'.toks + 1 })))
    (done : ∀ c s, ¬ J N c s) {s : Shared} (hs : J 0 0 s) :
      wpAny (model prog w) A.in1 (Builtin.«list.index» ⟨[.ref p, x], []⟩) (GQ.FinOf prog w A R) (fun e s' => R (.error e) s') s := by
  have all := idxB (2 ^ 63 - 1) p x N hN J hJ done _ 0 0 rfl (Nat.zero_le _) s hs
  obtain ⟨xs, m, gp, zp, _⟩ := hJ _ _ _ hs
  obtain ⟨hh, gg, dd, kk, oo⟩ := s
  wp_walk using wpAny_loadPart' gp
  have a1 : ((fun i : Int => if i < 0 then max 0 (i + (xs.size : Int)) else i) ((none : Option Int).getD 0)) = ((0 : Nat) : Int) := by simp
  have a2 : ((fun i : Int => if i < 0 then max 0 (i + (xs.size : Int)) else i) ((none : Option Int).getD (2 ^ 63 - 1))) = 2 ^ 63 - 1 := by simp
  rw [a1, a2]
  exact ⟨plainId_quiet plain_index_loop _, codeAny_builtin entry_index_loop (by rw [Around.under_plainId plain_index_loop _]; exact all)⟩
end
end KA
namespace KA
open PySem PySem.Spec PyProof.Rows L2
def anyF (N : Nat) (f : Nat → Bool) : Bool := (List.range N).any f
def cntF (N : Nat) (f : Nat → Bool) : Nat := (List.range N).countP f
theorem anyF_true {N j : Nat} {f : Nat → Bool} (h : j < N) (e : f j = true) : anyF N f = true := by
  unfold anyF
  rw [List.any_eq_true]
  exact ⟨j, List.mem_range.mpr h, e⟩
theorem anyF_false {N : Nat} {f : Nat → Bool} (h : ∀ j, j < N → f j = false) : anyF N f = false := by
  unfold anyF
  rw [List.any_eq_false]
  exact fun j hj => by rw [h j (List.mem_range.mp hj)]; simp
theorem cntF_succ {N : Nat} {f : Nat → Bool} : cntF (N + 1) f = if f N then cntF N f + 1 else cntF N f := by
  unfold cntF
  rw [List.range_succ, List.countP_append]
  cases h : f N <;> simp [h]
section
variable {X : Cx} {n : Nat} {D : BEq2}
/-- each item beside x, and what == tells -/
def ItsB (D : BEq2) (xs : List V) (x : V) (f : Nat → Bool) (H : Hp) : Prop := ∀ (i : Nat) z, xs[i]? = some z → D z x (f i) H
theorem turnI (hD : MonB D) (h : EqB X n D) {A : Around} (sb : Sub X (n + 1) A) {pins : List (Addr × Obj)} {σ : L2.St} {H : Hp} {xs : List V} {x : V} {u : Value} {its : List Value} {f : Nat → Bool} (p : ItsB D xs x f H) (r : Vals xs its) (rx : RelV x u)
    (i : Nat) (h1 : i < its.toArray.size) (s' : Shared) (l : LoopI X pins σ H s') :
    wpAny (model X.prog X.w) A.in1 (eqBool its.toArray[i] u) (fun r s2 => r = f i ∧ LoopI X pins σ H s2) X.xe s' := by
  obtain ⟨H1, I1, e1⟩ := l
  have l1 : i < its.length := by simpa using h1
  have k1 : i < xs.length := by rw [r.length]; exact l1
  obtain ⟨v, hu, ru⟩ := r.get (List.getElem?_eq_getElem k1)
  have g1 : its.toArray[i] = v := by
    rw [List.getElem?_eq_getElem l1] at hu
    simpa using Option.some.inj hu
  rw [g1]
  refine wpAny_mono (h A.in1 pins s' σ H1 _ _ v u _ sb.in1 I1 ru rx (hD _ _ _ _ _ e1 (p i _ (List.getElem?_eq_getElem k1)))) (fun r s2 q => ?_) fun _ _ x => x
  obtain ⟨hr, H2, I2, e2⟩ := q
  exact ⟨hr, H2, I2, e1.trans e2⟩
theorem lookI {pins : List (Addr × Obj)} {σ : L2.St} {H : Hp} {p : Addr} {xs : List V} (hp : H p = some (.lst xs)) (s' : Shared) (z : LoopI X pins σ H s') : ∃ (as : List Value) (m : Nat), Vals xs as ∧ s'.heap.get? p = some { cls := .type "list", data := .seq as.toArray m } ∧ as.toArray.size = xs.length := by
  obtain ⟨H1, I1, e1⟩ := id z
  obtain ⟨_, its, k, r, e⟩ := I1.hok p _ (e1 _ _ hp)
  exact ⟨its, k, r, e, by rw [List.size_toArray, ← r.length]⟩
theorem runIn {A : Around} {Q : Value → Shared → Prop} (hD : MonB D) (h : EqB X n D) (sb : Sub X (n + 1) A) {pins : List (Addr × Obj)} {s : Shared} {σ : L2.St} {H : Hp} {p : Addr} {xs : List V} {x : V} {u : Value} {f : Nat → Bool} (I : L2.Inv X pins σ H s) (rx : RelV x u) (hp : H p = some (.lst xs)) (pr : ItsB D xs x f H)
    (q : ∀ s', LoopI X pins σ H s' → Q (.bool (anyF xs.length f)) s') : wpAny (model X.prog X.w) A (call (.builtin "list.__contains__") [.ref p, u]) Q X.xe s := by
  obtain ⟨as, m, r, e, z1⟩ := lookI hp s ⟨H, I, Ext.rfl'⟩
  refine GQ.call_here PySem.F.slot_list_contains ⟨_, e, rfl⟩ PySem.F.entry_list_contains (PySem.F.args_list_contains_2 _ _) ?_
  refine containsB (R := wants Q X.xe) p u xs.length (fun i _ s' => LoopI X pins σ H s' ∧ ∀ j, j < i → f j = false) (fun s' => LoopI X pins σ H s' ∧ ∃ j, j < xs.length ∧ f j = true) (fun i c s' z => ?_) (fun c s' z => ?_) (fun s' z => ?_) ⟨⟨H, I, Ext.rfl'⟩, fun j hj => absurd hj (Nat.not_lt_zero _)⟩
  · obtain ⟨z, hf⟩ := z
    obtain ⟨as, k, r, e, z1⟩ := lookI hp s' z
    refine ⟨_, k, e, z1, fun g1 => wpAny_mono (turnI hD h sb pr r rx i g1 s' z) (fun r s2 q2 => ?_) fun _ _ x => x⟩
    obtain ⟨rfl, q2⟩ := q2
    refine ⟨fun t => ⟨q2, fun j hj => ?_⟩, fun t => ⟨q2, i, by omega, t⟩⟩
    by_cases hji : j = i
    · rw [hji]; exact t
    · exact hf j (by omega)
  · have := q s' z.1
    rw [anyF_false z.2] at this
    exact this
  · obtain ⟨z, j, hj, e⟩ := z
    have := q s' z
    rw [anyF_true hj e] at this
    exact this
def rInB (neg : Bool) (D : BEq2) : R2 := fun x y H Q => ∃ (p : Addr) (xs : List V) (f : Nat → Bool), y = .ref p ∧ H p = some (.lst xs) ∧ ItsB D xs x f H ∧ ∀ H', Ext H H' → Q (.bl (neg ^^ anyF xs.length f)) H'
theorem op_inB (hD : MonB D) (h : EqB X n D) (hr : Room (n + 1) X.A) : OpR X (compareOp .In) (rInB false D) := by
  intro pins s σ H x y v u Q I rx ry hq
  obtain ⟨p, xs, f, rfl, hp, pr, q⟩ := hq
  cases ry
  obtain ⟨as, m, r, e, z1⟩ := lookI hp s ⟨H, I, Ext.rfl'⟩
  show wpAny (model X.prog X.w) X.A (do return Value.bool (← contains (.ref p) v)) (EP X pins σ Q) X.xe s
  refine wpAny_bind (wpAny_contains_slot ⟨_, e, rfl⟩ PySem.F.slot_list_contains (runIn hD h ⟨hr, rfl⟩ I rx hp pr fun s' z => ?_))
  obtain ⟨H', I', ex⟩ := z
  exact wpAny_truthy_bool (wpAny_pure ⟨.bl _, H', I', rfl, by have := q H' ex; rwa [Bool.false_xor] at this⟩)
theorem op_notInB (hD : MonB D) (h : EqB X n D) (hr : Room (n + 1) X.A) : OpR X (compareOp .NotIn) (rInB true D) := by
  intro pins s σ H x y v u Q I rx ry hq
  obtain ⟨p, xs, f, rfl, hp, pr, q⟩ := hq
  cases ry
  obtain ⟨as, m, r, e, z1⟩ := lookI hp s ⟨H, I, Ext.rfl'⟩
  show wpAny (model X.prog X.w) X.A (do return Value.bool (!(← contains (.ref p) v))) (EP X pins σ Q) X.xe s
  refine wpAny_bind (wpAny_contains_slot ⟨_, e, rfl⟩ PySem.F.slot_list_contains (runIn hD h ⟨hr, rfl⟩ I rx hp pr fun s' z => ?_))
  obtain ⟨H', I', ex⟩ := z
  exact wpAny_truthy_bool (wpAny_pure ⟨.bl _, H', I', rfl, by have := q H' ex; rwa [Bool.true_xor] at this⟩)
/-- l.count(x) by own == -/
def rCountB (D : BEq2) : V → List V → Hp → VK → Prop := fun x xs H Q => ∃ (p : Addr) (ys : List V) (y : V) (f : Nat → Bool), x = .ref p ∧ xs = [y] ∧ H p = some (.lst ys) ∧ ItsB D ys y f H ∧ ∀ H', Ext H H' → Q (.int (cntF ys.length f : Nat)) H'
theorem mt_countB (hD : MonB D) (h : EqB X n D) (hr : Room (n + 1) X.A) : MtR X "list.count" (rCountB D) := by
  intro pins s σ H x xs v us Q I rx rxs hq
  obtain ⟨p, ys, y, f, rfl, rfl, hp, pr, q⟩ := hq
  cases rx
  cases rxs with
  | cons ry rt =>
    rename_i u ut
    cases rt
    obtain ⟨as, m, r, e, z1⟩ := lookI hp s ⟨H, I, Ext.rfl'⟩
    refine GQ.call_here PySem.F.slot_list_count ⟨_, e, rfl⟩ PySem.F.entry_list_count (PySem.F.args_list_count_2 _ _) ?_
    refine countB (R := wants (EP X pins σ Q) X.xe) p u ys.length (fun i c s' => LoopI X pins σ H s' ∧ c = cntF i f) (fun i c s' z => ?_) (fun c s' z => ?_) ⟨⟨H, I, Ext.rfl'⟩, rfl⟩
    · obtain ⟨z, rfl⟩ := z
      obtain ⟨as, k, r, e, z1⟩ := lookI hp s' z
      refine ⟨_, k, e, z1, fun g1 => wpAny_mono (turnI hD h ⟨hr, rfl⟩ pr r ry i g1 s' z) (fun r s2 q2 => ?_) fun _ _ x => x⟩
      obtain ⟨rfl, q2⟩ := q2
      exact ⟨q2, cntF_succ.symm⟩
    · obtain ⟨⟨H', I', ex⟩, rfl⟩ := z
      exact ⟨.int _, H', I'.tok _, ⟨_, rfl⟩, q H' ex⟩
/-- l.index(x) by own ==, where it is found -/
def rIndexB (D : BEq2) : V → List V → Hp → VK → Prop := fun x xs H Q => ∃ (p : Addr) (ys : List V) (y : V) (f : Nat → Bool) (j : Nat), x = .ref p ∧ xs = [y] ∧ H p = some (.lst ys) ∧ ItsB D ys y f H ∧ j < ys.length ∧ f j = true ∧ (∀ m, m < j → f m = false) ∧ ∀ H', Ext H H' → Q (.int (j : Nat)) H'
theorem mt_indexB (hD : MonB D) (h : EqB X n D) (hr : Room (n + 1) X.A) : MtR X "list.index" (rIndexB D) := by
  intro pins s σ H x xs v us Q I rx rxs hq
  obtain ⟨p, ys, y, f, j, rfl, rfl, hp, pr, hj, ej, nj, q⟩ := hq
  cases rx
  cases rxs with
  | cons ry rt =>
    rename_i u ut
    cases rt
    obtain ⟨hz, its, k, r, e⟩ := I.hok p _ hp
    have hsl := sizeLine_eq
    refine GQ.call_here PySem.F.slot_list_index ⟨_, e, rfl⟩ PySem.F.entry_list_index (PySem.F.args_list_index_2 _ _) ?_
    refine indexB (R := wants (EP X pins σ Q) X.xe) p u ys.length (by omega) (fun i c s' => LoopI X pins σ H s' ∧ i ≤ j) (fun i c s' z => ?_) (fun c s' z => by omega) ⟨⟨H, I, Ext.rfl'⟩, Nat.zero_le _⟩
    obtain ⟨z, hi⟩ := z
    obtain ⟨as, k, r, e, z1⟩ := lookI hp s' z
    refine ⟨_, k, e, z1, fun g1 => wpAny_mono (turnI hD h ⟨hr, rfl⟩ pr r ry i g1 s' z) (fun r s2 q2 => ?_) fun _ _ x => x⟩
    obtain ⟨rfl, q2⟩ := q2
    refine ⟨fun t => ⟨q2, ?_⟩, fun t => ?_⟩
    · have : i ≠ j := fun e => by rw [e, ej] at t; cases t
      omega
    · have ij : i = j := by
        by_cases hlt : i < j
        · rw [nj i hlt] at t; cases t
        · omega
      subst ij
      obtain ⟨H', I', ex⟩ := q2
      exact ⟨.int _, H', I'.tok _, ⟨_, rfl⟩, q H' ex⟩
end
end KA
namespace KA
open PySem PySem.Spec PySem.W PyProof.Rows
open AutoSeq1 (wpAny_loadPart')
section
variable {prog : Program} {w : World} {A : Around} {E : Value → Shared → Prop} {s : Shared} {K : Frag} {x C f dx : Addr} {od : Option Obj}
/-- a plain thing whose own == knows nothing of x, an instance whose class has its own == : that one is asked -/
theorem cmp_flip {T id : String} {u : Value} {Q : Value → Shared → Prop} (hu : A.units < cLine) (X : K.In s.heap) (I : InstAt s.heap x (instObj C dx) C od) (hT : s.TypeIs u T) (slot : Slot T (cmpInfo .Eq).2.1 id) (hone : oneThing? .Eq u (.ref x) = none)
    (hn : subIn K (.ref C) (.type T) = some false) (two0 : ∀ {Q : Value → Shared → Prop}, Q .notImplemented s → wpAny (model prog w) A (call (.builtin id) [u, .ref x]) Q E s)
    (hs : findIn K (.ref C) "__eq__" = some (some (.ref f))) (hf : isFn K (.ref f) = true)
    (h : wpAny (model prog w) A (call (.ref f) [.ref x, u]) (PySem.W.CmpBack Q) E s) : wpAny (model prog w) A (richCompare .Eq u (.ref x)) Q E s := by
  have one : wpAny (model prog w) A (tryCompare (.ref x) "__eq__" u) (fun r s' => ∃ v, r = some v ∧ Q v s') E s := by
    unfold tryCompare
    refine wpAny_bind (ifBound_K X I hs hf (wpAny_mono h (fun v s' hv => ?_) fun _ _ e => e))
    cases v <;> first | exact hv.elim | exact wpAny_pure ⟨_, rfl, hv⟩
  have two : wpAny (model prog w) A (tryCompare u "__eq__" (.ref x)) (fun r s' => r = none ∧ s' = s) E s := by
    unfold tryCompare
    refine wpAny_bind (wpAny_callSpecialIfBound?_slot (name := (cmpInfo .Eq).2.1) hT slot (two0 ?_))
    exact wpAny_pure ⟨rfl, rfl⟩
  unfold richCompare
  refine wpAny_holding (wpAny_bind (wpAny_cRoomFor hu ?_))
  rw [hone]
  refine wpAny_bind (wpAny_typeOf hT (wpAny_bind (I.type.here ?_)))
  refine PySem.W.KFB.if_so rfl (wpAny_bind ((looks_subIn X hn).here ?_))
  refine PySem.W.KFB.if_not rfl ?_
  refine wpAny_bind (wpAny_mono two (fun r s' z => ?_) fun _ _ e => e)
  obtain ⟨rfl, rfl⟩ := z
  refine PySem.W.KFB.if_so rfl (wpAny_bind (wpAny_mono one (fun r s' z => ?_) fun _ _ e => e))
  obtain ⟨v, rfl, hq⟩ := z
  exact wpAny_pure hq
theorem int_eq_own {i : Int} {t : Tok} {Q : Value → Shared → Prop} (hx : s.heap.get? x = some (instObj C dx)) (h : Q .notImplemented s) : wpAny (model prog w) A (call (.builtin "int.__eq__") [.int i t, .ref x]) Q E s := by
  refine wpAny_call_entry PySem.F.slot_int_eq (typeIs_int s i t) PySem.F.entry_int_eq ?_ (PySem.F.args_int_eq_2 _ _)
  unfold Builtin.«int.__eq__»
  obtain ⟨hh, gg, dd, kk, oo⟩ := s
  wp_walk using wpAny_load' hx
  exact ⟨_, rfl, h⟩
theorem bool_eq_own {b : Bool} {Q : Value → Shared → Prop} (hx : s.heap.get? x = some (instObj C dx)) (h : Q .notImplemented s) : wpAny (model prog w) A (call (.builtin "int.__eq__") [.bool b, .ref x]) Q E s := by
  refine wpAny_call_entry PySem.F.slot_bool_eq (PySem.typeIs_bool s b) PySem.F.entry_int_eq ?_ (PySem.F.args_int_eq_2 _ _)
  unfold Builtin.«int.__eq__»
  obtain ⟨hh, gg, dd, kk, oo⟩ := s
  wp_walk using wpAny_load' hx
  exact ⟨_, rfl, h⟩
theorem str_eq_own {z : Str} {t : Tok} {Q : Value → Shared → Prop} (hx : s.heap.get? x = some (instObj C dx)) (h : Q .notImplemented s) : wpAny (model prog w) A (call (.builtin "str.__eq__") [.str z t, .ref x]) Q E s := by
  refine wpAny_call_entry PySem.F.slot_str_eq (typeIs_str s z t) PySem.F.entry_str_eq ?_ (PySem.F.args_str_eq_2 _ _)
  unfold Builtin.«str.__eq__»
  obtain ⟨hh, gg, dd, kk, oo⟩ := s
  wp_walk using wpAny_load' hx
  exact ⟨_, rfl, h⟩
theorem list_eq_own {p : Addr} {Q : Value → Shared → Prop} (X : K.In s.heap) (I : InstAt s.heap x (instObj C dx) C od) (hn : subIn K (.ref C) (.type "list") = some false) (hT : s.TypeIs (.ref p) "list") (h : Q .notImplemented s) : wpAny (model prog w) A (call (.builtin "list.__eq__") [.ref p, .ref x]) Q E s := by
  refine wpAny_call_entry PySem.F.slot_list_eq hT PySem.F.entry_list_eq ?_ (PySem.F.args_list_eq_2 _ _)
  have L : Looks (model prog w) s.heap (isInstance (.ref x) (.type "list")) false := I.type.andThen (looks_subIn X hn)
  unfold Builtin.«list.__eq__»
  obtain ⟨hh, gg, dd, kk, oo⟩ := s
  wp_walk using L.here
  exact ⟨_, rfl, h⟩
theorem tup_eq_own {p : Addr} {Q : Value → Shared → Prop} (X : K.In s.heap) (I : InstAt s.heap x (instObj C dx) C od) (hn : subIn K (.ref C) (.type "tuple") = some false) (hT : s.TypeIs (.ref p) "tuple") (h : Q .notImplemented s) : wpAny (model prog w) A (call (.builtin "tuple.__eq__") [.ref p, .ref x]) Q E s := by
  refine wpAny_call_entry PySem.F.slot_tuple_eq hT PySem.F.entry_tuple_eq ?_ (PySem.F.args_tuple_eq_2 _ _)
  have L : Looks (model prog w) s.heap (isInstance (.ref x) (.type "tuple")) false := I.type.andThen (looks_subIn X hn)
  unfold Builtin.«tuple.__eq__»
  obtain ⟨hh, gg, dd, kk, oo⟩ := s
  wp_walk using L.here
  exact ⟨_, rfl, h⟩
end
end KA
namespace KA
open PySem PySem.Spec PySem.W PyProof.Rows
section
variable {prog : Program} {w : World} {A : Around} {E : Value → Shared → Prop} {s : Shared} {K : Frag} {x C f dx : Addr} {ox : Obj} {od : Option Obj} {b tb : Value}
theorem ifBound_objNe {M : Model} {args : List Value} {Q : Option Value → Shared → Prop} (X : K.In s.heap) (I : InstAt s.heap x ox C od) (hs : findIn K (.ref C) "__ne__" = some (some (.builtin "object.__ne__")))
    (h : wpAny M A (call (.builtin "object.__ne__") (.ref x :: args)) (fun v => Q (some v)) E s) : wpAny M A (callSpecialIfBound? (.ref x) "__ne__" args) Q E s := by
  simp only [callSpecialIfBound?, bindSpecialIfBound?]
  refine wpAny_holding (wpAny_bind (wpAny_bind (wpAny_bind (I.type.here ((looks_findIn X hs).here ?_)))))
  refine wpAny_bind (wpAny_askSetting (wpAny_ite ?_))
  have fin : wpAny M A (call (.builtin "object.__ne__") ([.ref x] ++ args) >>= fun v => pure (some v)) Q E s := wpAny_bind (wpAny_mono h (fun v s' h' => wpAny_pure h') fun _ _ h' => h')
  split
  · exact wpAny_bind (wpAny_of_eq (F.cmp_object.ne.bind _) (wpAny_pure (by exact fin)))
  · exact wpAny_tryCatch (wpAny_bind (wpAny_of_eq (F.cmp_object.ne.bind _) (wpAny_pure (by exact fin))))
theorem entry_objNe {Q : Fin → Shared → Prop} (hu : A.units < cLine) (X : K.In s.heap) (I : InstAt s.heap x ox C od) (hs : findIn K (.ref C) "__eq__" = some (some (.ref f))) (hf : isFn K (.ref f) = true)
    (h : wpAny (model prog w) A (call (.ref f) [.ref x, b]) (fun r s' => ∃ v, r = .bool v ∧ Q (.done (.ret (.bool (!v)))) s') E s) : wpAny (model prog w) A (Builtin.«object.__ne__» ⟨[.ref x, b], []⟩) Q E s := by
  unfold Builtin.«object.__ne__»
  repeat (first
    | with_reducible refine wpAny_cRoomFor hu ?_
    | (refine wpAny_bind (m := callSpecialIfBound? (.ref x) (Str.ofString "__eq__") [b])
        (ifBound_K X I hs hf (wpAny_mono h (fun r s' hr => by
          obtain ⟨v, rfl, hq⟩ := hr
          repeat (first | exact hq | exact wpAny_pure hq | exact wpAny_truthy_bool hq | (refine wpAny_bind (m := truthy (.bool _)) (wpAny_truthy_bool ?_)) | wp_step)) fun _ _ e => e)))
    | wp_step)
theorem ne_own {Q : Value → Shared → Prop} (hu : A.units < cLine) (hu1 : A.in1.units < cLine) (X : K.In s.heap) (I : InstAt s.heap x ox C od) (hb : Looks (model prog w) s.heap (typeOf b) tb) (hn : notFirst K C tb = true) (hm : mroIn K C (.type "object") = some true)
    (hne : findIn K (.ref C) "__ne__" = some (some (.builtin "object.__ne__"))) (hs : findIn K (.ref C) "__eq__" = some (some (.ref f))) (hf : isFn K (.ref f) = true)
    (h : wpAny (model prog w) A.in1 (call (.ref f) [.ref x, b]) (fun r s' => ∃ v, r = .bool v ∧ Q (.bool (!v)) s') E s) : wpAny (model prog w) A (richCompare .NotEq (.ref x) b) Q E s := by
  have one : wpAny (model prog w) A (tryCompare (.ref x) "__ne__" b) (fun r s' => ∃ v, r = some v ∧ Q v s') E s := by
    unfold tryCompare
    refine wpAny_bind (ifBound_objNe X I hne (wpAny_call (codeAny_call_builtin F.cmp_object.ne.plain F.cmpEntry_ne (check_slot F.cmpKind_ne F.cmpSplit_ne (I.type.andThen (looks_mroIn X hm)) (F.cmpArgs_ne _ _) (entry_objNe hu1 X I hs hf (wpAny_mono h (fun r s' hr => ?_) fun _ _ e => e))))))
    obtain ⟨v, rfl, hq⟩ := hr
    first
      | exact ⟨v, rfl, wpAny_pure ⟨_, rfl, hq⟩⟩
      | exact ⟨v, rfl, ⟨_, rfl, hq⟩⟩
  unfold richCompare
  simp only [oneThing_ref]
  refine wpAny_holding (wpAny_bind (wpAny_cRoomFor hu ?_))
  refine wpAny_bind (I.type.here (wpAny_bind (hb.here ?_)))
  split
  · rename_i q
    have e : subIn K tb (.ref C) = some false := by
      rcases Bool.or_eq_true_iff.mp hn with e | e
      · rw [beq_iff_eq.mp e] at q; simp at q
      · exact beq_iff_eq.mp e
    refine wpAny_bind ((looks_subIn X e).here ?_)
    simp only [Bool.false_eq_true, if_false]
    refine wpAny_bind (wpAny_mono one (fun r s' z => ?_) fun _ _ e => e)
    obtain ⟨v, rfl, hq⟩ := z
    exact wpAny_pure hq
  · refine wpAny_bind (wpAny_pure ?_)
    simp only [Bool.false_eq_true, if_false]
    refine wpAny_bind (wpAny_mono one (fun r s' z => ?_) fun _ _ e => e)
    obtain ⟨v, rfl, hq⟩ := z
    exact wpAny_pure hq
end
end KA
namespace KA
open PySem PySem.Spec PyProof.Rows L2
section
variable {X : Cx} {n : Nat} {CX : CXT} {C f : Addr} {fd : FuncData} {ps : List Str} {R : Addr → V → Bool → Hp → Prop} {E : XK}
/-- an instance of the class at C beside anything -/
def BOwn1 (K : PySem.W.Frag) (C : Addr) (R : Addr → V → Bool → Hp → Prop) : BEq2 := fun x y b H =>
  ∃ (a dx : Addr) (fs : List (Str × V)) (t : Value), x = .ref a ∧ H a = some (.ins C dx fs) ∧ TyX K H y t ∧ PySem.W.notFirst K C t = true ∧ R a y b H
theorem rcB_ownNe (F : FnOk X.prog X.w X.K X.mg X.base CX n f fd ps (spEqO R)) (hs : PySem.W.findIn X.K (.ref C) "__eq__" = some (some (.ref f))) (hf : PySem.W.isFn X.K (.ref f) = true) (hb : Binds X.K fd ps []) (hx : Passes CX X E)
    (hm : PySem.W.mroIn X.K C (.type "object") = some true) (hne : PySem.W.findIn X.K (.ref C) "__ne__" = some (some (.builtin "object.__ne__"))) : RcB X (n + 1) true (BOwn1 X.K C R) := by
  intro A pins s σ H x y u v b sb I rx ry d
  obtain ⟨a, dx, fs, t, rfl, ha, ty, nf, hR⟩ := d
  cases rx
  obtain ⟨mA, J, _⟩ := ins_get I.hok ha
  obtain ⟨od, J, _⟩ := J.look
  obtain ⟨Pz, Z, p, _⟩ := kit_of I ry ty
  refine ne_own (tb := t) sb.room.units0 sb.in1.room.units0 I.kIn J (Z.ty _ _ I.kIn p) nf hm hne hs hf (wpAny_mono (run_eqO F hb hx sb.in1 I ry hR) (fun r s' q => ?_) fun _ _ x => x)
  cases r with
  | bool z =>
    obtain ⟨e, q2⟩ := (show (Value.bool z = .bool b ∧ ∃ H', L2.Inv X pins σ H' s' ∧ Ext H H') from q)
    cases e
    exact ⟨b, rfl, by rw [Bool.true_xor], q2⟩
  | notImplemented => exact q.elim
  | _ => exact nomatch q.1
/-- a plain thing beside an instance: the instance is asked -/
def BFlip (K : PySem.W.Frag) (C : Addr) (R : Addr → V → Bool → Hp → Prop) : BEq2 := fun x y b H => ∃ (a dx : Addr) (fs : List (Str × V)), y = .ref a ∧ H a = some (.ins C dx fs) ∧ R a x b H ∧
  ((∃ i, x = .int i) ∨ (∃ z, x = .str z) ∨ (∃ c, x = .bl c) ∨ x = .non ∨ (∃ p xs, x = .ref p ∧ H p = some (.lst xs)) ∨ ∃ p xs, x = .ref p ∧ H p = some (.tup xs))
theorem rcB_flip (F : FnOk X.prog X.w X.K X.mg X.base CX n f fd ps (spEqO R)) (hs : PySem.W.findIn X.K (.ref C) "__eq__" = some (some (.ref f))) (hf : PySem.W.isFn X.K (.ref f) = true) (hb : Binds X.K fd ps []) (hx : Passes CX X E)
    (hn : ∀ t, t ∈ ["int", "str", "bool", "NoneType", "list", "tuple"] → PySem.W.subIn X.K (.ref C) (.type t) = some false) : RcB X n false (BFlip X.K C R) := by
  intro A pins s σ H x y u v b sb I rx ry d
  have fin : (false ^^ b) = b := Bool.false_xor b
  rw [fin]
  obtain ⟨a, dx, fs, rfl, ha, hR, hk⟩ := d
  cases ry
  obtain ⟨mA, J, _⟩ := ins_get I.hok ha
  obtain ⟨od, J, _⟩ := J.look
  have go : wpAny (model X.prog X.w) A (call (.ref f) [.ref a, u]) (PySem.W.CmpBack fun r s' => r = .bool b ∧ ∃ H', L2.Inv X pins σ H' s' ∧ Ext H H') X.xe s := run_eqO F hb hx sb I rx hR
  rcases hk with ⟨i, rfl⟩ | ⟨z, rfl⟩ | ⟨c, rfl⟩ | rfl | ⟨p, xs, rfl, hp⟩ | ⟨p, xs, rfl, hp⟩
  · obtain ⟨t, rfl⟩ := rx
    exact cmp_flip sb.room.units0 I.kIn J (PySem.typeIs_int s i t) PySem.F.slot_int_eq rfl (hn _ (by simp)) (fun h => int_eq_own J.at_ h) hs hf go
  · obtain ⟨t, rfl⟩ := rx
    exact cmp_flip sb.room.units0 I.kIn J (PySem.typeIs_str s z t) PySem.F.slot_str_eq rfl (hn _ (by simp)) (fun h => str_eq_own J.at_ h) hs hf go
  · cases rx
    exact cmp_flip sb.room.units0 I.kIn J (PySem.typeIs_bool s c) PySem.F.slot_bool_eq rfl (hn _ (by simp)) (fun h => bool_eq_own J.at_ h) hs hf go
  · cases rx
    exact cmp_none sb.room.units0 I.kIn J (hn _ (by simp)) hs hf go
  · cases rx
    obtain ⟨_, its, k, r, e⟩ := I.hok p _ hp
    exact cmp_flip sb.room.units0 I.kIn J (T := "list") ⟨_, e, rfl⟩ PySem.F.slot_list_eq rfl (hn _ (by simp)) (fun h => list_eq_own I.kIn J (hn _ (by simp)) ⟨_, e, rfl⟩ h) hs hf go
  · cases rx
    obtain ⟨its, r, ⟨o, e, ho⟩, hz⟩ := I.tuple (SqT.of hp)
    exact cmp_flip sb.room.units0 I.kIn J (T := "tuple") ⟨_, e, ho.1⟩ PySem.F.slot_tuple_eq rfl (hn _ (by simp)) (fun h => tup_eq_own I.kIn J (hn _ (by simp)) ⟨_, e, ho.1⟩ h) hs hf go
theorem RcB.or {ne : Bool} {D D' : BEq2} (h : RcB X n ne D) (h' : RcB X n ne D') : RcB X n ne (fun x y b H => D x y b H ∨ D' x y b H) := fun A pins s σ H x y u v b sb I rx ry d => d.elim (fun d => h A pins s σ H x y u v b sb I rx ry d) (fun d => h' A pins s σ H x y u v b sb I rx ry d)
end
end KA
namespace KA
open PySem PySem.Spec PyProof.Rows L2
section
variable {X : Cx} {n : Nat}
/-- x in (a, b, ..), items data of any depth -/
def rInTD (K : PySem.W.Frag) : R2 := fun x y H Q => ∃ d ds, Dp K H x d ∧ Dp K H y (.tuple ds) ∧ SeqAt.shaped d = true ∧ SeqAt.shaped (.tuple ds) = true ∧ Q (.bl (ds.any fun z => PyData.eqv z d)) H
theorem op_inTD (hu : X.A.units + 65 < cLine) : OpR X (compareOp .In) (rInTD X.K) := by
  intro pins s σ H x y v u Q I rx ry h
  obtain ⟨d, ds, hd, he, sd, se, q⟩ := h
  obtain ⟨as, r1⟩ := Dp.reads I d x v hd rx
  obtain ⟨bs, r2⟩ := Dp.reads I (.tuple ds) y u he ry
  exact SeqAt.in_tuple_reads r2 r1 (SeqAt.canLay_of_shaped se) (SeqAt.canLay_of_shaped sd) (room_in_shaped sd hu) ⟨.bl _, H, I, rfl, q⟩
theorem eqBool_by2 {prog : Program} {w : World} {A : Around} {E : Value → Shared → Prop} {s : Shared} {u v : Value} {Q : Bool → Shared → Prop} (hu : ∃ a, v = .ref a) (hne : (u == v) = false)
    (h : wpAny (model prog w) A (richCompare .Eq u v) (fun r s' => ∃ b, r = .bool b ∧ Q b s') E s) : wpAny (model prog w) A (eqBool u v) Q E s := by
  unfold eqBool
  refine wpAny_holding ?_
  refine wpAny_ite_split (fun hab => by rw [hne] at hab; cases hab) (fun _ => ?_)
  obtain ⟨a, rfl⟩ := hu
  cases u <;> (refine wpAny_bind (wpAny_mono h (fun r s' hv => ?_) fun _ _ x => x); obtain ⟨b, rfl, q⟩ := hv; exact wpAny_truthy_bool q)
variable {CX : CXT} {C f : Addr} {fd : FuncData} {ps : List Str} {R : Addr → V → Bool → Hp → Prop} {E : XK}
/-- a plain thing beside an instance, as == in a list asks it -/
theorem eqB_flip (F : FnOk X.prog X.w X.K X.mg X.base CX n f fd ps (spEqO R)) (hs : PySem.W.findIn X.K (.ref C) "__eq__" = some (some (.ref f))) (hf : PySem.W.isFn X.K (.ref f) = true) (hb : Binds X.K fd ps []) (hx : Passes CX X E)
    (hn : ∀ t, t ∈ ["int", "str", "bool", "NoneType", "list", "tuple"] → PySem.W.subIn X.K (.ref C) (.type t) = some false) : EqB X n (BFlip X.K C R) := by
  intro A pins s σ H x y u v b sb I rx ry d
  have hne : (u == v) = false := by
    obtain ⟨a, dx, fs, rfl, ha, hR, hk⟩ := d
    cases ry
    rw [beq_eq_false_iff_ne]
    rcases hk with ⟨i, rfl⟩ | ⟨z, rfl⟩ | ⟨c, rfl⟩ | rfl | ⟨p, xs, rfl, hp⟩ | ⟨p, xs, rfl, hp⟩
    · obtain ⟨t, rfl⟩ := rx
      exact fun z => by cases z
    · obtain ⟨t, rfl⟩ := rx
      exact fun z => by cases z
    · cases rx
      exact fun z => by cases z
    · cases rx
      exact fun z => by cases z
    · cases rx
      exact fun z => by
        cases z
        rw [ha] at hp
        cases hp
    · cases rx
      exact fun z => by
        cases z
        rw [ha] at hp
        cases hp
  have hv : ∃ a, v = .ref a := by
    obtain ⟨a, dx, fs, rfl, _⟩ := d
    cases ry
    exact ⟨a, rfl⟩
  refine eqBool_by2 hv hne (wpAny_mono (rcB_flip F hs hf hb hx hn A pins s σ H x y u v b sb I rx ry d) (fun r s' q => ?_) fun _ _ x => x)
  obtain ⟨hr, q⟩ := q
  exact ⟨b, by rw [hr, Bool.false_xor], rfl, q⟩
theorem monB_flip {K : PySem.W.Frag} (hR : ∀ a y b H H', Ext H H' → R a y b H → R a y b H') : MonB (BFlip K C R) := fun x y b H H' e d => by
  obtain ⟨a, dx, fs, hy, ha, r, hk⟩ := d
  refine ⟨a, dx, fs, hy, e _ _ ha, hR _ _ _ _ _ e r, ?_⟩
  rcases hk with h | h | h | h | ⟨p, xs, h, hp⟩ | ⟨p, xs, h, hp⟩
  · exact .inl h
  · exact .inr (.inl h)
  · exact .inr (.inr (.inl h))
  · exact .inr (.inr (.inr (.inl h)))
  · exact .inr (.inr (.inr (.inr (.inl ⟨p, xs, h, e _ _ hp⟩))))
  · exact .inr (.inr (.inr (.inr (.inr ⟨p, xs, h, e _ _ hp⟩))))
end
end KA
namespace KA
open PySem PySem.Spec PyProof.Rows L2
/-- a comprehension over a list that leaves places out; what it asks may make new things -/
theorem lc_someX {K : PySem.W.Frag} {a : Addr} {xs : List V} {H : Hp} {D : Addr} (hD : H D = none) (hS : SqL K H a xs) (hl : xs.length ≤ 10000) (p : Nat → Bool) (f : Nat → V)
    {g : TG} {tt : TT} {te : TE} {vs : List Nat} {σ : L2.St} {Qd : Hp → Prop}
    (turn : ∀ (i : Nat) (x : V) (H2 : Hp) (R : V → Hp → Prop) (C : Hp → Prop), xs[i]? = some x → Same H H2 → (p i = true → ∀ H3, Same H2 H3 → R (f i) H3) → (p i = false → ∀ H3, Same H2 H3 → C H3) → g x (wipe σ vs) H2 fun σ2 H2 => wipe σ2 vs = wipe σ vs ∧ tt σ2 H2 fun b H3 => if b = true then te σ2 H3 R else C H3)
    (fin : ∀ H', Same H H' → H' D = some (.lst (((List.range xs.length).filter p).map f)) → Qd H') :
    ∃ W : Nat → Nat → Hp → Prop, (∃ m, W 0 m (upd H D (.lst []))) ∧ ∀ i m H, W i m H →
      ((Itl K a).stop i H ∧ Qd H) ∨ ((Itl K a).go i H ∧ ∃ Nx : Hp → Prop, (∀ H', Nx H' → ∃ m', m' < m ∧ W (i + 1) m' H') ∧ ∀ x H', (Itl K a).yld i H x H' → g x (wipe σ vs) H' fun σ2 H2 => wipe σ2 vs = wipe σ vs ∧ tt σ2 H2 fun b H3 =>
        if b = true then te σ2 H3 fun y H4 => ∃ acc, H4 D = some (.lst acc) ∧ acc.length < sizeLine ∧ Nx (upd H4 D (.lst (acc ++ [y]))) else Nx H3) := by
  refine lc_list (K := K) (a := a) (xs := xs) (fun i H' => Same H H' ∧ H' D = some (.lst (((List.range i).filter p).map f))) ⟨same_upd hD, upd_same⟩ (fun i H' _ h => h.1.seq hS) ?_ ?_
  · rintro i x H2 hi ⟨s2, e2⟩
    have hil : i < xs.length := (List.getElem?_eq_some_iff.mp hi).1
    refine turn i x H2 _ _ hi s2 (fun hp H3 s3 => ?_) (fun hp H3 s3 => ?_)
    · refine ⟨_, s3 _ _ e2, ?_, fun b o h => ?_, ?_⟩
      · rw [List.length_map]
        refine Nat.lt_of_le_of_lt (List.length_filter_le _ _) ?_
        rw [List.length_range]
        exact Nat.lt_of_lt_of_le (show i < 10000 by omega) (by decide)
      · rw [upd_ne (ne_of_none h hD)]
        exact s3 _ _ (s2 _ _ h)
      · rw [upd_same, List.range_succ, List.filter_append, List.map_append, List.filter_cons_of_pos hp]
        rfl
    · refine ⟨s2.trans s3, ?_⟩
      rw [s3 _ _ e2, List.range_succ, List.filter_append, List.map_append, List.filter_cons_of_neg (by rw [hp]; exact Bool.false_ne_true)]
      show _ = some (HO.lst (_ ++ []))
      rw [List.append_nil]
  · rintro H' ⟨s, e⟩
    exact fin H' s e
theorem lc_someR {n : Nat} {H : Hp} {D : Addr} (hD : H D = none) (hl : n ≤ 10000) (p : Nat → Bool) (f : Nat → V)
    {g : TG} {tt : TT} {te : TE} {vs : List Nat} {σ : L2.St} {Qd : Hp → Prop}
    (turn : ∀ (i : Nat) (H2 : Hp) (R : V → Hp → Prop) (C : Hp → Prop), i < n → Same H H2 → (p i = true → ∀ H3, Same H2 H3 → R (f i) H3) → (p i = false → ∀ H3, Same H2 H3 → C H3) → g (.int (0 + i)) (wipe σ vs) H2 fun σ2 H2 => wipe σ2 vs = wipe σ vs ∧ tt σ2 H2 fun b H3 => if b = true then te σ2 H3 R else C H3)
    (fin : ∀ H', Same H H' → H' D = some (.lst (((List.range n).filter p).map f)) → Qd H') :
    ∃ W : Nat → Nat → Hp → Prop, (∃ m, W 0 m (upd H D (.lst []))) ∧ ∀ i m H, W i m H →
      ((Itr 0 n).stop i H ∧ Qd H) ∨ ((Itr 0 n).go i H ∧ ∃ Nx : Hp → Prop, (∀ H', Nx H' → ∃ m', m' < m ∧ W (i + 1) m' H') ∧ ∀ x H', (Itr 0 n).yld i H x H' → g x (wipe σ vs) H' fun σ2 H2 => wipe σ2 vs = wipe σ vs ∧ tt σ2 H2 fun b H3 =>
        if b = true then te σ2 H3 fun y H4 => ∃ acc, H4 D = some (.lst acc) ∧ acc.length < sizeLine ∧ Nx (upd H4 D (.lst (acc ++ [y]))) else Nx H3) := by
  refine lc_range (lo := 0) (n := n) (fun i H' => Same H H' ∧ H' D = some (.lst (((List.range i).filter p).map f))) ⟨same_upd hD, upd_same⟩ ?_ ?_
  · rintro i H2 hil ⟨s2, e2⟩
    refine turn i H2 _ _ hil s2 (fun hp H3 s3 => ?_) (fun hp H3 s3 => ?_)
    · refine ⟨_, s3 _ _ e2, ?_, fun b o h => ?_, ?_⟩
      · rw [List.length_map]
        refine Nat.lt_of_le_of_lt (List.length_filter_le _ _) ?_
        rw [List.length_range]
        exact Nat.lt_of_lt_of_le (show i < 10000 by omega) (by decide)
      · rw [upd_ne (ne_of_none h hD)]
        exact s3 _ _ (s2 _ _ h)
      · rw [upd_same, List.range_succ, List.filter_append, List.map_append, List.filter_cons_of_pos hp]
        rfl
    · refine ⟨s2.trans s3, ?_⟩
      rw [s3 _ _ e2, List.range_succ, List.filter_append, List.map_append, List.filter_cons_of_neg (by rw [hp]; exact Bool.false_ne_true)]
      show _ = some (HO.lst (_ ++ []))
      rw [List.append_nil]
  · rintro H' ⟨s, e⟩
    exact fin H' s e
end KA
namespace KA
open PySem PySem.Spec PyProof.Rows L2 NumText TL
theorem fold_app (a b : List Nat) (s : Nat) : (a ++ b).foldl (fun acc c => acc * 10 + (c - 48)) s = (b.foldl (fun acc c => acc * 10 + (c - 48)) (a.foldl (fun acc c => acc * 10 + (c - 48)) s)) := List.foldl_append
theorem fold_from : ∀ (b : List Nat) (s : Nat), b.foldl (fun acc c => acc * 10 + (c - 48)) s = s * 10 ^ b.length + digitsVal b
  | [], s => by simp [digitsVal]
  | c :: r, s => by
    have h1 := fold_from r (s * 10 + (c - 48))
    have h2 := fold_from r (0 * 10 + (c - 48))
    show r.foldl _ (s * 10 + (c - 48)) = s * 10 ^ (r.length + 1) + r.foldl _ (0 * 10 + (c - 48))
    rw [h1, h2, Nat.pow_succ, Nat.zero_mul, Nat.zero_add, Nat.add_mul, Nat.mul_assoc, Nat.mul_comm 10, Nat.add_assoc]
theorem val_app (a b : List Nat) : digitsVal (a ++ b) = digitsVal a * 10 ^ b.length + digitsVal b := by
  unfold digitsVal
  rw [fold_app, fold_from]
  rfl
theorem val_noughts (k : Nat) (b : List Nat) : digitsVal (List.replicate k 48 ++ b) = digitsVal b := by
  induction k with
  | zero => rfl
  | succ k ih =>
    show digitsVal (48 :: (List.replicate k 48 ++ b)) = _
    rw [val_zero, ih]
/-- a group of k figures, noughts ahead -/
def grp (k g : Nat) : List Nat := List.replicate (k - (numL g).length) 48 ++ numL g
theorem grp_len {k g : Nat} (hk : 0 < k) (h : g < 10 ^ k) : (grp k g).length = k := by
  unfold grp
  have := numL_len hk h
  rw [List.length_append, List.length_replicate]
  omega
theorem grp_digits (k g : Nat) : AllDigits (grp k g) := fun c hc => by
  rcases List.mem_append.mp hc with h | h
  · have := List.eq_of_mem_replicate h
    omega
  · exact numL_digits g c h
theorem numL_head {q : Nat} (h : 0 < q) : ∃ c cs, numL q = c :: cs ∧ c ≠ 48 := by
  cases e : numL q with
  | nil => exact absurd e (numL_ne q)
  | cons c cs =>
    refine ⟨c, cs, rfl, fun z => ?_⟩
    subst z
    have v := numL_val q
    have d := numL_digits q
    rw [e] at v d
    have l := (len_canon d).mp (by rw [v, e])
    have hcs : cs = [] := by
      cases cs with
      | nil => rfl
      | cons x r => exact absurd ⟨rfl, by simp⟩ l
    subst hcs
    have : digitsVal [48] = 0 := rfl
    omega
theorem numL_group {k q g : Nat} (hk : 0 < k) (hq : 0 < q) (h : g < 10 ^ k) : numL (q * 10 ^ k + g) = numL q ++ grp k g := by
  obtain ⟨c, cs, e, hc⟩ := numL_head hq
  have v : digitsVal (numL q ++ grp k g) = q * 10 ^ k + g := by
    rw [val_app, numL_val, grp_len hk h]
    unfold grp
    rw [val_noughts, numL_val]
  have ad : AllDigits (numL q ++ grp k g) := fun x hx => by
    rcases List.mem_append.mp hx with h | h
    · exact numL_digits q x h
    · exact grp_digits k g x h
  rw [← v]
  rw [e] at ad ⊢
  exact canon_eq ad fun z => hc z.1
theorem zfill_num {g : Nat} (h : g < 10 ^ 60) : tl (Txt.zfill (Str.ofString (toString ((g : Nat) : Int))) 60) = grp 60 g := by
  have et := tl_num g
  have hl := numL_len (k := 60) (by decide) h
  have ln : (Str.ofString (toString ((g : Nat) : Int))).length = (numL g).length := by rw [len_tl, et]
  generalize Str.ofString (toString ((g : Nat) : Int)) = z at et ln
  unfold Txt.zfill grp
  by_cases h60 : (60 : Int) ≤ (z.length : Int)
  · rw [if_pos h60, et]
    have : 60 - (numL g).length = 0 := by omega
    rw [this]
    rfl
  · rw [if_neg h60]
    have hne := numL_ne g
    have hz : ∃ c, z.cps[0]? = some c ∧ 48 ≤ c := by
      cases e : numL g with
      | nil => exact absurd e hne
      | cons c cs =>
        have d := numL_digits g c (by rw [e]; exact List.mem_cons_self ..)
        refine ⟨c, ?_, by omega⟩
        have : z.cps.toList = c :: cs := by rw [← e]; exact et
        rw [← Array.getElem?_toList, this]
        rfl
    obtain ⟨c, hc, h48⟩ := hz
    have zf : zfilled z ((60 : Int).toNat - z.length) = Builtin.Str.padded z ((60 : Int).toNat - z.length) 0 48 := by
      unfold zfilled
      rw [hc]
      split
      · rename_i h; cases h; omega
      · rename_i h; cases h; omega
      · rfl
    rw [zf, ln]
    show (Array.replicate ((60 : Int).toNat - (numL g).length) 48 ++ z.cps ++ Array.replicate 0 48).toList = _
    have et2 : z.cps.toList = numL g := et
    simp only [Array.toList_append, Array.toList_replicate, et2, List.replicate_zero, List.append_nil]
    rfl
end KA
namespace KA
open PySem PySem.Spec PyProof.Rows L2
section
variable {X : Cx}
/-- a text once, or not at all -/
theorem op_mul01 : OpR X (binaryOp .Mult) (fun x y H Q => ∃ (z : Str) (b : Bool), x = .str z ∧ y = .int (if b then 1 else 0) ∧ z.length ≤ sizeLine ∧ Q (.str (if b then z else Str.empty)) H) := by
  intro pins s σ H x y v u Q I rx ry h
  obtain ⟨z, b, rfl, rfl, hz, q⟩ := h
  obtain ⟨t, rfl⟩ := rx
  obtain ⟨t', rfl⟩ := ry
  cases b with
  | true =>
    refine PySem.P.mul_str (by decide) (fun _ h => by simp at h) (fun _ h => by simp at h) ?_
    rw [if_neg (by decide), if_pos (by simp)]
    exact ⟨.str z, H, I, ⟨_, rfl⟩, q⟩
  | false =>
    refine PySem.P.mul_str (by decide) (fun h _ => absurd (by decide) h) (fun h _ => absurd (by decide) h) ?_
    rw [if_pos (by decide)]
    exact ⟨by decide +kernel, ⟨.str Str.empty, H, I.tok _, ⟨_, rfl⟩, q⟩⟩
end
end KA
namespace KA
open PySem PySem.Spec PyProof.Rows L2
section
variable {X : Cx}
/-- a sign many times, from none on -/
theorem op_mulN : OpR X (binaryOp .Mult) (fun x y H Q => ∃ (z : Str) (k : Int), x = .str z ∧ y = .int k ∧ 0 ≤ k ∧ k ≤ 100000 ∧ (∃ c, z.cps = #[c]) ∧ Q (.str (timesS z k.toNat)) H) := by
  intro pins s σ H x y v u Q I rx ry h
  obtain ⟨z, k, rfl, rfl, h0, h3, hc, q⟩ := h
  by_cases h2 : 2 ≤ k
  · exact op_mulS pins s σ H _ _ v u Q I rx ry ⟨z, k, rfl, rfl, h2, h3, hc, q⟩
  · have hz : z.length = 1 := by
      obtain ⟨c, hc⟩ := hc
      show z.cps.size = 1
      rw [hc]
      rfl
    have hl : z.length ≤ sizeLine := by
      rw [hz]
      decide
    by_cases h1 : k = 1
    · subst h1
      refine op_mul01 pins s σ H _ _ v u Q I rx ry ⟨z, true, rfl, rfl, hl, ?_⟩
      have e : timesS z (1 : Int).toNat = z := by
        obtain ⟨c, hc⟩ := hc
        refine TL.ext_tl ?_
        show (timesS z 1).cps.toList = z.cps.toList
        rw [times_list hc, hc]
        rfl
      rw [e] at q
      exact q
    · have : k = 0 := by omega
      subst this
      exact op_mul01 pins s σ H _ _ v u Q I rx ry ⟨z, false, rfl, rfl, hl, q⟩
end
end KA
/-! repr of a list whose items show themselves by an own __repr__ -/
namespace KA
open PySem PySem.Spec PySem.W PyProof.Rows
section
variable {prog : Program} {w : World} {A : Around} {E : Value → Shared → Prop} {s : Shared} {K : Frag} {x C f : Addr} {ox : Obj} {od : Option Obj}
theorem boundBy_K {M : Model} {name : Str} {last : Value → List Value → Sem Value} {Q : Option Value → Shared → Prop} (inK : K.In s.heap) (I : InstAt s.heap x ox C od) (hs : findIn K (.ref C) name = some (some (.ref f))) (hf : isFn K (.ref f) = true)
    (h : wpAny M A (last (.ref f) [.ref x]) (fun v => Q (some v)) E s) : wpAny M A (callSpecialIfBoundBy? last (.ref x) name) Q E s := by
  simp only [callSpecialIfBoundBy?, bindSpecialIfBound?]
  refine wpAny_holding (wpAny_bind (wpAny_bind (wpAny_bind (I.type.here ((looks_findIn inK hs).here ?_)))))
  refine wpAny_bind (wpAny_askSetting (wpAny_ite ?_))
  have done : wpAny M A (last (.ref f) [.ref x] >>= fun v => pure (some v)) Q E s := wpAny_bind (wpAny_mono h (fun _ _ z => wpAny_pure z) fun _ _ z => z)
  split
  · exact wpAny_bind ((bind_fn inK _ (beq_iff_eq.mp hf)).here (wpAny_pure (by exact done)))
  · exact wpAny_tryCatch (wpAny_bind ((bind_fn inK _ (beq_iff_eq.mp hf)).here (wpAny_pure (by exact done))))
theorem under_K {b : Nat} {Q : Str → Shared → Prop} (hb : b ≤ sizeLine) (hu : A.units < cLine) (inK : K.In s.heap) (I : InstAt s.heap x ox C od) (hs : findIn K (.ref C) "__repr__" = some (some (.ref f))) (hf : isFn K (.ref f) = true)
    (h : wpAny (model prog w) A (call (.ref f) [.ref x]) (fun r t => ∃ m tk, r = .str m tk ∧ Q m t) E s) : wpAny (model prog w) A (pyReprUnder b (.ref x)) Q E s := by
  refine wpAny_pyReprUnder_ref hb ?_
  unfold pyReprObjUnder pyReprObjBy
  refine wpAny_bind (wpAny_cRoomFor hu ?_)
  refine wpAny_bind (wpAny_bind (I.type.here ((looks_findIn inK hs).here ?_)))
  show wpAny _ _ (if (some (Value.ref f)).isNone = true then _ else _) _ _ _
  rw [if_neg (by simp)]
  refine wpAny_bind (m := callSpecialIfBoundBy? _ (.ref x) (Str.ofString "__repr__")) (boundBy_K inK I hs hf ?_)
  refine wpAny_mono h (fun r t k => ?_) fun _ _ z => z
  obtain ⟨m, tk, rfl, q⟩ := k
  refine wpAny_bind (wpAny_isInstance (typeIs_str _ _ _) isSubtype_str_str ?_)
  exact wpAny_pure ⟨_, _, rfl, q⟩
end
end KA
namespace KA
open PySem PySem.Spec PyProof.Rows L2
section
variable {X : Cx} {n : Nat}
/-- x is shown as t, by what stands in H, whatever is made meanwhile -/
def Shows (X : Cx) (n : Nat) (x : V) (t : Str) (H : Hp) : Prop := ∀ (A : Around) (pins : List (Addr × Obj)) (σ : L2.St) (H1 : Hp) (s : Shared) (u : Value) (b : Nat) (Q : Str → Shared → Prop), Sub X n A → (∀ c o, H c = some o → H1 c = some o) → L2.Inv X pins σ H1 s → RelV x u → b + t.length ≤ sizeLine →
  (∀ s2 H2, L2.Inv X pins σ H2 s2 → (∀ c o, H1 c = some o → H2 c = some o) → Q t s2) → wpAny (model X.prog X.w) A (pyReprUnder b u) Q X.xe s
theorem shows_non {H : Hp} : Shows X n .non "None" H := fun A pins σ H1 s u b Q _ _ I ru hz fin => by
  cases (show u = Value.none from ru)
  exact ReprIs.none b hz A X.xe s Q fun tk => fin _ H1 (I.tok tk) fun _ _ z => z
theorem shows_own {CX : CXT} {C f p dx : Addr} {fd : FuncData} {ps : List Str} {sp : Sp} {E : XK} {fs : List (Str × V)} {t : Str} {H : Hp} (F : FnOk X.prog X.w X.K X.mg X.base CX n f fd ps sp) (hs : PySem.W.findIn X.K (.ref C) "__repr__" = some (some (.ref f))) (hf : PySem.W.isFn X.K (.ref f) = true) (hb : Binds X.K fd ps []) (hx : Passes CX X E)
    (hp : H p = some (.ins C dx fs)) (hsp : ∀ (H1 : Hp) (Q : VK), (∀ c o, H c = some o → H1 c = some o) → (∀ H2, (∀ c o, H1 c = some o → H2 c = some o) → Q (.str t) H2) → sp [.ref p] H1 Q E) : Shows X n (.ref p) t H := fun A pins σ H1 s u b Q sb s01 I ru hz fin => by
  cases (show u = Value.ref p from ru)
  obtain ⟨mA, J, _⟩ := ins_get I.hok (s01 _ _ hp)
  obtain ⟨od, J, _⟩ := J.look
  refine under_K (Nat.le_trans (Nat.le_add_right _ _) hz) sb.room.units0 I.kIn J hs hf (wpAny_mono (run_self (Q := fun v H2 => v = .str t ∧ ∀ c o, H1 c = some o → H2 c = some o) F hb hx sb.room sb.fr I (hsp H1 _ s01 fun H2 s12 => ⟨⟨t, rfl⟩, rfl, s12⟩)) (fun r s2 k => ?_) fun _ _ z => z)
  obtain ⟨m, tk, rfl, v, H2, I2, rv, ev, s12⟩ := k
  subst ev
  obtain ⟨tk2, e⟩ := (show ∃ y, Value.str m tk = Value.str t y from rv)
  cases e
  exact ⟨t, tk, rfl, fin s2 H2 I2 s12⟩
theorem sub_loop {A : Around} {args : Args} (sb : Sub X (n + 1) A) : Sub X n (A.under (.builtin "list.__repr__.loop" args)) := by
  have r := sb.room
  refine ⟨⟨?_, ?_, ?_⟩, ?_⟩
  · exact r.hd
  · have := r.dp
    have e : (A.under (.builtin "list.__repr__.loop" args)).depth = A.depth + 1 := by
      first | rfl | simp [Around.under, Code.weight, Code.isCreation, Code.isGuard, Code.isCaller, Code.frames, Code.isFrame, guardIds]
    rw [e]
    omega
  · have := r.un
    rw [units_under_list_loop]
    omega
  · exact sb.fr
theorem strs_of : ∀ {l : List Str} {us : List Value}, Vals (l.map V.str) us → ∃ d, us = strValues d ∧ d.map (·.1) = l
  | [], _, .nil => ⟨[], rfl, rfl⟩
  | x :: l, _, .cons h r => by
    obtain ⟨tk, rfl⟩ := (show ∃ t, _ = Value.str x t from h)
    obtain ⟨d, rfl, e⟩ := strs_of r
    exact ⟨(x, tk) :: d, rfl, by rw [List.map_cons, e]⟩
theorem repr_loopI {pins : List (Addr × Obj)} {σ : L2.St} {A : Around} {R : Result → Shared → Prop} {a P : Addr} {xs : List V} {ts : List Str} {H : Hp} {base : Nat} (sb : Sub X (n + 1) A) (fP : H P = none) (hlen : ts.length = xs.length) (hT : ∀ (i : Nat) x t, xs[i]? = some x → ts[i]? = some t → Shows X n x t H)
    (hsz : base + (listText ts).length ≤ sizeLine) (ha0 : H a = some (.lst xs)) (fin : ∀ s2 H2 u, L2.Inv X pins σ H2 s2 → (∀ c o, H c = some o → H2 c = some o) → R (.ok (.ret (.str (listText ts) u))) s2) (err : ∀ e s2, X.xe e s2 → R (.error e) s2) :
    ∀ (k i : Nat) (s : Shared) (H1 : Hp), ts.length - i = k → i ≤ ts.length → (∀ c o, H c = some o → H1 c = some o) → L2.Inv X pins σ H1 s → H1 P = some (.lst ((ts.take i).map V.str)) →
      codeAny (model X.prog X.w) A (.builtin "list.__repr__.loop" ⟨[.ref a, rawInt i, .ref P, rawInt ((base + piled (ts.take i) : Nat) : Int)], []⟩) R s := by
  have hp3 := piled_le_listText ts
  have big : ∀ t ∈ ts, t.length ≤ sizeLine := fun t ht => by
    have h2 := (textFrom_len ts 0 "[").2.1 t ht
    have e : (listText ts).length = (textFrom 0 "[" ts).length + 1 := by
      show (textFrom 0 "[" ts ++ "]").length = _
      rw [strLen_append]
      rfl
    omega
  intro k
  induction k with
  | zero =>
    intro i s H1 hk hi s01 I eP
    have hin : i = ts.length := by omega
    obtain ⟨its, m, r, e, _⟩ := I.lst (s01 _ _ ha0)
    obtain ⟨ps, m2, r2, e2, z2⟩ := I.lst eP
    refine codeAny_builtin F.entry_list_repr_loop ?_
    show wpAny _ _ (Builtin.«list.__repr__.loop» ⟨[.ref a, .int i 0, .ref P, .int ((base + piled (ts.take i) : Nat) : Int) 0], []⟩) _ _ s
    rw [repr_loop_tree]
    refine wpAny_bind (wpAny_listItems e rfl ?_)
    have no : its.toArray[(i : Int).toNat]? = none := by
      have := r.length
      simp
      omega
    simp only [no]
    unfold reprEnd
    refine wpAny_bind (wpAny_listItems e2 rfl ?_)
    obtain ⟨d, rfl, ed⟩ := strs_of r2
    rw [show (strValues d).toArray.toList = strValues d by simp, repr_fold]
    refine wpAny_bind (wpAny_pure ?_)
    rw [ed, hin, List.take_length]
    refine wpAny_bind (wpAny_mkStr (wpAny_pure ?_) (by show (listText ts).length ≤ sizeLine; omega))
    exact fin _ H1 _ (I.tok _) s01
  | succ k ih =>
    intro i s H1 hk hi s01 I eP
    have hlt : i < ts.length := by omega
    obtain ⟨t, ht⟩ : ∃ t, ts[i]? = some t := ⟨_, List.getElem?_eq_getElem hlt⟩
    obtain ⟨x, hx⟩ : ∃ x, xs[i]? = some x := ⟨_, List.getElem?_eq_getElem (by omega)⟩
    obtain ⟨its, m, r, e, _⟩ := I.lst (s01 _ _ ha0)
    obtain ⟨u, hu, ru⟩ := r.get hx
    have hp1 := piled_take_succ ht
    have hp2 := piled_take_le ts (i + 1)
    refine codeAny_builtin F.entry_list_repr_loop ?_
    show wpAny _ _ (Builtin.«list.__repr__.loop» ⟨[.ref a, .int i 0, .ref P, .int ((base + piled (ts.take i) : Nat) : Int) 0], []⟩) _ _ s
    rw [repr_loop_tree]
    refine wpAny_bind (wpAny_listItems e rfl ?_)
    have yes : its.toArray[(i : Int).toNat]? = some u := by simpa using hu
    simp only [yes]
    rw [Int.toNat_natCast]
    refine wpAny_bind (wpAny_holding (wpAny_mono (hT i x t hx ht _ pins σ H1 s u (base + piled (ts.take i) + 1) (fun r s2 => r = t ∧ ∃ H2, L2.Inv X pins σ H2 s2 ∧ ∀ c o, H1 c = some o → H2 c = some o) (sub_loop sb) s01 I ru (by omega) fun s2 H2 I2 s12 => ⟨rfl, H2, I2, s12⟩) (fun r s2 k2 => ?_) fun e s2 z => err e s2 z))
    obtain ⟨rfl, H2, I2, s12⟩ := k2
    refine wpAny_bind (wpAny_mkStr ?_ (big r (List.mem_of_getElem? ht)))
    refine wpAny_bind ?_
    show wpAny _ _ (updateSeq P _) _ _ _
    obtain ⟨ps, m2, r2, e2, z2⟩ := (I2.tok (s2.toks + 1)).lst (s12 _ _ eP)
    have small : ((ts.take i).map V.str).length ≤ i := by rw [List.length_map, List.length_take]; omega
    have few : i < sizeLine := by
      have h1 := (textFrom_len ts 0 "[").1
      rw [if_neg (Nat.lt_irrefl 0)] at h1
      have e : (listText ts).length = (textFrom 0 "[" ts).length + 1 := by
        show (textFrom 0 "[" ts ++ "]").length = _
        rw [strLen_append]
        rfl
      omega
    have hps : ps.length ≤ i := by rw [← r2.length]; exact small
    refine wpAny_updateSeq e2 rfl (wpAny_pure ⟨F.quiet_list_repr_loop _, ?_⟩) (by simp; omega) (by simp; omega)
    have n1 : ((i : Int) + 1) = ((i + 1 : Nat) : Int) := by omega
    have n2 : base + piled (ts.take i) + (r.length + 2) = base + piled (ts.take (i + 1)) := by omega
    rw [n1, n2]
    have I3 := (I2.tok (s2.toks + 1)).lstUpd (p := P) (ys := (ts.take (i + 1)).map V.str) (its' := ps ++ [.str r s2.toks]) (n' := m2 + 1) (f := Obj.mapSeq (·.push (.str r s2.toks))) (s12 _ _ eP) e2 (by simp [Obj.mapSeq]) (by
      rw [List.take_add_one, ht, List.map_append]
      exact r2.append (.cons ⟨_, rfl⟩ .nil)) (by rw [List.length_map, List.length_take]; omega) (s2.toks + 1)
    refine ih (i + 1) _ _ (by omega) hlt (fun c o z => ?_) I3 upd_same
    rw [upd_ne (fun y => by rw [y, fP] at z; cases z)]
    exact s12 _ _ (s01 _ _ z)
/-- list.__repr__, where nothing is being shown -/
theorem call_listI {pins : List (Addr × Obj)} {σ : L2.St} {A : Around} {Q : Value → Shared → Prop} {s : Shared} {H : Hp} {a : Addr} {xs : List V} {ts : List Str} (sb : Sub X (n + 3) A) (gd : A.guards = some []) (I : L2.Inv X pins σ H s) (ha : H a = some (.lst xs)) (hlen : ts.length = xs.length)
    (hT : ∀ (i : Nat) x t, xs[i]? = some x → ts[i]? = some t → Shows X n x t H) (hsz : (listText ts).length ≤ sizeLine) (fin : ∀ s2 H2 u, L2.Inv X pins σ H2 s2 → (∀ c o, H c = some o → H2 c = some o) → Q (.str (listText ts) u) s2) :
    wpAny (model X.prog X.w) A (call (.builtin "list.__repr__") [.ref a]) Q X.xe s := by
  obtain ⟨its, m, r, e, z⟩ := I.lst ha
  have ty : s.TypeIs (.ref a) "list" := ⟨_, e, rfl⟩
  refine wpAny_call (codeAny_call_builtin F.slot_list_repr.plain F.entry_list_repr (F.slot_list_repr.check _ _ _ _ _ _ _ _ ty (F.args_list_repr_1 _) ?_))
  cases its with
  | nil =>
    have e0 : xs = [] := List.length_eq_zero_iff.mp r.length
    have e1 : ts = [] := List.length_eq_zero_iff.mp (by rw [hlen, e0]; rfl)
    subst e1
    exact wpAny_list_repr_empty (b := 0) e rfl (fin _ H _ (I.tok _) fun _ _ z => z)
  | cons v vs =>
    refine wpAny_list_repr_head (A := A.in1) (b := 0) gd (fun _ _ _ z => nomatch z) e rfl ?_
    refine wpAny_bind (m := newList []) (wpAny_newObj_type ?_)
    refine wpAny_pure ⟨F.quiet_list_repr_loop _, ?_⟩
    have fP : H s.heap.objs.size = none := I.hok.fresh (Nat.le_refl _)
    have I3 : L2.Inv X pins σ (upd H s.heap.objs.size (.lst [])) { s with heap := s.heap.push { cls := .type "list", data := .seq ([] : List Value).toArray } } :=
      I.laid (t' := s.toks) (fun b o z => Heap.get?_push_of_some _ z) (Nat.le_refl _) ⟨Nat.zero_le _, [], 0, .nil, Heap.get?_push_size _ rfl⟩
    have up : ∀ c o, H c = some o → upd H s.heap.objs.size (.lst []) c = some o := fun c o z => by
      rw [upd_ne (fun y => by rw [y, fP] at z; cases z)]
      exact z
    exact repr_loopI (base := 0) (sb.mono (by omega)) fP hlen hT (by omega) ha (fun s2 H2 u I2 s12 => fin s2 H2 u I2 s12) (fun _ _ z => z) ts.length 0 _ _ rfl (Nat.zero_le _) up I3 upd_same
/-- repr of a list, where nothing is being shown -/
theorem repr_listI {pins : List (Addr × Obj)} {σ : L2.St} {A : Around} {Q : Value → Shared → Prop} {s : Shared} {H : Hp} {a : Addr} {xs : List V} {ts : List Str} (sb : Sub X (n + 3) A) (gd : A.guards = some []) (I : L2.Inv X pins σ H s) (ha : H a = some (.lst xs)) (hlen : ts.length = xs.length)
    (hT : ∀ (i : Nat) x t, xs[i]? = some x → ts[i]? = some t → Shows X n x t H) (hsz : (listText ts).length ≤ sizeLine) (fin : ∀ s2 H2 u, L2.Inv X pins σ H2 s2 → (∀ c o, H c = some o → H2 c = some o) → Q (.str (listText ts) u) s2) :
    wpAny (model X.prog X.w) A (pyReprObj (.ref a)) Q X.xe s := by
  obtain ⟨its, m, r, e, z⟩ := I.lst ha
  have ty : s.TypeIs (.ref a) "list" := ⟨_, e, rfl⟩
  unfold pyReprObj
  refine wpAny_bind (wpAny_cRoomFor (by have := sb.room.un; omega) ?_)
  refine wpAny_bind (wpAny_specialOf (name := Str.ofString "__repr__") ty F.slot_list_repr.lookup ?_)
  refine wpAny_bind (m := callSpecialIfBound? (.ref a) (Str.ofString "__repr__")) (wpAny_callSpecialIfBound?_slot (name := Str.ofString "__repr__") ty F.slot_list_repr (call_listI sb gd I ha hlen hT hsz fun s2 H2 u I2 s12 => ?_))
  exact wpAny_bind (wpAny_isInstance (T := "str") (b := true) rfl isSubtype_str_str (wpAny_pure (fin s2 H2 u I2 s12)))
end
end KA
/-! repr of a tuple that holds lists of own things, and data -/
namespace KA
open PySem PySem.Spec PyProof.Rows L2
section
variable {X : Cx} {n : Nat}
/-- x is shown as t, where nothing but t0 is being shown -/
def ShowsG (X : Cx) (n : Nat) (t0 : Addr) (x : V) (t : Str) (H : Hp) : Prop := ∀ (A : Around) (g : List Code) (pins : List (Addr × Obj)) (σ : L2.St) (H1 : Hp) (s : Shared) (u : Value) (b : Nat) (Q : Str → Shared → Prop), Sub X n A → A.guards = some g → (∀ c, c ≠ t0 → Clear g c) → (∀ c o, H c = some o → H1 c = some o) → L2.Inv X pins σ H1 s → RelV x u → b + t.length ≤ sizeLine →
  (∀ s2 H2, L2.Inv X pins σ H2 s2 → (∀ c o, H1 c = some o → H2 c = some o) → Q t s2) → wpAny (model X.prog X.w) A (pyReprUnder b u) Q X.xe s
theorem Shows.g {t0 : Addr} {x : V} {t : Str} {H : Hp} (h : Shows X n x t H) : ShowsG X n t0 x t H := fun A _ pins σ H1 s u b Q sb _ _ s01 I ru hz fin => h A pins σ H1 s u b Q sb s01 I ru hz fin
theorem shows_listG {H : Hp} {a t0 : Addr} {xs : List V} {ts : List Str} (ne : a ≠ t0) (ha : H a = some (.lst xs)) (hlen : ts.length = xs.length) (hT : ∀ (i : Nat) x t, xs[i]? = some x → ts[i]? = some t → Shows X n x t H) : ShowsG X (n + 3) t0 (.ref a) (listText ts) H := by
  intro A g pins σ H1 s u b Q sb gd hcl s01 I ru hz fin
  cases (show u = Value.ref a from ru)
  obtain ⟨its, m, r, e, z⟩ := I.lst (s01 _ _ ha)
  have ty : s.TypeIs (.ref a) "list" := ⟨_, e, rfl⟩
  have uu : A.units < cLine := sb.room.units0
  refine wpAny_pyReprUnder_ref (by omega) (wpAny_pyReprObjUnder_twin (twin := "list.__repr__.under") ty F.slot_list_repr.toG rfl uu ?_)
  refine call_twin_plain F.plain_list_repr_under F.entry_list_repr_under F.check_list_repr_under ty F.slot_list_repr.toG (F.args_list_repr_1 _) ?_
  have hTs : ∀ (i : Nat) x t, xs[i]? = some x → ts[i]? = some t → Shows X n x t H1 := fun i x t h1 h2 A pins σ H2 s u b Q sb s12 I ru hz fin => hT i x t h1 h2 A pins σ H2 s u b Q sb (fun c o k => s12 _ _ (s01 _ _ k)) I ru hz fin
  cases its with
  | nil =>
    have e0 : xs = [] := List.length_eq_zero_iff.mp r.length
    have e1 : ts = [] := List.length_eq_zero_iff.mp (by rw [hlen, e0]; rfl)
    subst e1
    exact wpAny_list_repr_empty (b := b) e rfl ⟨⟨_, _, rfl⟩, _, _, rfl, fin _ H1 (I.tok _) fun _ _ z => z⟩
  | cons v vs =>
    refine wpAny_list_repr_head (A := A.in1) (b := b) gd (fun v rest kw hm => listSameRef_of_ne (hcl a ne _ _ _ _ hm)) e rfl ?_
    refine wpAny_bind (m := newList []) (wpAny_newObj_type ?_)
    refine wpAny_pure ⟨F.quiet_list_repr_loop _, ?_⟩
    have fP : H1 s.heap.objs.size = none := I.hok.fresh (Nat.le_refl _)
    have I3 : L2.Inv X pins σ (upd H1 s.heap.objs.size (.lst [])) { s with heap := s.heap.push { cls := .type "list", data := .seq ([] : List Value).toArray } } :=
      I.laid (t' := s.toks) (fun b o z => Heap.get?_push_of_some _ z) (Nat.le_refl _) ⟨Nat.zero_le _, [], 0, .nil, Heap.get?_push_size _ rfl⟩
    have up : ∀ c o, H1 c = some o → upd H1 s.heap.objs.size (.lst []) c = some o := fun c o z => by
      rw [upd_ne (fun y => by rw [y, fP] at z; cases z)]
      exact z
    exact repr_loopI (base := b) (sb.mono (by omega)) fP hlen hTs hz (s01 _ _ ha) (fun s2 H2 u I2 s12 => ⟨⟨_, _, rfl⟩, _, _, rfl, fin s2 H2 I2 s12⟩) (fun _ _ z => z) ts.length 0 _ _ rfl (Nat.zero_le _) up I3 upd_same
theorem sub_tup {A : Around} {args : Args} (sb : Sub X (n + 1) A) : Sub X n (A.under (.builtin "tuple.__repr__" args)) := by
  have r := sb.room
  refine ⟨⟨r.hd, ?_, ?_⟩, sb.fr⟩
  · have := r.dp
    have e : (A.under (.builtin "tuple.__repr__" args)).depth ≤ A.depth + 1 := by
      first
        | exact Nat.le_refl _
        | (show A.depth ≤ A.depth + 1; omega)
        | simp [Around.under, Code.weight, Code.isCreation, Code.isGuard, Code.isCaller, Code.frames, Code.isFrame, guardIds]
    omega
  · have := r.un
    rw [units_under_tuple_repr]
    omega
/-- the items of a tuple, one behind another -/
inductive ShowsAll (X : Cx) (n : Nat) (t0 : Addr) (H : Hp) : List V → List Str → Prop
  | nil : ShowsAll X n t0 H [] []
  | cons {x : V} {xs : List V} {t : Str} {ts : List Str} : ShowsG X n t0 x t H → ShowsAll X n t0 H xs ts → ShowsAll X n t0 H (x :: xs) (t :: ts)
theorem ShowsAll.len {t0 : Addr} {H : Hp} : ∀ {xs : List V} {ts : List Str}, ShowsAll X n t0 H xs ts → ts.length = xs.length
  | _, _, .nil => rfl
  | _, _, .cons _ r => by rw [List.length_cons, List.length_cons, r.len]
theorem tup_foldI {A : Around} {g : List Code} {pins : List (Addr × Obj)} {σ : L2.St} {t0 : Addr} {H : Hp} (sb : Sub X n A) (gd : A.guards = some g) (hcl : ∀ c, c ≠ t0 → Clear g c) {xs : List V} {ts : List Str} (all : ShowsAll X n t0 H xs ts) : ∀ (us : List Value) (acc : Array Str) (k : Nat) (s : Shared) (H1 : Hp) (Q : (Array Str × Nat) → Shared → Prop),
    Vals xs us → k + piled ts ≤ sizeLine → (∀ c o, H c = some o → H1 c = some o) → L2.Inv X pins σ H1 s → (∀ s2 H2, L2.Inv X pins σ H2 s2 → (∀ c o, H1 c = some o → H2 c = some o) → Q ⟨acc ++ ts.toArray, k + piled ts⟩ s2) →
      wpAny (model X.prog X.w) A (forIn us (⟨acc, k⟩ : (Array Str × Nat)) tupBody) Q X.xe s := by
  induction all with
  | nil =>
    intro us acc k s H1 Q vl _ _ I fin
    cases vl
    simp only [List.forIn_nil]
    exact wpAny_pure (by simpa [piled] using fin s H1 I fun _ _ z => z)
  | @cons x xs t ts hx _ ih =>
    intro us acc k s H1 Q vl hk s01 I fin
    cases vl with
    | cons rx rr =>
      rename_i u us
      rw [piled_cons] at hk
      rw [List.forIn_cons]
      refine wpAny_bind (wpAny_bind (wpAny_mono (hx A g pins σ H1 s u (k + 1) (fun r s2 => r = t ∧ ∃ H2, L2.Inv X pins σ H2 s2 ∧ ∀ c o, H1 c = some o → H2 c = some o) sb gd hcl s01 I rx (by omega) fun s2 H2 I2 s12 => ⟨rfl, H2, I2, s12⟩) (fun r s2 k2 => ?_) fun _ _ z => z))
      obtain ⟨rfl, H2, I2, s12⟩ := k2
      refine wpAny_pure ?_
      refine ih us (acc.push r) (k + (r.length + 2)) s2 H2 Q rr (by omega) (fun c o z => s12 _ _ (s01 _ _ z)) I2 fun s3 H3 I3 s23 => ?_
      have h1 := fin s3 H3 I3 fun c o z => s23 _ _ (s12 _ _ z)
      rw [show k + piled (r :: ts) = k + (r.length + 2) + piled ts by rw [piled_cons]; omega] at h1
      simpa using h1
/-- tuple.__repr__, where nothing is being shown -/
theorem call_tupI {pins : List (Addr × Obj)} {σ : L2.St} {A : Around} {Q : Value → Shared → Prop} {s : Shared} {H : Hp} {a : Addr} {xs : List V} {ts : List Str} (sb : Sub X (n + 1) A) (gd : A.guards = some []) (I : L2.Inv X pins σ H s) (ha : H a = some (.tup xs)) (all : ShowsAll X n a H xs ts)
    (hsz : (tupleText ts).length ≤ sizeLine) (fin : ∀ s2 H2 u, L2.Inv X pins σ H2 s2 → (∀ c o, H c = some o → H2 c = some o) → Q (.str (tupleText ts) u) s2) : wpAny (model X.prog X.w) A (call (.builtin "tuple.__repr__") [.ref a]) Q X.xe s := by
  obtain ⟨z, its, r, o, e, cl, m, hd⟩ := I.hok a _ ha
  have ty : s.TypeIs (.ref a) "tuple" := ⟨o, e, cl⟩
  have hlen : ts.length = its.toArray.size := by rw [all.len, r.length]; simp
  have hp := piled_le_tupleText ts
  refine wpAny_call (codeAny_call_builtin_own (Code.quiet_builtin _ (by decide +kernel)) F.entry_tuple_repr (F.slot_tuple_repr.check _ _ _ _ _ _ _ _ ty (F.args_tuple_repr_1 _) ?_))
  show wpOwn _ _ _ (Builtin.tupleReprAt 0 ⟨[.ref a], []⟩) _ _ s
  rw [tuple_repr_tree, tupleReprUnderWay_eq]
  refine wpOwn_bind (wpOwn_stackTailAny gd (tupGuardF_off _) (tupGuardF_pos _) ?_)
  refine wpOwn_of_wpAny ?_
  show wpAny _ _ (tupleReprRest 0 (.ref a)) _ _ s
  unfold tupleReprRest Builtin.Tuple.tupleItemsOf
  refine wpAny_bind (wpAny_bind (wpAny_seqItems e hd (wpAny_pure ?_)))
  rw [← Array.forIn_toList]
  refine wpAny_bind (wpAny_mono (tup_foldI (pins := pins) (σ := σ) (sub_tup sb) (guards_under_guard (isGuard_tuple_repr _) gd) (fun b hb => (Clear.nil b).cons (a := a) (Ne.symm hb)) all its.toArray.toList _ _ s H (fun q s2 => q = ⟨ts.toArray, 0 + piled ts⟩ ∧ ∃ H2, L2.Inv X pins σ H2 s2 ∧ ∀ c o, H c = some o → H2 c = some o) (by simpa using r) (by omega) (fun _ _ z => z) I fun s2 H2 I2 s12 => ⟨by simp, H2, I2, s12⟩) (fun q s2 k2 => ?_) fun _ _ z => z)
  obtain ⟨rfl, H2, I2, s12⟩ := k2
  refine wpAny_bind (wpAny_mkStr (wpAny_pure ?_) (by simpa [tupleText, hlen] using hsz))
  have h1 := fin _ H2 s2.toks (I2.tok (s2.toks + 1)) s12
  simpa [tupleText, hlen] using h1
def rReprT (X : Cx) (n : Nat) : List V → Hp → VK → Prop := fun vs H Q => ∃ (a : Addr) (xs : List V) (ts : List Str), vs = [.ref a] ∧ H a = some (.tup xs) ∧ ShowsAll X n a H xs ts ∧ (tupleText ts).length ≤ sizeLine ∧ ∀ H2, (∀ c o, H c = some o → H2 c = some o) → Q (.str (tupleText ts)) H2
theorem call_reprT (gd : X.A.guards = some []) (hr : Room (n + 2) X.A) : CallR X (.builtin "repr") (rReprT X n) := by
  intro pins s σ H vs us Q I r h
  obtain ⟨a, xs, ts, rfl, ha, all, hsz, q⟩ := h
  obtain rfl := Vals.ref1 r
  refine Calls.call_function_entry F.kind_repr F.plain_repr F.entry_repr (F.args_repr1 _) ?_
  unfold Builtin.«repr»
  refine wpAny_bind (m := oneArg "repr" _) (wpAny_pure ?_)
  have sb : Sub X (n + 1) X.A.in1 := ⟨hr.in1, rfl⟩
  obtain ⟨z, its, rr, o, e, cl, m, hd⟩ := I.hok a _ ha
  have ty : s.TypeIs (.ref a) "tuple" := ⟨o, e, cl⟩
  refine wpAny_bind (wpAny_cRoomFor sb.room.units0 ?_)
  refine wpAny_bind (wpAny_specialOf (name := Str.ofString "__repr__") ty F.slot_tuple_repr.lookup ?_)
  refine wpAny_bind (m := callSpecialIfBound? (.ref a) (Str.ofString "__repr__")) (wpAny_callSpecialIfBound?_slotG (name := Str.ofString "__repr__") ty F.slot_tuple_repr (call_tupI sb gd I ha all hsz fun s2 H2 u I2 s12 => ?_))
  exact wpAny_bind (wpAny_isInstance (T := "str") (b := true) rfl isSubtype_str_str (wpAny_pure ⟨_, rfl, .str (tupleText ts), H2, I2, ⟨u, rfl⟩, q H2 s12⟩))
def rReprLst (X : Cx) (n : Nat) : List V → Hp → VK → Prop := fun vs H Q => ∃ (a : Addr) (xs : List V) (ts : List Str), vs = [.ref a] ∧ H a = some (.lst xs) ∧ ts.length = xs.length ∧ (∀ (i : Nat) x t, xs[i]? = some x → ts[i]? = some t → Shows X n x t H) ∧ (listText ts).length ≤ sizeLine ∧ ∀ H2, (∀ c o, H c = some o → H2 c = some o) → Q (.str (listText ts)) H2
theorem call_reprLst (gd : X.A.guards = some []) (hr : Room (n + 4) X.A) : CallR X (.builtin "repr") (rReprLst X n) := by
  intro pins s σ H vs us Q I r h
  obtain ⟨a, xs, ts, rfl, ha, hlen, hT, hsz, q⟩ := h
  obtain rfl := Vals.ref1 r
  refine Calls.call_function_entry F.kind_repr F.plain_repr F.entry_repr (F.args_repr1 _) ?_
  unfold Builtin.«repr»
  refine wpAny_bind (m := oneArg "repr" _) (wpAny_pure ?_)
  have sb : Sub X (n + 3) X.A.in1 := ⟨hr.in1, rfl⟩
  obtain ⟨its, m, rr, e, z⟩ := I.lst ha
  have ty : s.TypeIs (.ref a) "list" := ⟨_, e, rfl⟩
  refine wpAny_bind (wpAny_cRoomFor sb.room.units0 ?_)
  refine wpAny_bind (wpAny_specialOf (name := Str.ofString "__repr__") ty F.slot_list_repr.lookup ?_)
  refine wpAny_bind (m := callSpecialIfBound? (.ref a) (Str.ofString "__repr__")) (wpAny_callSpecialIfBound?_slot (name := Str.ofString "__repr__") ty F.slot_list_repr (call_listI sb gd I ha hlen hT hsz fun s2 H2 u I2 s12 => ?_))
  exact wpAny_bind (wpAny_isInstance (T := "str") (b := true) rfl isSubtype_str_str (wpAny_pure ⟨_, rfl, .str (listText ts), H2, I2, ⟨u, rfl⟩, q H2 s12⟩))
/-- {x!r}, x a list -/
def tFmtRL (X : Cx) (n : Nat) (te : TE) : TE := fun σ H Q => te σ H fun x H1 => rReprLst X n [x] H1 Q
theorem pe_fmtRL {e : Expr} {te : TE} {pos : Pos} (gd : X.A.guards = some []) (hr : Room (n + 3) X.A) (he : PE X e te) : PE X (.FormattedValue e 114 none pos) (tFmtRL X n te) := by
  refine ⟨fun pins s σ H Q I h => ?_⟩
  refine wpAny_FormattedValue_repr (thn (he.run pins s σ H _ I h) fun v s1 ⟨x, H1, I1, r1, k⟩ => ?_)
  obtain ⟨a, xs, ts, ex, ha, hlen, hT, hsz, q⟩ := k
  cases ex
  cases (show v = Value.ref a from r1)
  refine repr_listI ⟨hr, rfl⟩ gd I1 ha hlen hT hsz fun s2 H2 u I2 s12 => ?_
  exact wpAny_formatField_str ⟨.str (listText ts), H2, I2, ⟨_, rfl⟩, q H2 s12⟩ ⟨.str (listText ts), H2, I2.tok _, ⟨_, rfl⟩, q H2 s12⟩ hsz
/-- a dict whose keys are tuples of texts, its values ints -/
def keyText (ks : List Str) : Str := tupleText (ks.map reprText)
def entText (p : List Str × Int) : Str := keyText p.1 ++ ": " ++ Str.ofString (toString p.2)
def dictV (kvs : List (List Str × Int)) : List (List Key × V) := kvs.map fun p => (p.1.map Sum.inr, V.int p.2)
theorem reprAll_strs {as : List Addr} {h0 : Heap} {d : Nat} : ∀ {ks : List Str} {us : List Value}, Vals (ks.map V.str) us → (∀ k ∈ ks, (reprText k).length ≤ sizeLine) → ReprAllK X.prog X.w as h0 d us (ks.map reprText)
  | [], _, .nil, _ => .nil
  | k :: ks, _, .cons h r, hz => by
    obtain ⟨tk, rfl⟩ := (show ∃ t, _ = Value.str k t from h)
    exact .cons (.of_is (ReprIs.str k tk (hz k (List.mem_cons_self ..))) _ _ _) (reprAll_strs r fun y hy => hz y (List.mem_cons_of_mem _ hy))
theorem keys_strs (ks : List Str) : (ks.map (Sum.inr : Str → Key)).map kV = ks.map V.str := by
  rw [List.map_map]
  rfl
theorem entries_dT {pins : List (Addr × Obj)} {σ : L2.St} {H1 : Hp} {s : Shared} (I : L2.Inv X pins σ H1 s) (as : List Addr) {P : Program} {w : World} : ∀ {kvs : List (List Str × Int)} {xs : List (List Key × Addr × Value)}, (∀ q ∈ xs, q.2.1 ∈ as) → (∀ p ∈ kvs, (∀ k ∈ p.1, (reprText k).length ≤ sizeLine) ∧ p.2.natAbs.log2 < 1920) →
    Paired (fun (p : List Key × V) (q : List Key × Addr × Value) => p.1 = q.1 ∧ H1 q.2.1 = some (.tup (p.1.map kV)) ∧ RelV p.2 q.2.2) (dictV kvs) xs → ReprEntriesK X.prog X.w as s.heap 1 (xs.map (entryOfKey (tupleKind (mixKind P w)))) (kvs.map entText)
  | [], _, _, _, .nil => .nil
  | (ks, i) :: kvs, _, hin, hk, .cons h r => by
    rename_i q xs
    obtain ⟨h1, h2, h3⟩ := h
    have h2 : H1 q.2.1 = some (.tup (ks.map V.str)) := by
      rw [← keys_strs ks]
      exact h2
    obtain ⟨tk, h3⟩ := (show ∃ t, q.2.2 = Value.int i t from h3)
    obtain ⟨k1, k2⟩ := hk (ks, i) (List.mem_cons_self ..)
    obtain ⟨_, its, rv, ok, e, cl, m, hd⟩ := I.hok _ _ h2
    have key : ReprK X.prog X.w [q.2.1] s.heap 1 (.ref q.2.1) (keyText ks) := ReprK.tuple (as := []) e cl hd (by simp) (by simpa using reprAll_strs rv k1)
    refine .cons (key.more fun b hb => ?_) ?_ (entries_dT I as (fun q hq => hin q (List.mem_cons_of_mem _ hq)) (fun p hp => hk p (List.mem_cons_of_mem _ hp)) r)
    · rw [List.mem_singleton.mp hb]
      exact hin q (List.mem_cons_self ..)
    · show ReprK X.prog X.w as s.heap 1 q.2.2 _
      rw [h3]
      exact .of_is (ReprIs.int tk k2) _ _ _
theorem shows_dT {H : Hp} {a t0 : Addr} {xs0 : List V} {kvs : List (List Str × Int)} (ht0 : H t0 = some (.tup xs0)) (hx0 : ∀ ks : List Str, xs0 ≠ ks.map V.str) (ha : H a = some (.dT (dictV kvs))) (hk : ∀ p ∈ kvs, (∀ k ∈ p.1, (reprText k).length ≤ sizeLine) ∧ p.2.natAbs.log2 < 1920) :
    ShowsG X n t0 (.ref a) (dictText (kvs.map entText)) H := by
  intro A g pins σ H1 s u b Q sb gd hcl s01 I ru hz fin
  cases (show u = Value.ref a from ru)
  have ha1 := s01 _ _ ha
  obtain ⟨_, hsys, xs, pr, o, es, ep, e, ex, hd, hes, _⟩ := I.hok a _ ha1
  have tup : ∀ c ∈ xs.map (·.2.1), ∃ ks : List Str, H1 c = some (.tup (ks.map V.str)) := by
    intro c hc
    obtain ⟨q, hq, rfl⟩ := List.mem_map.mp hc
    have : ∀ {l : List (List Str × Int)} {ys : List (List Key × Addr × Value)}, Paired (fun (p : List Key × V) (q : List Key × Addr × Value) => p.1 = q.1 ∧ H1 q.2.1 = some (.tup (p.1.map kV)) ∧ RelV p.2 q.2.2) (dictV l) ys → ∀ q ∈ ys, ∃ ks : List Str, H1 q.2.1 = some (.tup (ks.map V.str)) := by
      intro l
      induction l with
      | nil =>
        intro ys h q hq
        cases h
        cases hq
      | cons p l ih =>
        intro ys h q hq
        cases h with
        | cons h r =>
          rcases List.mem_cons.mp hq with rfl | hq
          · exact ⟨p.1, by rw [← keys_strs]; exact h.2.1⟩
          · exact ih r q hq
    exact this pr q hq
  have ent := entries_dT (P := X.prog) (w := X.w) I (xs.map (·.2.1)) (fun q hq => List.mem_map.mpr ⟨q, hq, rfl⟩) hk pr
  rw [← hes] at ent
  have na : a ∉ xs.map (·.2.1) := fun z => by
    obtain ⟨ks, k⟩ := tup a z
    rw [ha1] at k
    cases k
  have all := ReprK.dict (prog := X.prog) (w := X.w) e ex.1 hd hsys na ent
  refine all b hz A g X.xe s Q gd (fun c hc => hcl c fun z => ?_) (by have := sb.room.un; omega) (fun _ _ z => z) fun h' tk kp => fin _ H1 (I.kept kp) fun _ _ z => z
  have t1 := s01 _ _ ht0
  rcases List.mem_cons.mp hc with hc | hc
  · rw [← z, hc, ha1] at t1
    cases t1
  · obtain ⟨ks, k⟩ := tup c hc
    rw [z, t1] at k
    cases k
    exact hx0 ks rfl
end
end KA
namespace KA
open PySem PySem.Spec PyProof.Rows L2
/-! defs that are called where nothing is being shown (no guard stands): within them lists and tuples are shown in full -/
structure FnG (P : Program) (w : World) (K : PySem.W.Frag) (mg : Str → Option Value) (base : Heap) (CX : CXT) (k : Nat) (f : Addr) (fd : FuncData) (ps : List Str) (sp : Sp) : Prop where
  ln : ∀ vs H Q E, sp vs H Q E → vs.length = ps.length
  go : ∀ (A : Around) (st : List Env) (s : Shared) (H : Hp) (gs : Args) (us : List Value) (vs : List V) (Q : VK) (E : XK), Room k A → A.guards = some [] → Env0 P w K mg base A st s H → BindsTo s fd gs (ps.zip us) → Vals vs us → sp vs H Q E →
    codeAny (model P w) A (.call (.ref f) gs) (CR CX st P w H s Q E) s
section
variable {P : Program} {w : World} {K : PySem.W.Frag} {mg : Str → Option Value} {base : Heap} {CX : CXT} {k : Nat} {f : Addr} {fd : FuncData} {ps : List Str} {sp : Sp}
theorem fng_any (F : FnOk P w K mg base CX k f fd ps sp) : FnG P w K mg base CX k f fd ps sp := ⟨F.len, fun A st s H gs us vs Q E rm _ en bd vl hs => F.run A st s H gs us vs Q E rm en bd vl hs⟩
theorem FnG.mono {j : Nat} (F : FnG P w K mg base CX j f fd ps sp) (h : j ≤ k) : FnG P w K mg base CX k f fd ps sp := ⟨F.ln, fun A st s H gs us vs Q E rm => F.go A st s H gs us vs Q E (rm.mono h)⟩
/-- a def by its body, where no guard stands -/
theorem fng_of {name qual : Str} {params : Arguments} {body : List Stmt} {scope : Scope} {dV kV doc pm cdv ct oc : Value} {an od : Option Addr} {osl : Array (Option Value)} {N : List Str}
    (at_ : K.lookup f = some ⟨oc, od, .func (PySem.W.fnOf name qual params body scope dV kV doc pm an cdv ct), osl⟩) (cd : PySem.W.codeIn K cdv qual = true) (sc : FnScope N ps scope) (ln : ∀ vs H Q E, sp vs H Q E → vs.length = ps.length)
    (bd : ∀ (A : Around) (st : List Env) (s : Shared) (H : Hp) (vs : List V) (Q : VK) (E : XK), Room k (A.deeper (envOfC qual scope s.heap.objs.size f cdv)) → (A.deeper (envOfC qual scope s.heap.objs.size f cdv)).guards = some [] → sp vs H Q E →
      ∃ t, PSs (cxOf CX P w K mg base N qual scope f cdv A st s H E) body t ∧ t { nx := fun _ G => Q .non G, rt := Q } (L2.start N vs) H) :
    FnG P w K mg base CX (k + 1) f (PySem.W.fnOf name qual params body scope dV kV doc pm an cdv ct) ps sp := by
  refine ⟨ln, fun A st s H gs us vs Q E rm gd en bi vl hs => ?_⟩
  have inK : K.In s.heap := en.mod.kin.keeps fun b o z => (en.bs b o z).1
  have noL : s.heap.NoLimit := en.mod.nolimit.keeps fun b o z => (en.bs b o z).1
  have kd : ∀ y ∈ ps.zip us, scope.names.lookup y.1 = some .local ∨ (scope.names.lookup y.1 = some .cell ∧ ((cellsFrom (s.heap.objs.size + 1) scope.names []).lookup y.1).isSome = true) := by
    rintro ⟨n, v⟩ hy
    exact (sc.par n (List.of_mem_zip hy).1).imp id fun z => ⟨z, PySem.W.cellsFrom_some _ _ _ (.inl z)⟩
  refine codeAny_call_function rm.depth (inK _ _ at_) rfl sc.co sc.gen rfl (PySem.W.codeRec_of inK cd) (bi _ _ _ _ (wpAny_newFunctionEnv_cells sc.kind kd ?_))
  rintro env rfl s1 x
  refine ⟨noL.keeps x.toInCall.keep, codeAny_func ?_⟩
  obtain ⟨t, pt, rd⟩ := bd A st s H vs Q E (rm.deeper _) gd hs
  refine wpAny_mono (pt.run [] s1 (L2.start N vs) H _ (inv_start sc rm.hd en (ln _ _ _ _ hs) vl x) rd) (fun fl s2 z => ?_) fun _ _ z => z
  cases fl with
  | ret u =>
    obtain ⟨v, σ2, G, J, rv, q⟩ := z
    exact ⟨v, G, J.os, J.bare, J.base, J.hok, rv, q⟩
  | next =>
    obtain ⟨σ2, G, J, q⟩ := z
    exact ⟨.non, G, J.os, J.bare, J.base, J.hok, rfl, q⟩
  | brk =>
    obtain ⟨_, _, _, q⟩ := z
    exact q.elim
  | cont =>
    obtain ⟨_, _, _, q⟩ := z
    exact q.elim
end
theorem fun_okG {P : Program} {w : World} {K : PySem.W.Frag} {mg : Str → Option Value} {base : Heap} {x qual : Str} {st : Stmt} {f : Addr} {fd : FuncData} {N ps : List Str} {k : Nat} {sp : Sp} (F : Fun K x qual st f fd) (sc : FnScope N ps (defScope st)) (ln : ∀ vs H Q E, sp vs H Q E → vs.length = ps.length)
    (bd : ∀ (cdv : Value) (A : Around) (outer : List Env) (s : Shared) (H : Hp) (vs : List V) (Q : VK) (E : XK), Room k (A.deeper (envOfC qual (defScope st) s.heap.objs.size f cdv)) → (A.deeper (envOfC qual (defScope st) s.heap.objs.size f cdv)).guards = some [] → sp vs H Q E →
      ∃ t, PSs (cxOf CX0 P w K mg base N qual (defScope st) f cdv A outer s H E).nox (defBody st) t ∧ t { nx := fun _ G => Q .non G, rt := Q } (L2.start N vs) H) : FnG P w K mg base CX0 (k + 1) f fd ps sp := by
  obtain ⟨oc, od, kV, doc, pm, an, cdv, ct, osl, rfl, lk, hcd⟩ := F.ex
  refine fng_of lk hcd sc ln fun A outer s H vs Q E rm gd hs => ?_
  obtain ⟨t, h, q⟩ := bd cdv A outer s H vs Q E rm gd hs
  exact ⟨t, h.nox, q⟩
section
variable {X : Cx} {CX : CXT} {k : Nat} {f C : Addr} {fd : FuncData} {ps : List Str} {ds : List Value} {dvs : List V} {sp : Sp} {E : XK} {x m : Str} {p pos apos : Pos} {e o : Expr} {es : List Expr} {t : TA} {ta : TE}
theorem run_G {pins : List (Addr × Obj)} {σ : L2.St} {H : Hp} {s : Shared} {Q : VK} {us : List Value} {vs : List V} (F : FnG X.prog X.w X.K X.mg X.base CX k f fd ps sp) (rm : Room k X.A) (gd : X.A.guards = some []) (hb : Binds X.K fd ps ds) (hd : Vals dvs ds) (hx : Passes CX X E)
    (I : Inv X pins σ H s) (r : Vals vs us) (h : sp (vs ++ dvs) H Q E) : wpAny (model X.prog X.w) X.A (call (.ref f) us) (EP X pins σ Q) X.xe s := by
  have all := r.append hd
  refine wpAny_call (codeAny_mono (F.go X.A X.stack s H ⟨us, []⟩ (us ++ ds) (vs ++ dvs) Q E rm gd I.env0 (hb s us I.kIn (all.length.symm.trans (F.ln _ _ _ _ h))) all h) fun r s2 z => ?_)
  match r, z with
  | .error er, z => exact hx pins σ H s er s2 I z
  | .ok (.ret u), z => exact I.after z
  | .ok .next, z => exact z.elim
  | .ok .brk, z => exact z.elim
  | .ok .cont, z => exact z.elim
theorem pe_callG (F : FnG X.prog X.w X.K X.mg X.base CX k f fd ps sp) (rm : Room k X.A) (gd : X.A.guards = some []) (hg : Gl X x) (hm : X.mg x = some (.ref f)) (hk : PySem.W.keepIn X.K (.ref f) = true) (hb : Binds X.K fd ps ds) (hd : Vals dvs ds) (hx : Passes CX X E)
    (ha : PA X (e :: es) t) (db : (x == ("__debug__" : Str)) = false := by decide) (he : starEach (e :: es) X.env = (false, eval e X.env) :: starEach es X.env := by rfl) (hpl : (backTo pos (starEach es X.env)).any (·.1) = false := by rfl) :
    PE X (.Call (.Name x p) (e :: es) [] pos) (tCall sp dvs E t) :=
  ⟨fun pins s σ H Q I h => wpAny_Call_Name_kw (ld_glob I hg hm (PySem.W.callWith_K (h₀ := X.base) I.ok.mod.kin hk (thn (ha.run pos pins s σ H _ I h) fun _ _ ⟨_, _, I1, r, q⟩ => ⟨I1.kIn, run_G F rm gd hb hd hx I1 r q⟩) he hpl) db)⟩
theorem pe_meth0G {pl : Sem Bool} (he : PE X o ta) (c : Cls X.K C) (hm : Meth X.K C m f) (F : FnG X.prog X.w X.K X.mg X.base CX k f fd ps sp) (rm : Room k X.A) (gd : X.A.guards = some []) (hb : Binds X.K fd ps ds) (hd : Vals dvs ds) (hx : Passes CX X E)
    (ht : eval (.Call (.Attribute o m apos) [] [] pos) X.env = (do
      let w ← eval o X.env
      standAt apos.atName
      let (g, fst) ← holding [w] (getMethod w m pl)
      callWith pos g fst (backTo pos (starEach [] X.env)) (backToKw pos (keywordEach [] X.env))) := by rfl) :
    PE X (.Call (.Attribute o m apos) [] [] pos) (tMeth C m sp dvs E ta tNil) := by
  constructor
  intro pins s σ H Q I h
  refine PySem.W.methodCall_KW (pl := pl) (thn (he.run pins s σ H _ I h) fun u s1 ⟨x, H1, I1, rx, a, dx, fs, ex, ea, lk, q⟩ => ?_) ht
  subst ex
  cases rx
  exact getmeth_ok I1 ea c hm lk (PySem.W.callWith_K0 (first := [.ref a]) I1.kIn hm.kp (run_G (us := [.ref a]) (vs := [.ref a]) F rm gd hb hd hx I1 (.cons rfl .nil) q))
end
/-! repr of data -/
section
variable {X : Cx}
def rReprD (K : PySem.W.Frag) : List V → Hp → VK → Prop := fun xs H Q => ∃ (a : Addr) (d : PyData), xs = [.ref a] ∧ Dp K H (.ref a) d ∧ PyData.showable d = true ∧ d.hasDict = false ∧ d.depth ≤ 32 ∧ d.shown.length ≤ sizeLine ∧ Q (.str d.shown) H
theorem call_reprD (gd : X.A.guards = some []) (hu : X.A.units + 64 < cLine) : CallR X (.builtin "repr") (rReprD X.K) := by
  intro pins s σ H xs us Q I r h
  obtain ⟨a, d, ex, hd, hs, hn, hde, hz, q⟩ := h
  subst ex
  cases r with
  | cons r1 r2 =>
    cases r2
    cases r1
    obtain ⟨as, rd⟩ := Dp.reads I d _ _ hd rfl
    exact repr_of_reads' rd hs (fun z => by rw [hn] at z; cases z) gd (by omega) (fun _ _ z => z) (fun g u tk kp => ⟨.str d.shown, H, I.kept (t' := tk) kp, ⟨u, rfl⟩, q⟩) hz
end
/-! the law itself: it is called where no guard stands -/
section
variable {P : Program} {w : World} {K : PySem.W.Frag} {mg mb : Str → Option Value} {CX : CXT} {k : Nat} {fa a : Addr} {fd : FuncData} {x : Str} {sp : Sp} {s1 : Shared} {vs : List Value} {ns : List Int}
/-- .. from a heap of which the script alone may be told -/
theorem law_from {H : Hp} (inK : K.In s1.heap) (gl : s1.heap.Ns mainGlobals mg) (bl : s1.heap.Ns builtinsNs mb) (bb : ∀ y : Str, y ≠ "__name__" → mb y = bootBuiltins y) (nolim : s1.heap.NoLimit) (nog : s1.gens = #[])
    (isl : ∀ b u, H b = some u → (∃ vs' n, ∀ o, s1.heap.get? b = some o → o.data = .seq vs' n) ∧ K.lookup b = none) (frz : ∀ b u, H b = some u → ∃ o ys, u = .frz o (.lst ys)) (rm : Room k callerA)
    (F : ∀ base : Heap, K.In base → base.Ns mainGlobals mg → FnG P w K mg base CX k fa fd [x] sp) (bi : ∀ (s : Shared) (u : Value), BindsTo s fd ⟨[u], []⟩ [(x, u)]) (ok : HOk P w H s1.heap)
    (pr : sp [.ref a] H (fun v _ => v = .bl true) fun _ _ _ => False) (nox : ∀ e s2, CX [] H s1 (fun _ _ _ => False) e s2 → False) :
    codeAny (model P w) callerA (.call (.ref fa) ⟨[.ref a], []⟩) (fun r s2 => r = .ok (.ret (.bool true)) ∧ OldK s1.heap s2.heap ∧ s2.os = s1.os ∧ AllBare s2.gens) s1 := by
  have sees : ∀ {b : Addr} {o : Obj}, s1.heap.get? b = some o → H b = none → (hidT s1.heap H).get? b = some o := fun z n => hidT_get z n
  have dicts : ∀ {b : Addr} {mm : Str → Option Value}, s1.heap.Ns b mm → (hidT s1.heap H).Ns b mm := by
    rintro b mm ⟨o, es, ep, z, dt, rest⟩
    refine ⟨o, es, ep, sees z ?_, dt, rest⟩
    cases hb : H b with
    | none => rfl
    | some u =>
      obtain ⟨⟨vs', n, is⟩, _⟩ := isl b u hb
      have := (is o z).symm.trans dt
      cases this
  have inB : K.In (hidT s1.heap H) := fun b o z => sees (inK b o z) (by
    cases hb : H b with
    | none => rfl
    | some u =>
      rw [(isl b u hb).2] at z
      cases z)
  have md : Mod K mg (hidT s1.heap H) := by
    obtain ⟨mc, n1, n2⟩ := nolim
    exact ⟨inB, dicts gl, ⟨mb, dicts bl, bb⟩, mc, dicts n1, n2⟩
  have en : Env0 P w K mg (hidT s1.heap H) callerA [] s1 H := ⟨rfl, md, fun b o z => of_hidT z, Nat.le_of_eq (hidT_size _ _), trivial, fun b z => (nomatch (show b ∈ ([] : List Addr) from z)), ok, .of_eq nog⟩
  refine codeAny_mono ((F _ inB (dicts gl)).go callerA [] s1 H ⟨[.ref a], []⟩ [.ref a] [.ref a] _ _ rm rfl en (bi s1 (.ref a)) (.cons rfl .nil) pr) fun r s2 z => ?_
  match r, z with
  | .error er, z => exact (nox er s2 z).elim
  | .ok .next, z => exact z.elim
  | .ok .brk, z => exact z.elim
  | .ok .cont, z => exact z.elim
  | .ok (.ret u), z =>
    obtain ⟨v, G, eos, bare, un, ok2, rel, ev⟩ := z
    have ev : v = .bl true := ev
    subst ev
    obtain rfl : u = Value.bool true := rel
    refine ⟨rfl, OldK.of_keep fun b o hb => ?_, eos, bare⟩
    cases hH : H b with
    | none => exact un.keep b o hb hH (fun z => (nomatch (show b ∈ ([] : List Addr) from z))) (by simp)
    | some u =>
      obtain ⟨ob, ys, rfl⟩ := frz b u hH
      have now := (ok2 b _ (un.frzs b ob _ hH)).1
      have was := (ok b _ hH).1
      exact (Option.some.inj (hb.symm.trans was)) ▸ now
theorem law_callG (inK : K.In s1.heap) (gl : s1.heap.Ns mainGlobals mg) (bl : s1.heap.Ns builtinsNs mb) (bb : ∀ y : Str, y ≠ "__name__" → mb y = bootBuiltins y) (nolim : s1.heap.NoLimit) (nog : s1.gens = #[])
    (ha : s1.heap.get? a = some { cls := .type "list", data := .seq vs.toArray }) (hi : IntsAre vs ns) (hl : ns.length ≤ sizeLine) (rm : Room k callerA)
    (F : ∀ base : Heap, K.In base → base.Ns mainGlobals mg → FnG P w K mg base CX k fa fd [x] sp) (bi : ∀ (s : Shared) (u : Value), BindsTo s fd ⟨[u], []⟩ [(x, u)])
    (pr : ∀ H : Hp, Only H → SqL K H a (ns.map V.int) → sp [.ref a] H (fun v _ => v = .bl true) fun _ _ _ => False) (nox : ∀ H e s2, CX [] H s1 (fun _ _ _ => False) e s2 → False) :
    codeAny (model P w) callerA (.call (.ref fa) ⟨[.ref a], []⟩) (fun r s2 => r = .ok (.ret (.bool true)) ∧ OldK s1.heap s2.heap ∧ s2.os = s1.os ∧ AllBare s2.gens) s1 := by
  have rel := vals_ints hi
  cases own : K.lookup a with
  | some o =>
    obtain rfl := Option.some.inj (ha.symm.trans (inK a o own))
    have no : ∀ {p : Prop} {u : HO}, (none : Option HO) = some u → p := fun z => nomatch z
    exact law_from (H := fun _ => none) inK gl bl bb nolim nog (fun b u z => no z) (fun b u z => no z) rm F bi (fun b u z => no z) (pr _ (fun _ => .inl rfl) (.inr ⟨_, vs.toArray, _, own, rfl, rfl, rfl, by rw [List.size_toArray, hi.length]; exact hl, by simpa using rel⟩)) (nox _)
  | none =>
    have one : ∀ {b : Addr} {u : HO}, (fun b => if b = a then some (.frz { cls := .type "list", data := .seq vs.toArray } (.lst (ns.map V.int))) else none : Hp) b = some u → b = a ∧ u = .frz { cls := .type "list", data := .seq vs.toArray } (.lst (ns.map V.int)) := fun {b u} z => by
      by_cases hb : b = a
      · exact ⟨hb, (Option.some.inj ((if_pos hb).symm.trans z)).symm⟩
      · exact nomatch (if_neg hb).symm.trans z
    refine law_from (H := fun b => if b = a then some (.frz { cls := .type "list", data := .seq vs.toArray } (.lst (ns.map V.int))) else none) inK gl bl bb nolim nog (fun b u z => ?_) (fun b u z => ⟨_, _, (one z).2⟩) rm F bi (fun b u z => ?_) (pr _ (fun b => ?_) (.inl (.inr ⟨_, if_pos rfl⟩))) (nox _)
    · obtain ⟨rfl, _⟩ := one z
      exact ⟨⟨_, _, fun o ho => by rw [← Option.some.inj (ha.symm.trans ho)]⟩, own⟩
    · obtain ⟨rfl, rfl⟩ := one z
      exact ⟨ha, by rw [List.length_map]; exact hl, vs, _, rel, ha⟩
    · by_cases hb : b = a
      · exact .inr ⟨_, _, if_pos hb⟩
      · exact .inl (if_neg hb)
end
theorem walk_G {l : PySem.W.OpenLaw} {n k : Nat} {q : Program} {loose : List Str} {XP : (Str → Option Value) → Heap → Prop} {YP : World → Heap → Prop} {d : DefRec} {K : Params → PySem.W.Frag} {CX : World → CXT} {sp : World → Sp} {x : Str}
    (hn : l.most = some n) (hn2 : n ≤ sizeLine) (hdf : d.params.defaults = []) (rm : Room k callerA) (hY : ∀ (w : World) (h : Heap), YP w h → (K w.params).In h)
    (F : ∀ (w : World) (mg : Str → Option Value) (fa : Addr) (h : Heap), (K w.params).In h → h.Ns mainGlobals mg → mg d.name = some (.ref fa) → ∃ fd : FuncData, (∀ (s : Shared) (u : Value), BindsTo s fd ⟨[u], []⟩ [(x, u)]) ∧ ∀ base : Heap, (K w.params).In base → base.Ns mainGlobals mg → FnG l.prog w (K w.params) mg base (CX w) k fa fd [x] (sp w))
    (pr : ∀ (w : World) (H : Hp) (a : Addr) (ns : List Int), ns.length ≤ n → Only H → SqL (K w.params) H a (ns.map V.int) → sp w [.ref a] H (fun v _ => v = .bl true) fun _ _ _ => False)
    (nox : ∀ (w : World) (H : Hp) (s : Shared) (e : Value) (s2 : Shared), CX w [] H s (fun _ _ _ => False) e s2 → False) : PySem.W.WalkO q loose XP YP l.row.toRowW d [] (fun f vs => PySem.call f vs) :=
  Att.attach_call hn hdf fun w _ s1 mg _ fa _ _ _ _ a _ ns G Y _ _ _ hmg hobj hints hlen hg => by
    obtain ⟨fd, hb, hF⟩ := F w mg fa _ (hY w _ Y) G.T.g hmg
    exact law_callG (hY w _ Y) G.T.g G.T.b G.T.builtins G.T.nolimit hg hobj hints (Nat.le_trans hlen hn2) rm hF hb (fun H hO hS => pr w H a ns hlen hO hS) fun H e s2 => nox w H s1 e s2
end KA
namespace KA
open PySem PySem.Spec PyProof.Rows L2
theorem cut_full {xs : List V} {lo hi : Option Int} (h : HT.sIx xs.length 0 lo = 0 ∧ HT.sIx xs.length xs.length hi = xs.length) : cutV xs lo hi = xs := by
  unfold cutV
  rw [h.1, h.2, List.drop_zero, Nat.sub_zero, List.take_of_length_le (Nat.le_refl _)]
/-- a part of a tuple, whichever -/
theorem sla_of {K : PySem.W.Frag} {a : Addr} {xs : List V} {lo hi : Option Int} {H : Hp} {Q : VK} (ha : H a = some (.tup xs)) (q : ∀ (H' : Hp) (p : Addr), Same H H' → H' p = some (.tup (cutV xs lo hi)) → Q (.ref p) H') : rSlA K (.ref a) lo hi H Q := by
  refine ⟨a, xs, rfl, .inl (.inl ha), fun h => q H a (Same.refl _) (by rw [cut_full h]; exact ha), fun _ p hp => q _ p (same_upd hp) upd_same⟩
/-- two tuples put together, whichever -/
theorem cata_of {K : PySem.W.Frag} {a b : Addr} {xs ys : List V} {H : Hp} {Q : VK} (ha : H a = some (.tup xs)) (hb : H b = some (.tup ys)) (hl : xs.length + ys.length ≤ sizeLine) (q : ∀ (H' : Hp) (p : Addr), Same H H' → H' p = some (.tup (xs ++ ys)) → Q (.ref p) H') : rCatA K (.ref a) (.ref b) H Q := by
  refine ⟨a, b, xs, ys, rfl, rfl, .inl (.inl ha), .inl (.inl hb), hl, fun h => ?_, fun _ h => ?_, fun _ _ p hp => q _ p (same_upd hp) upd_same⟩
  · subst h
    exact q H b (Same.refl _) hb
  · subst h
    exact q H a (Same.refl _) (by rw [List.append_nil]; exact ha)
/-- .. of a tuple wherever it stands -/
theorem sla_T {K : PySem.W.Frag} {a : Addr} {xs : List V} {lo hi : Option Int} {H : Hp} {Q : VK} (ha : SqT K H a xs) (q : ∀ (H' : Hp) (p : Addr), Same H H' → SqT K H' p (cutV xs lo hi) → Q (.ref p) H') : rSlA K (.ref a) lo hi H Q := by
  refine ⟨a, xs, rfl, ha, fun h => q H a (Same.refl _) (by rw [cut_full h]; exact ha), fun _ p hp => q _ p (same_upd hp) (.inl (.inl upd_same))⟩
theorem cata_T {K : PySem.W.Frag} {a b : Addr} {xs ys : List V} {H : Hp} {Q : VK} (ha : SqT K H a xs) (hb : SqT K H b ys) (hl : xs.length + ys.length ≤ sizeLine) (q : ∀ (H' : Hp) (p : Addr), Same H H' → SqT K H' p (xs ++ ys) → Q (.ref p) H') : rCatA K (.ref a) (.ref b) H Q := by
  refine ⟨a, b, xs, ys, rfl, rfl, ha, hb, hl, fun h => ?_, fun _ h => ?_, fun _ _ p hp => q _ p (same_upd hp) (.inl (.inl upd_same))⟩
  · subst h
    exact q H b (Same.refl _) hb
  · subst h
    exact q H a (Same.refl _) (by rw [List.append_nil]; exact ha)
end KA
namespace KA
open PySem PySem.Spec PyProof.Rows L2
/-- C(e, .., k = v) within a try: what it raises is told with the names as they stand -/
def tMakeNS (C : Addr) (n m : Nat) (sp : Sp) (gV : List V → List V → List V) (E : L2.St → XK) (t tk : TA) : TE := fun σ H Q => tMakeN C n m sp gV (E σ) t tk σ H Q
section
variable {X : Cx} {CX : CXT} {k n : Nat} {f C : Addr} {fd : FuncData} {ps ks : List Str} {sp : Sp} {E : L2.St → XK} {x : Str} {p pos : Pos} {e : Expr} {es : List Expr} {kws : List Keyword} {t tk : TA} {g : List Value → List Value → List Value} {gV : List V → List V → List V}
theorem pe_makeNS (M : Mk X.K C f) (F : FnOk X.prog X.w X.K X.mg X.base CX k f fd ps sp) (hr : Room (k + 1) X.A) (hg : Gl X x) (hm : X.mg x = some (.ref C)) (hb : KBn X.K fd ps (n + 1) ks g gV) (hx : ∀ σ, PassesAt CX X σ (E σ))
    (ha : PA X (e :: es) t) (hkw : PK X kws tk) (hall : (backToKw pos (keywordEach kws X.env)).all (·.1.isSome) = true := by rfl) (hks : (backToKw pos (keywordEach kws X.env)).filterMap (·.1) = ks := by rfl)
    (hdb : (x == ("__debug__" : Str)) = false := by decide) (he : starEach (e :: es) X.env = (false, eval e X.env) :: starEach es X.env := by rfl)
    (hpl : ((backTo pos (starEach (e :: es) X.env)).any (·.1) || (backToKw pos (keywordEach kws X.env)).any (·.1.isNone)) = false := by rfl) :
    PE X (.Call (.Name x p) (e :: es) kws pos) (tMakeNS C n ks.length sp gV E t tk) := by
  refine ⟨fun pins s σ H Q I h => ?_⟩
  refine wpAny_Call_Name_kw (ld_glob I hg hm ?_ hdb)
  refine PySem.W.callWith_KW (h₀ := X.base) I.ok.mod.kin M.kp hall (thn (ha.run pos pins s σ H _ I h) fun us s1 ⟨vs, H1, I1, r, q⟩ => ?_) hpl he
  refine thn (hkw.run pos pins s1 σ H1 _ I1 q) fun ws s2 ⟨zs, H2, I2, rz, l1, l2, q2⟩ => ⟨I2.kIn, ?_⟩
  rw [hks]
  have hq := q2 (s2.heap.objs.size + 1) s2.heap.objs.size (I2.hok.fresh (Nat.le_succ _)) (I2.hok.fresh (Nat.le_refl _)) (Nat.ne_of_lt (Nat.lt_succ_self _))
  have J := Inv.made (C := C) I2
  have r1 : Vals (V.ref (s2.heap.objs.size + 1) :: vs) (Value.ref (s2.heap.objs.size + 1) :: us) := .cons rfl r
  have e1 : (Value.ref (s2.heap.objs.size + 1) :: us).length = n + 1 := r1.length.symm.trans (congrArg Nat.succ l1)
  refine wpAny_call (make_map (f := f) I2.kIn M.makes M.init (beq_iff_eq.mp M.fn) (codeAny_mono (F.run _ X.stack _ _ ⟨Value.ref (s2.heap.objs.size + 1) :: us, ks.zip ws⟩ (g (Value.ref (s2.heap.objs.size + 1) :: us) ws) _ _ (E σ) (hr.make C us (ks.zip ws))
    (J.env0.make C us (ks.zip ws)) (hb.to _ (Value.ref (s2.heap.objs.size + 1) :: us) ws J.kIn e1 (rz.length.symm.trans l2)) (hb.rel r1 rz) hq) fun r s' hq' => ?_))
  match r, hq' with
  | .error er, hq' => exact hx σ pins _ _ er s' J hq'
  | .ok (.ret u), hq' =>
    obtain ⟨v, H', I3, rv, ev, q3⟩ := J.after hq'
    subst ev
    exact ⟨rv, ⟨V.ref (s2.heap.objs.size + 1), H', I3, rfl, q3⟩⟩
end
end KA
namespace KA
open PySem PySem.Spec PyProof.Rows L2
/-- C(e, ..) within a try: what it raises is told with the names as they stand -/
def tMakeT (C : Addr) (sp : Sp) (dvs : List V) (E : L2.St → XK) (t : TA) : TE := fun σ H Q => tMake C sp dvs (E σ) t σ H Q
section
variable {X : Cx} {CX : CXT} {k : Nat} {f C : Addr} {fd : FuncData} {ps : List Str} {ds : List Value} {dvs : List V} {sp : Sp} {E : L2.St → XK} {x : Str} {p pos : Pos} {e : Expr} {es : List Expr} {t : TA}
theorem pe_makeT (M : Mk X.K C f) (F : FnOk X.prog X.w X.K X.mg X.base CX k f fd ps sp) (hr : Room (k + 1) X.A) (hg : Gl X x) (hm : X.mg x = some (.ref C)) (hb : Binds X.K fd ps ds) (hd : Vals dvs ds) (hx : ∀ σ, PassesAt CX X σ (E σ))
    (ha : PA X (e :: es) t) (hdb : (x == ("__debug__" : Str)) = false := by decide) (he : starEach (e :: es) X.env = (false, eval e X.env) :: starEach es X.env := by rfl) (hpl : (backTo pos (starEach es X.env)).any (·.1) = false := by rfl) :
    PE X (.Call (.Name x p) (e :: es) [] pos) (tMakeT C sp dvs E t) := by
  refine ⟨fun pins s σ H Q I h => ?_⟩
  refine wpAny_Call_Name_kw (ld_glob I hg hm ?_ hdb)
  refine PySem.W.callWith_K (h₀ := X.base) I.ok.mod.kin M.kp (thn (ha.run pos pins s σ H _ I h) fun us s1 ⟨vs, H1, I1, r, q⟩ => ⟨I1.kIn, ?_⟩) he hpl
  have hq := q (s1.heap.objs.size + 1) s1.heap.objs.size (I1.hok.fresh (Nat.le_succ _)) (I1.hok.fresh (Nat.le_refl _)) (Nat.ne_of_lt (Nat.lt_succ_self _))
  have I2 := Inv.made (C := C) I1
  have r2 : Vals (V.ref (s1.heap.objs.size + 1) :: (vs ++ dvs)) (Value.ref (s1.heap.objs.size + 1) :: (us ++ ds)) := .cons rfl (r.append hd)
  have hl : (Value.ref (s1.heap.objs.size + 1) :: us ++ ds).length = ps.length := by
    have e := r2.length
    rw [F.len _ _ _ _ hq] at e
    exact e.symm
  refine wpAny_call (make_map (f := f) I1.kIn M.makes M.init (beq_iff_eq.mp M.fn) (codeAny_mono (F.run _ X.stack _ _ ⟨Value.ref (s1.heap.objs.size + 1) :: us, []⟩ (Value.ref (s1.heap.objs.size + 1) :: (us ++ ds)) _ _ (E σ) (hr.make C us [])
    (I2.env0.make C us []) (hb _ (Value.ref (s1.heap.objs.size + 1) :: us) I2.kIn hl) r2 hq) fun r s' hq' => ?_))
  match r, hq' with
  | .error er, hq' => exact hx σ pins _ _ er s' I2 hq'
  | .ok (.ret u), hq' =>
    obtain ⟨v, H', I3, rv, ev, q3⟩ := I2.after hq'
    subst ev
    exact ⟨rv, ⟨V.ref (s1.heap.objs.size + 1), H', I3, rfl, q3⟩⟩
end
end KA
namespace KA
open PySem PySem.Spec PySem.W PyProof.Rows
section
variable {prog : Program} {w : World} {A : Around} {E : Value → Shared → Prop} {s : Shared} {K : Frag} {x C f : Addr} {ox : Obj} {od : Option Obj}
theorem special_K {M : Model} {name : Str} {args : List Value} {Q : Option Value → Shared → Prop} (X : K.In s.heap) (I : InstAt s.heap x ox C od) (hs : findIn K (.ref C) name = some (some (.ref f))) (hf : isFn K (.ref f) = true)
    (h : wpAny M A (call (.ref f) (.ref x :: args)) (fun v => Q (some v)) E s) : wpAny M A (callSpecial? (.ref x) name args) Q E s := by
  unfold callSpecial? specialOf
  refine wpAny_bind (wpAny_bind (I.type.here ((looks_findIn X hs).here ?_)))
  refine wpAny_holding ?_
  have fin : wpAny M A (call (.ref f) ([.ref x] ++ args) >>= fun v => pure (some v)) Q E s := wpAny_bind (wpAny_mono h (fun v s' h' => wpAny_pure h') fun _ _ h' => h')
  exact wpAny_bind ((bind_fn X _ (beq_iff_eq.mp hf)).here (by exact fin))
theorem len_K {Q : Value → Shared → Prop} (X : K.In s.heap) (I : InstAt s.heap x ox C od) (hs : findIn K (.ref C) "__len__" = some (some (.ref f))) (hf : isFn K (.ref f) = true)
    (hcall : wpAny (model prog w) A.in1 (call (.ref f) [.ref x]) (fun r s' => ∃ n u, r = .int n u ∧ 0 ≤ n ∧ n < 2 ^ 63 ∧ Q (.int n s'.toks) { s' with toks := s'.toks + 1 }) E s) :
    wpAny (model prog w) A (call (.builtin "len") [.ref x]) Q E s := by
  refine Calls.call_function_entry kind_len plain_len entry_len (args_len1 _) ?_
  unfold Builtin.«len»
  refine wpAny_bind (m := oneArg "len" _) (wpAny_pure ?_)
  refine wpAny_bind (m := callSpecial? (.ref x) (Str.ofString "__len__")) (special_K X I hs hf (wpAny_mono hcall (fun r s' hr => ?_) fun _ _ y => y))
  obtain ⟨n, u, rfl, h0, h1, hq⟩ := hr
  refine wpAny_bind (wpAny_holding (wpAny_pure ?_))
  refine wpAny_bind (wpAny_letGo ?_)
  show wpAny _ _ (if n < 0 then _ else _) _ _ _
  rw [if_neg (by omega)]
  show wpAny _ _ (if n ≥ 2 ^ 63 then _ else _) _ _ _
  rw [if_neg (by omega)]
  exact wpAny_bind (wpAny_mkInt (wpAny_pure ⟨_, rfl, hq⟩))
end
end KA
namespace KA
open PySem PySem.Spec PyProof.Rows L2
section
variable {X : Cx} {n : Nat} {CX : CXT} {C f : Addr} {fd : FuncData} {ps : List Str} {sp : Sp} {E : XK}
theorem run_selfI {A : Around} {pins : List (Addr × Obj)} {σ : L2.St} {H : Hp} {s : Shared} {a : Addr} {Q : Int → Hp → Prop} (F : FnOk X.prog X.w X.K X.mg X.base CX n f fd ps sp) (hb : Binds X.K fd ps []) (hx : Passes CX X E) (hr : Room n A) (hA : A.frames = X.A.frames) (I : L2.Inv X pins σ H s)
    (hsp : sp [.ref a] H (fun v H' => ∃ i : Int, v = .int i ∧ 0 ≤ i ∧ i < 2 ^ 63 ∧ Q i H') E) : wpAny (model X.prog X.w) A (call (.ref f) [.ref a]) (fun r s' => ∃ i u, r = .int i u ∧ 0 ≤ i ∧ i < 2 ^ 63 ∧ ∃ H', L2.Inv X pins σ H' s' ∧ Q i H') X.xe s := by
  have e0 : Env0 X.prog X.w X.K X.mg X.base A X.stack s H := by
    have e := I.env0
    exact ⟨by rw [hA]; exact e.frames, e.mod, e.bs, e.bsz, e.funs, e.frf, e.hok, e.bare⟩
  have hl := F.len _ _ _ _ hsp
  have r2 : Vals [V.ref a] [Value.ref a] := .cons rfl .nil
  refine wpAny_call (codeAny_mono (F.run A X.stack s H ⟨[.ref a], []⟩ [.ref a] [.ref a] _ E hr e0 (by
    have := hb s [.ref a] I.kIn (by simpa using hl)
    simpa using this) r2 hsp) fun r s' hq => ?_)
  cases r with
  | error e => exact hx pins σ H s e s' I hq
  | ok fl =>
    cases fl with
    | ret w =>
      obtain ⟨z, H', I', rz, i, ez, h0, h1, q⟩ := I.after hq
      subst ez
      obtain ⟨tk, rfl⟩ := (show ∃ t, w = Value.int i t from rz)
      exact ⟨i, tk, rfl, h0, h1, H', I', q⟩
    | next => exact False.elim hq
    | brk => exact False.elim hq
    | cont => exact False.elim hq
/-- len(x): x an instance of the class at C, whose own __len__ keeps sp -/
def rLenO (C : Addr) (sp : Sp) (E : XK) : List V → Hp → VK → Prop := fun xs H Q => ∃ (a dx : Addr) (fs : List (Str × V)), xs = [.ref a] ∧ H a = some (.ins C dx fs) ∧ sp [.ref a] H (fun v H' => ∃ i : Int, v = .int i ∧ 0 ≤ i ∧ i < 2 ^ 63 ∧ Q (.int i) H') E
theorem call_lenO (F : FnOk X.prog X.w X.K X.mg X.base CX n f fd ps sp) (hs : PySem.W.findIn X.K (.ref C) "__len__" = some (some (.ref f))) (hf : PySem.W.isFn X.K (.ref f) = true) (hb : Binds X.K fd ps []) (hx : Passes CX X E) (hr : Room (n + 1) X.A) :
    CallR X (.builtin "len") (rLenO C sp E) := by
  intro pins s σ H xs us Q I r h
  obtain ⟨a, dx, fs, rfl, ha, hsp⟩ := h
  obtain ⟨u, rfl, r1⟩ := vals1 r
  cases (show u = Value.ref a from r1)
  obtain ⟨mA, J, _⟩ := ins_get I.hok ha
  obtain ⟨od, J, _⟩ := J.look
  refine len_K I.kIn J hs hf (wpAny_mono (run_selfI (Q := fun i H' => Q (.int i) H') F hb hx hr.in1 rfl I hsp) (fun r s' hr => ?_) fun _ _ y => y)
  obtain ⟨i, tk, rfl, h0, h1, H', I', q⟩ := hr
  exact ⟨i, tk, rfl, h0, h1, .int i, H', I'.tok _, ⟨_, rfl⟩, q⟩
end
end KA
namespace KA
open PySem PySem.Spec PySem.W PyProof.Rows
section
variable {prog : Program} {w : World} {A : Around} {E : Value → Shared → Prop} {s : Shared} {K : Frag} {x C f : Addr} {ox : Obj} {od : Option Obj}
theorem len_bodyK {Q : Value → Shared → Prop} (X : K.In s.heap) (I : InstAt s.heap x ox C od) (hs : findIn K (.ref C) "__len__" = some (some (.ref f))) (hf : isFn K (.ref f) = true)
    (hcall : wpAny (model prog w) A (call (.ref f) [.ref x]) (fun r s' => ∃ n u, r = .int n u ∧ 0 ≤ n ∧ n < 2 ^ 63 ∧ Q (.int n s'.toks) { s' with toks := s'.toks + 1 }) E s) :
    wpAny (model prog w) A (Builtin.«len» ⟨[.ref x], []⟩) (fun fin s' => ∃ v, fin = .done (.ret v) ∧ Q v s') E s := by
  unfold Builtin.«len»
  refine wpAny_bind (m := oneArg "len" _) (wpAny_pure ?_)
  refine wpAny_bind (m := callSpecial? (.ref x) (Str.ofString "__len__")) (special_K X I hs hf (wpAny_mono hcall (fun r s' hr => ?_) fun _ _ y => y))
  obtain ⟨n, u, rfl, h0, h1, hq⟩ := hr
  refine wpAny_bind (wpAny_holding (wpAny_pure ?_))
  refine wpAny_bind (wpAny_letGo ?_)
  show wpAny _ _ (if n < 0 then _ else _) _ _ _
  rw [if_neg (by omega)]
  show wpAny _ _ (if n ≥ 2 ^ 63 then _ else _) _ _ _
  rw [if_neg (by omega)]
  exact wpAny_bind (wpAny_mkInt (wpAny_pure ⟨_, rfl, hq⟩))
theorem truth_K {Q : Bool → Shared → Prop} (X : K.In s.heap) (I : InstAt s.heap x ox C od) (hb : findIn K (.ref C) "__bool__" = some none) (hs : findIn K (.ref C) "__len__" = some (some (.ref f))) (hf : isFn K (.ref f) = true)
    (hcall : wpAny (model prog w) A.in1 (call (.ref f) [.ref x]) (fun r s' => ∃ n u, r = .int n u ∧ 0 ≤ n ∧ n < 2 ^ 63 ∧ Q (n != 0) { s' with toks := s'.toks + 1 }) E s) :
    wpAny (model prog w) A (truthy (.ref x)) Q E s := by
  have key : wpAny (model prog w) A (runValue (.builtin "len" ⟨[.ref x], []⟩)) (fun r s' => ∃ n u, r = .int n u ∧ Q (n != 0) s') E s := by
    refine wpAny_runValue (codeAny_builtin entry_len ?_)
    rw [Around.under_plainId plain_len _]
    refine wpAny_mono (len_bodyK (Q := fun r s' => ∃ n u, r = .int n u ∧ Q (n != 0) s') X I hs hf (wpAny_mono hcall (fun r s' hr => ?_) fun _ _ y => y)) (fun fin s' h' => ?_) fun _ _ e => e
    · obtain ⟨n, u, rfl, h0, h1, hq⟩ := hr
      exact ⟨n, u, rfl, h0, h1, n, _, rfl, hq⟩
    · obtain ⟨r, rfl, hq⟩ := h'
      exact hq
  unfold truthy
  first
    | refine wpAny_bind (DSub.special_no X I hb ?_)
    | refine wpAny_bind (wpAny_pure (wpAny_bind (DSub.special_no X I hb ?_)))
  first
    | refine wpAny_bind (wpAny_bind (I.type.here ((looks_findIn X hs).here ?_)))
    | refine wpAny_bind (wpAny_pure (wpAny_bind (wpAny_bind (I.type.here ((looks_findIn X hs).here ?_)))))
  first
    | exact wpAny_bind (wpAny_mono key (fun r s' h' => by obtain ⟨n, u, rfl, hq⟩ := h'; exact wpAny_pure hq) fun _ _ e => e)
    | exact wpAny_bind (wpAny_pure (wpAny_bind (wpAny_mono key (fun r s' h' => by obtain ⟨n, u, rfl, hq⟩ := h'; exact wpAny_pure hq) fun _ _ e => e)))
    | exact (0 : Nat)
theorem bool_K {Q : Value → Shared → Prop} (X : K.In s.heap) (I : InstAt s.heap x ox C od) (hb : findIn K (.ref C) "__bool__" = some none) (hs : findIn K (.ref C) "__len__" = some (some (.ref f))) (hf : isFn K (.ref f) = true)
    (hcall : wpAny (model prog w) A.in1.in1.in1 (call (.ref f) [.ref x]) (fun r s' => ∃ n u, r = .int n u ∧ 0 ≤ n ∧ n < 2 ^ 63 ∧ Q (.bool (n != 0)) { s' with toks := s'.toks + 1 }) E s) :
    wpAny (model prog w) A (call (.type "bool") [.ref x]) Q E s := by
  refine callType_codes (T := "bool") (Bi := Builtin.«object.__init__») (Q₁ := fun r s₁ => ∃ b, r = .bool b ∧ Q r s₁) PySem.F.called_bool (PySem.F.typeCall_bool_1 _) PySem.F.entry_object_init ?_ ?_
  · refine codeAny_of_tree ?_
    show wpAny _ A.in1.in1 (do checkBuiltinCall "bool.__new__" ⟨[.type "bool", .ref x], []⟩; again (.builtin "bool.__new__" ⟨[.type "bool", .ref x], []⟩)) _ _ s
    refine wpAny_bind (wpAny_of_eq (PySem.F.newCall_bool_1 _) (wpAny_pure ⟨plainId_quiet (by decide +kernel) _, codeAny_builtin PySem.F.entry_bool_new ?_⟩))
    rw [Around.under_plainId (by decide +kernel) _]
    unfold Builtin.«bool.__new__»
    dsimp only
    refine wpAny_bind (wpAny_of_eq (show isType (.type "bool") = pure true by first | rfl | kernel_rfl) ?_)
    simp only [Bool.not_true, Bool.false_eq_true, if_false]
    refine wpAny_bind (wpAny_of_eq PySem.F.conv_sub_bool ?_)
    simp only [Bool.not_true, Bool.false_eq_true, if_false]
    refine wpAny_bind (wpAny_of_eq (show someArgs "bool" 0 1 ⟨[.ref x], []⟩ = pure [.ref x] by first | rfl | kernel_rfl) ?_)
    dsimp only
    refine wpAny_bind (truth_K X I hb hs hf (wpAny_mono hcall (fun r s' hr => ?_) fun _ _ y => y))
    obtain ⟨n, u, rfl, h0, h1, hq⟩ := hr
    exact ⟨n, u, rfl, h0, h1, wpAny_pure ⟨_, rfl, hq⟩⟩
  · rintro obj s₁ ⟨b, rfl, hq⟩
    exact ⟨rfl, PySem.F.args_object_init_2 _ _, object_init_meets PySem.F.called_bool.init.lookup PySem.F.called_bool.made (by decide) prog w A.in1 _ s₁ ⟨rfl, rfl, hq⟩⟩
end
end KA
namespace KA
open PySem PySem.Spec PyProof.Rows L2
section
variable {X : Cx} {n : Nat} {CX : CXT} {C f : Addr} {fd : FuncData} {ps : List Str} {sp : Sp} {E : XK}
/-- bool(x): x an instance of the class at C without __bool__, whose own __len__ keeps sp -/
def rBoolO (C : Addr) (sp : Sp) (E : XK) : List V → Hp → VK → Prop := fun xs H Q => ∃ (a dx : Addr) (fs : List (Str × V)), xs = [.ref a] ∧ H a = some (.ins C dx fs) ∧ sp [.ref a] H (fun v H' => ∃ i : Int, v = .int i ∧ 0 ≤ i ∧ i < 2 ^ 63 ∧ Q (.bl (i != 0)) H') E
theorem call_boolO (F : FnOk X.prog X.w X.K X.mg X.base CX n f fd ps sp) (hb0 : PySem.W.findIn X.K (.ref C) "__bool__" = some none) (hs : PySem.W.findIn X.K (.ref C) "__len__" = some (some (.ref f))) (hf : PySem.W.isFn X.K (.ref f) = true) (hb : Binds X.K fd ps []) (hx : Passes CX X E) (hr : Room (n + 3) X.A) :
    CallR X (.type "bool") (rBoolO C sp E) := by
  intro pins s σ H xs us Q I r h
  obtain ⟨a, dx, fs, rfl, ha, hsp⟩ := h
  obtain ⟨u, rfl, r1⟩ := vals1 r
  cases (show u = Value.ref a from r1)
  obtain ⟨mA, J, _⟩ := ins_get I.hok ha
  obtain ⟨od, J, _⟩ := J.look
  refine bool_K I.kIn J hb0 hs hf (wpAny_mono (run_selfI (Q := fun i H' => Q (.bl (i != 0)) H') F hb hx hr.in1.in1.in1 rfl I hsp) (fun r s' hr => ?_) fun _ _ y => y)
  obtain ⟨i, tk, rfl, h0, h1, H', I', q⟩ := hr
  exact ⟨i, tk, rfl, h0, h1, .bl (i != 0), H', I'.tok _, rfl, q⟩
end
end KA
namespace KA
open PySem PySem.Spec PySem.W PyProof.Rows
section
variable {prog : Program} {w : World} {A : Around} {E : Value → Shared → Prop} {s : Shared} {K : Frag} {x C f : Addr} {ox : Obj} {od : Option Obj}
theorem robj_K {Q : Value → Shared → Prop} (hu : A.units < cLine) (X : K.In s.heap) (I : InstAt s.heap x ox C od) (hs : findIn K (.ref C) "__repr__" = some (some (.ref f))) (hf : isFn K (.ref f) = true)
    (hcall : wpAny (model prog w) A (call (.ref f) [.ref x]) (fun r s' => ∃ m tk, r = .str m tk ∧ Q (.str m tk) s') E s) :
    wpAny (model prog w) A (pyReprObj (.ref x)) Q E s := by
  unfold pyReprObj
  refine wpAny_bind (wpAny_cRoomFor hu ?_)
  refine wpAny_bind (wpAny_bind (I.type.here ((looks_findIn X hs).here ?_)))
  show wpAny _ _ (if (some (Value.ref f)).isNone = true then _ else _) _ _ _
  rw [if_neg (by simp)]
  refine wpAny_bind (m := callSpecialIfBound? (.ref x) (Str.ofString "__repr__") _) (ifBound_K X I hs hf (wpAny_mono hcall (fun r s' hr => ?_) fun _ _ y => y))
  obtain ⟨m, tk, rfl, hq⟩ := hr
  refine wpAny_bind (wpAny_isInstance (typeIs_str _ _ _) isSubtype_str_str ?_)
  first
    | exact wpAny_pure hq
    | (rw [if_pos rfl]; exact wpAny_pure hq)
    | (simp only [if_true]; exact wpAny_pure hq)
end
end KA
namespace KA
open PySem PySem.Spec PyProof.Rows L2
section
variable {X : Cx} {n : Nat} {CX : CXT} {C f : Addr} {fd : FuncData} {ps : List Str} {sp : Sp} {E : XK}
/-- {x!r}, x an instance of the class at C, whose own __repr__ keeps sp -/
def tFmtRO (C : Addr) (sp : Sp) (E : XK) (te : TE) : TE := fun σ H Q => te σ H fun x H1 => ∃ (a dx : Addr) (fs : List (Str × V)), x = .ref a ∧ H1 a = some (.ins C dx fs) ∧ sp [.ref a] H1 (fun v H' => (∃ m, v = .str m) ∧ (∃ m : Str, v = .str m ∧ m.length ≤ sizeLine) ∧ Q v H') E
theorem pe_fmtRO {e : Expr} {te : TE} {pos : Pos} (F : FnOk X.prog X.w X.K X.mg X.base CX n f fd ps sp) (hs : PySem.W.findIn X.K (.ref C) "__repr__" = some (some (.ref f))) (hf : PySem.W.isFn X.K (.ref f) = true) (hb : Binds X.K fd ps []) (hx : Passes CX X E) (hr : Room n X.A) (he : PE X e te) :
    PE X (.FormattedValue e 114 none pos) (tFmtRO C sp E te) := by
  refine ⟨fun pins s σ H Q I h => ?_⟩
  refine wpAny_FormattedValue_repr (thn (he.run pins s σ H _ I h) fun v s1 ⟨x, H1, I1, r1, k⟩ => ?_)
  obtain ⟨a, dx, fs, ex, ha, hsp⟩ := k
  cases ex
  cases (show v = Value.ref a from r1)
  obtain ⟨mA, J, _⟩ := ins_get I1.hok ha
  obtain ⟨od, J, _⟩ := J.look
  refine robj_K hr.units0 I1.kIn J hs hf (wpAny_mono (run_self F hb hx hr rfl I1 hsp) (fun r s' hr => ?_) fun _ _ y => y)
  obtain ⟨m, tk, rfl, v, H', I', rv, ⟨m', ev, hz⟩, q⟩ := hr
  subst ev
  obtain ⟨tk2, e⟩ := (show ∃ y, Value.str m tk = Value.str m' y from rv)
  cases e
  exact ⟨m, tk, rfl, wpAny_formatField_str ⟨.str m, H', I', ⟨_, rfl⟩, q⟩ ⟨.str m, H', I'.tok _, ⟨_, rfl⟩, q⟩ hz⟩
end
end KA
namespace KA
open PySem PySem.Spec PyProof.Rows L2
section
variable {X : Cx} {n : Nat} {CX : CXT} {C f : Addr} {fd : FuncData} {ps : List Str} {sp : Sp} {E : XK}
theorem run_selfG {A : Around} {pins : List (Addr × Obj)} {σ : L2.St} {H : Hp} {s : Shared} {a : Addr} {Q : VK} (F : FnG X.prog X.w X.K X.mg X.base CX n f fd ps sp) (hb : Binds X.K fd ps []) (hx : Passes CX X E) (hr : Room n A) (gd : A.guards = some []) (hA : A.frames = X.A.frames) (I : L2.Inv X pins σ H s)
    (hsp : sp [.ref a] H (fun v H' => (∃ m, v = .str m) ∧ Q v H') E) : wpAny (model X.prog X.w) A (call (.ref f) [.ref a]) (fun r s' => ∃ m tk, r = .str m tk ∧ EP X pins σ Q (.str m tk) s') X.xe s := by
  have e0 : Env0 X.prog X.w X.K X.mg X.base A X.stack s H := by
    have e := I.env0
    exact ⟨by rw [hA]; exact e.frames, e.mod, e.bs, e.bsz, e.funs, e.frf, e.hok, e.bare⟩
  have hl := F.ln _ _ _ _ hsp
  have r2 : Vals [V.ref a] [Value.ref a] := .cons rfl .nil
  refine wpAny_call (codeAny_mono (F.go A X.stack s H ⟨[.ref a], []⟩ [.ref a] [.ref a] _ E hr gd e0 (by
    have := hb s [.ref a] I.kIn (by simpa using hl)
    simpa using this) r2 hsp) fun r s' hq => ?_)
  cases r with
  | error e => exact hx pins σ H s e s' I hq
  | ok fl =>
    cases fl with
    | ret w =>
      obtain ⟨z, H', I', rz, ⟨m, ez⟩, q⟩ := I.after hq
      subst ez
      obtain ⟨tk, rfl⟩ := (show ∃ t, w = Value.str m t from rz)
      exact ⟨m, tk, rfl, .str m, H', I', ⟨tk, rfl⟩, q⟩
    | next => exact False.elim hq
    | brk => exact False.elim hq
    | cont => exact False.elim hq
/-- repr(x), x of an own class whose __repr__ wants that nothing is being shown -/
theorem call_reprOG (F : FnG X.prog X.w X.K X.mg X.base CX n f fd ps sp) (hs : PySem.W.findIn X.K (.ref C) "__repr__" = some (some (.ref f))) (hf : PySem.W.isFn X.K (.ref f) = true) (hb : Binds X.K fd ps []) (hx : Passes CX X E) (hr : Room (n + 1) X.A) (gd : X.A.guards = some []) :
    CallR X (.builtin "repr") (rShow C sp E) := by
  intro pins s σ H xs us Q I r h
  obtain ⟨a, dx, fs, rfl, ha, hsp⟩ := h
  obtain ⟨u, rfl, r1⟩ := vals1 r
  cases (show u = Value.ref a from r1)
  obtain ⟨mA, J, _⟩ := ins_get I.hok ha
  obtain ⟨od, J, _⟩ := J.look
  exact repr_K hr.in1.units0 I.kIn J hs hf (run_selfG F hb hx hr.in1 gd rfl I hsp)
end
end KA
namespace KB
open PySem PySem.Spec PyProof.Rows L2 KA
def topS (i : Nat) : Stmt := PySem.Challenge.pw_pearlrise_k23_whole_strings_told_and_sho.main.body.getD i (.Pass ⟨0, 0, 0, 0⟩)
abbrev s__wall : Stmt := topS 0
theorem sc__wall : FnScope ["k"] ["k"] (defScope s__wall) := ⟨rfl, rfl, rfl, by decide +kernel, rfl, by decide +kernel, by decide +kernel⟩
abbrev s_PearlError_init : Stmt := inClass (topS 2) 0
theorem sc_PearlError_init : FnScope ["self", "why"] ["self", "why"] (defScope s_PearlError_init) := ⟨rfl, rfl, rfl, by decide +kernel, rfl, by decide +kernel, by decide +kernel⟩
abbrev s_NotLet_init : Stmt := inClass (topS 5) 0
theorem sc_NotLet_init : FnScope ["self", "at", "why"] ["self", "at", "why"] (defScope s_NotLet_init) := ⟨rfl, rfl, rfl, by decide +kernel, rfl, by decide +kernel, by decide +kernel⟩
abbrev s_is_int : Stmt := topS 11
theorem sc_is_int : FnScope ["thing"] ["thing"] (defScope s_is_int) := ⟨rfl, rfl, rfl, by decide +kernel, rfl, by decide +kernel, by decide +kernel⟩
abbrev s_is_whole : Stmt := topS 12
theorem sc_is_whole : FnScope ["thing", "least", "most"] ["thing", "least", "most"] (defScope s_is_whole) := ⟨rfl, rfl, rfl, by decide +kernel, rfl, by decide +kernel, by decide +kernel⟩
abbrev s_is_from_nought : Stmt := topS 13
theorem sc_is_from_nought : FnScope ["thing"] ["thing"] (defScope s_is_from_nought) := ⟨rfl, rfl, rfl, by decide +kernel, rfl, by decide +kernel, by decide +kernel⟩
abbrev s_is_name : Stmt := topS 14
theorem sc_is_name : FnScope ["thing", "sign"] ["thing"] (defScope s_is_name) := ⟨rfl, rfl, rfl, by decide +kernel, rfl, by decide +kernel, by decide +kernel⟩
abbrev s_is_number : Stmt := topS 15
theorem sc_is_number : FnScope ["thing"] ["thing"] (defScope s_is_number) := ⟨rfl, rfl, rfl, by decide +kernel, rfl, by decide +kernel, by decide +kernel⟩
abbrev s_figures : Stmt := topS 16
theorem sc_figures : FnScope ["number", "groups", "rest", "group"] ["number"] (defScope s_figures) := ⟨rfl, rfl, rfl, by decide +kernel, rfl, by decide +kernel, by decide +kernel⟩
abbrev s_Rule_init : Stmt := inClass (topS 18) 0
theorem sc_Rule_init : FnScope ["self", "least", "most", "match", "shades"] ["self", "least", "most", "match", "shades"] (defScope s_Rule_init) := ⟨rfl, rfl, rfl, by decide +kernel, rfl, by decide +kernel, by decide +kernel⟩
abbrev s_Rule_eq : Stmt := inClass (topS 18) 1
theorem sc_Rule_eq : FnScope ["self", "other"] ["self", "other"] (defScope s_Rule_eq) := ⟨rfl, rfl, rfl, by decide +kernel, rfl, by decide +kernel, by decide +kernel⟩
abbrev s_Rule_repr : Stmt := inClass (topS 18) 2
theorem sc_Rule_repr : FnScope ["self", "parts"] ["self"] (defScope s_Rule_repr) := ⟨rfl, rfl, rfl, by decide +kernel, rfl, by decide +kernel, by decide +kernel⟩
abbrev s_stands_ahead : Stmt := topS 19
theorem sc_stands_ahead : FnScope ["beads", "at", "number", "bead"] ["beads", "at"] (defScope s_stands_ahead) := ⟨rfl, rfl, rfl, by decide +kernel, rfl, by decide +kernel, by decide +kernel⟩
abbrev s_breaks_step : Stmt := topS 20
theorem sc_breaks_step : FnScope ["beads", "at", "rule", "rise"] ["beads", "at", "rule"] (defScope s_breaks_step) := ⟨rfl, rfl, rfl, by decide +kernel, rfl, by decide +kernel, by decide +kernel⟩
abbrev s_partner_of : Stmt := topS 21
theorem sc_partner_of : FnScope ["beads", "at"] ["beads", "at"] (defScope s_partner_of) := ⟨rfl, rfl, rfl, by decide +kernel, rfl, by decide +kernel, by decide +kernel⟩
abbrev s_same_look : Stmt := topS 22
theorem sc_same_look : FnScope ["bead", "other"] ["bead", "other"] (defScope s_same_look) := ⟨rfl, rfl, rfl, by decide +kernel, rfl, by decide +kernel, by decide +kernel⟩
abbrev s_reason_at : Stmt := topS 23
theorem sc_reason_at : FnScope ["beads", "at", "rule", "bead", "partner"] ["beads", "at", "rule"] (defScope s_reason_at) := ⟨rfl, rfl, rfl, by decide +kernel, rfl, by decide +kernel, by decide +kernel⟩
abbrev s_barred : Stmt := topS 24
theorem sc_barred : FnScope ["beads", "rule", "at", "bead", "reason"] ["beads", "rule"] (defScope s_barred) := ⟨rfl, rfl, rfl, by decide +kernel, rfl, by decide +kernel, by decide +kernel⟩
abbrev s_String_init : Stmt := inClass (topS 26) 0
theorem sc_String_init : FnScope ["self", "beads", "rule", "found"] ["self", "beads", "rule"] (defScope s_String_init) := ⟨rfl, rfl, rfl, by decide +kernel, rfl, by decide +kernel, by decide +kernel⟩
abbrev s_String_beads : Stmt := inClass (topS 26) 1
theorem sc_String_beads : FnScope ["self"] ["self"] (defScope s_String_beads) := ⟨rfl, rfl, rfl, by decide +kernel, rfl, by decide +kernel, by decide +kernel⟩
abbrev s_String_gaps : Stmt := inClass (topS 26) 2
theorem sc_String_gaps : FnScope ["self", "at", "bead"] ["self"] (defScope s_String_gaps) := ⟨rfl, rfl, rfl, by decide +kernel, rfl, by decide +kernel, by decide +kernel⟩
abbrev s_String_turned : Stmt := inClass (topS 26) 3
theorem sc_String_turned : FnScope ["self"] ["self"] (defScope s_String_turned) := ⟨rfl, rfl, rfl, by decide +kernel, rfl, by decide +kernel, by decide +kernel⟩
abbrev s_String_filled : Stmt := inClass (topS 26) 4
theorem sc_String_filled : FnScope ["self", "at", "bead"] ["self", "at", "bead"] (defScope s_String_filled) := ⟨rfl, rfl, rfl, by decide +kernel, rfl, by decide +kernel, by decide +kernel⟩
abbrev s_String_emptied : Stmt := inClass (topS 26) 5
theorem sc_String_emptied : FnScope ["self", "at"] ["self", "at"] (defScope s_String_emptied) := ⟨rfl, rfl, rfl, by decide +kernel, rfl, by decide +kernel, by decide +kernel⟩
abbrev s_String_changed_at : Stmt := inClass (topS 26) 6
theorem sc_String_changed_at : FnScope ["self", "at", "bead"] ["self", "at", "bead"] (defScope s_String_changed_at) := ⟨rfl, rfl, rfl, by decide +kernel, rfl, by decide +kernel, by decide +kernel⟩
abbrev s_String_len : Stmt := inClass (topS 26) 7
theorem sc_String_len : FnScope ["self"] ["self"] (defScope s_String_len) := ⟨rfl, rfl, rfl, by decide +kernel, rfl, by decide +kernel, by decide +kernel⟩
abbrev s_String_eq : Stmt := inClass (topS 26) 8
theorem sc_String_eq : FnScope ["self", "other"] ["self", "other"] (defScope s_String_eq) := ⟨rfl, rfl, rfl, by decide +kernel, rfl, by decide +kernel, by decide +kernel⟩
abbrev s_String_repr : Stmt := inClass (topS 26) 9
theorem sc_String_repr : FnScope ["self"] ["self"] (defScope s_String_repr) := ⟨rfl, rfl, rfl, by decide +kernel, rfl, by decide +kernel, by decide +kernel⟩
abbrev s_String_str : Stmt := inClass (topS 26) 10
theorem sc_String_str : FnScope ["self", "bead"] ["self"] (defScope s_String_str) := ⟨rfl, rfl, rfl, by decide +kernel, rfl, by decide +kernel, by decide +kernel⟩
abbrev s_is_measure : Stmt := topS 29
theorem sc_is_measure : FnScope ["thing"] ["thing"] (defScope s_is_measure) := ⟨rfl, rfl, rfl, by decide +kernel, rfl, by decide +kernel, by decide +kernel⟩
abbrev s_Bead_init : Stmt := inClass (topS 30) 0
theorem sc_Bead_init : FnScope ["self", "number", "across", "weight", "shade", "form", "drilled"] ["self", "number", "across", "weight", "shade", "form", "drilled"] (defScope s_Bead_init) := ⟨rfl, rfl, rfl, by decide +kernel, rfl, by decide +kernel, by decide +kernel⟩
abbrev s_Bead_row : Stmt := inClass (topS 30) 1
theorem sc_Bead_row : FnScope ["self"] ["self"] (defScope s_Bead_row) := ⟨rfl, rfl, rfl, by decide +kernel, rfl, by decide +kernel, by decide +kernel⟩
abbrev s_Bead_key : Stmt := inClass (topS 30) 2
theorem sc_Bead_key : FnScope ["self"] ["self"] (defScope s_Bead_key) := ⟨rfl, rfl, rfl, by decide +kernel, rfl, by decide +kernel, by decide +kernel⟩
abbrev s_Bead_eq : Stmt := inClass (topS 30) 3
theorem sc_Bead_eq : FnScope ["self", "other"] ["self", "other"] (defScope s_Bead_eq) := ⟨rfl, rfl, rfl, by decide +kernel, rfl, by decide +kernel, by decide +kernel⟩
abbrev s_Bead_repr : Stmt := inClass (topS 30) 4
theorem sc_Bead_repr : FnScope ["self", "parts"] ["self"] (defScope s_Bead_repr) := ⟨rfl, rfl, rfl, by decide +kernel, rfl, by decide +kernel, by decide +kernel⟩
abbrev s_Bead_str : Stmt := inClass (topS 30) 5
theorem sc_Bead_str : FnScope ["self"] ["self"] (defScope s_Bead_str) := ⟨rfl, rfl, rfl, by decide +kernel, rfl, by decide +kernel, by decide +kernel⟩
abbrev s_cell_at : Stmt := topS 32
theorem sc_cell_at : FnScope ["_law_script", "_law_k"] ["_law_script", "_law_k"] (defScope s_cell_at) := ⟨rfl, rfl, rfl, by decide +kernel, rfl, by decide +kernel, by decide +kernel⟩
abbrev s_well : Stmt := topS 33
theorem sc_well : FnScope ["_law_cell"] ["_law_cell"] (defScope s_well) := ⟨rfl, rfl, rfl, by decide +kernel, rfl, by decide +kernel, by decide +kernel⟩
abbrev s_draw : Stmt := topS 34
theorem sc_draw : FnScope ["_law_well_here", "_law_many", "_law_found", "_law_salt", "_law_number"] ["_law_well_here", "_law_many"] (defScope s_draw) := ⟨rfl, rfl, rfl, by decide +kernel, rfl, by decide +kernel, by decide +kernel⟩
abbrev s_one : Stmt := topS 35
theorem sc_one : FnScope ["_law_well_here", "_law_some"] ["_law_well_here", "_law_some"] (defScope s_one) := ⟨rfl, rfl, rfl, by decide +kernel, rfl, by decide +kernel, by decide +kernel⟩
abbrev s_word : Stmt := topS 36
theorem sc_word : FnScope ["_law_well_here", "_law_k"] ["_law_well_here"] (defScope s_word) := ⟨rfl, rfl, rfl, by decide +kernel, rfl, by decide +kernel, by decide +kernel⟩
abbrev s_rule : Stmt := topS 37
theorem sc_rule : FnScope ["_law_well_here", "_law_low", "_law_top", "_law_far"] ["_law_well_here"] (defScope s_rule) := ⟨rfl, rfl, rfl, by decide +kernel, rfl, by decide +kernel, by decide +kernel⟩
abbrev s_near : Stmt := topS 38
theorem sc_near : FnScope ["_law_well_here", "_law_low", "_law_top", "_law_wide"] ["_law_well_here", "_law_low", "_law_top"] (defScope s_near) := ⟨rfl, rfl, rfl, by decide +kernel, rfl, by decide +kernel, by decide +kernel⟩
abbrev s_across : Stmt := topS 39
theorem sc_across : FnScope ["_law_well_here", "_law_places", "_law_rule_here", "_law_left", "_law_right_here", "_law_k"] ["_law_well_here", "_law_places", "_law_rule_here"] (defScope s_across) := ⟨rfl, rfl, rfl, by decide +kernel, rfl, by decide +kernel, by decide +kernel⟩
abbrev s_rows : Stmt := topS 40
theorem sc_rows : FnScope ["_law_well_here", "_law_places", "_law_rule_here", "_law_looks", "_law_found", "_law_k", "_law_across_here", "_law_number", "_law_look"] ["_law_well_here", "_law_places", "_law_rule_here"] (defScope s_rows) := ⟨rfl, rfl, rfl, by decide +kernel, rfl, by decide +kernel, by decide +kernel⟩
abbrev s_bead : Stmt := topS 41
theorem sc_bead : FnScope ["_law_row"] ["_law_row"] (defScope s_bead) := ⟨rfl, rfl, rfl, by decide +kernel, rfl, by decide +kernel, by decide +kernel⟩
abbrev s_clean : Stmt := topS 42
theorem sc_clean : FnScope ["_law_well_here", "_law_places", "_law_four", "_law_looks", "_law_found", "_law_k", "_law_across_here"] ["_law_well_here", "_law_places", "_law_four"] (defScope s_clean) := ⟨rfl, rfl, rfl, by decide +kernel, rfl, by decide +kernel, by decide +kernel⟩
abbrev s_step_bars : Stmt := topS 43
theorem sc_step_bars : FnScope ["_law_rows_here", "_law_rule_here", "_law_at", "_law_more"] ["_law_rows_here", "_law_rule_here", "_law_at"] (defScope s_step_bars) := ⟨rfl, rfl, rfl, by decide +kernel, rfl, by decide +kernel, by decide +kernel⟩
abbrev s_why : Stmt := topS 44
theorem sc_why : FnScope ["_law_rows_here", "_law_rule_here", "_law_at", "_law_partner", "_law_row"] ["_law_rows_here", "_law_rule_here"] (defScope s_why) := ⟨rfl, rfl, rfl, by decide +kernel, rfl, by decide +kernel, by decide +kernel⟩
abbrev s_made : Stmt := topS 45
theorem sc_made : FnScope ["_law_beads", "_law_rule_here", "_law_found", "e"] ["_law_beads", "_law_rule_here"] (defScope s_made) := ⟨rfl, rfl, rfl, by decide +kernel, rfl, by decide +kernel, by decide +kernel⟩
abbrev s_shown : Stmt := topS 46
theorem sc_shown : FnScope ["_law_row", "_law_number", "_law_across_here", "_law_weight", "_law_text", "_law_more"] ["_law_row"] (defScope s_shown) := ⟨rfl, rfl, rfl, by decide +kernel, rfl, by decide +kernel, by decide +kernel⟩
abbrev s_right : Stmt := topS 47
theorem sc_right : FnScope ["_law_string", "_law_rows_here", "_law_four", "_law_shown_here", "_law_told", "_law_gaps", "_law_text", "_law_row", "_law_at", "_law_bead_here", "_law_one_here"] ["_law_string", "_law_rows_here", "_law_four"] (defScope s_right) := ⟨rfl, rfl, rfl, by decide +kernel, rfl, by decide +kernel, by decide +kernel⟩
abbrev s_plain : Stmt := topS 48
theorem sc_plain : FnScope ["_law_rows_here", "_law_row"] ["_law_rows_here"] (defScope s_plain) := ⟨rfl, rfl, rfl, by decide +kernel, rfl, by decide +kernel, by decide +kernel⟩
abbrev s_others : Stmt := topS 49
theorem sc_others : FnScope ["_law_well_here", "_law_rows_here", "_law_four", "_law_found", "_law_at", "_law_row", "_law_odd", "_law_one_here"] ["_law_well_here", "_law_rows_here", "_law_four"] (defScope s_others) := ⟨rfl, rfl, rfl, by decide +kernel, rfl, by decide +kernel, by decide +kernel⟩
abbrev s_law : Stmt := topS 50
theorem sc_law : FnScope ["_law_script", "_law_cell", "_law_well_here", "_law_four", "_law_rows_here", "_law_beads", "_law_due", "_law_found", "_law_other", "_law_rule_here", "_law_two", "_law_alike", "_law_row"] ["_law_script"] (defScope s_law) := ⟨rfl, rfl, rfl, by decide +kernel, rfl, by decide +kernel, by decide +kernel⟩
structure Tx (K : PySem.W.Frag) (mg : Str → Option Value) : Type where
  C_Bead : Addr
  cl_Bead : Cls K C_Bead
  g_Bead : mg "Bead" = some (.ref C_Bead)
  n_Bead_number : NoAttr K C_Bead "number"
  n_Bead_across : NoAttr K C_Bead "across"
  n_Bead_weight : NoAttr K C_Bead "weight"
  n_Bead_shade : NoAttr K C_Bead "shade"
  n_Bead_form : NoAttr K C_Bead "form"
  n_Bead_drilled : NoAttr K C_Bead "drilled"
  C_Rule : Addr
  cl_Rule : Cls K C_Rule
  g_Rule : mg "Rule" = some (.ref C_Rule)
  n_Rule_least : NoAttr K C_Rule "least"
  n_Rule_most : NoAttr K C_Rule "most"
  n_Rule_match : NoAttr K C_Rule "match"
  n_Rule_shades : NoAttr K C_Rule "shades"
  C_String : Addr
  cl_String : Cls K C_String
  g_String : mg "String" = some (.ref C_String)
  n_String_held : NoAttr K C_String "held"
  n_String_rule : NoAttr K C_String "rule"
  A_PearlError_init : Addr
  fd_PearlError_init : FuncData
  F_PearlError_init : FunD K "__init__" "PearlError.__init__" (defArgs s_PearlError_init) (defBody s_PearlError_init) (defScope s_PearlError_init) [.str ""] [] A_PearlError_init fd_PearlError_init
  b_PearlError_init : Binds K fd_PearlError_init ["self", "why"] []
  A_NotLet_init : Addr
  fd_NotLet_init : FuncData
  F_NotLet_init : Fun K "__init__" "NotLet.__init__" s_NotLet_init A_NotLet_init fd_NotLet_init
  b_NotLet_init : Binds K fd_NotLet_init ["self", "at", "why"] []
  A_is_int : Addr
  fd_is_int : FuncData
  F_is_int : Fun K "is_int" "is_int" s_is_int A_is_int fd_is_int
  g_is_int : mg "is_int" = some (.ref A_is_int)
  b_is_int : Binds K fd_is_int ["thing"] []
  A_is_whole : Addr
  fd_is_whole : FuncData
  F_is_whole : Fun K "is_whole" "is_whole" s_is_whole A_is_whole fd_is_whole
  g_is_whole : mg "is_whole" = some (.ref A_is_whole)
  b_is_whole : Binds K fd_is_whole ["thing", "least", "most"] []
  A_is_from_nought : Addr
  fd_is_from_nought : FuncData
  F_is_from_nought : Fun K "is_from_nought" "is_from_nought" s_is_from_nought A_is_from_nought fd_is_from_nought
  g_is_from_nought : mg "is_from_nought" = some (.ref A_is_from_nought)
  b_is_from_nought : Binds K fd_is_from_nought ["thing"] []
  A_is_name : Addr
  fd_is_name : FuncData
  F_is_name : Fun K "is_name" "is_name" s_is_name A_is_name fd_is_name
  g_is_name : mg "is_name" = some (.ref A_is_name)
  b_is_name : Binds K fd_is_name ["thing"] []
  A_is_number : Addr
  fd_is_number : FuncData
  F_is_number : Fun K "is_number" "is_number" s_is_number A_is_number fd_is_number
  g_is_number : mg "is_number" = some (.ref A_is_number)
  b_is_number : Binds K fd_is_number ["thing"] []
  A_figures : Addr
  fd_figures : FuncData
  F_figures : Fun K "figures" "figures" s_figures A_figures fd_figures
  g_figures : mg "figures" = some (.ref A_figures)
  b_figures : Binds K fd_figures ["number"] []
  A_Rule_init : Addr
  fd_Rule_init : FuncData
  F_Rule_init : FunD K "__init__" "Rule.__init__" (defArgs s_Rule_init) (defBody s_Rule_init) (defScope s_Rule_init) [.int 0, .int 10, .int 0, .bl true] [] A_Rule_init fd_Rule_init
  mk_Rule : Mk K C_Rule A_Rule_init
  b_Rule_init : Binds K fd_Rule_init ["self", "least", "most", "match", "shades"] []
  A_Rule_eq : Addr
  fd_Rule_eq : FuncData
  F_Rule_eq : Fun K "__eq__" "Rule.__eq__" s_Rule_eq A_Rule_eq fd_Rule_eq
  m_Rule_eq : Meth K C_Rule "__eq__" A_Rule_eq
  b_Rule_eq : Binds K fd_Rule_eq ["self", "other"] []
  A_Rule_repr : Addr
  fd_Rule_repr : FuncData
  F_Rule_repr : Fun K "__repr__" "Rule.__repr__" s_Rule_repr A_Rule_repr fd_Rule_repr
  m_Rule_repr : Meth K C_Rule "__repr__" A_Rule_repr
  b_Rule_repr : Binds K fd_Rule_repr ["self"] []
  A_stands_ahead : Addr
  fd_stands_ahead : FuncData
  F_stands_ahead : Fun K "stands_ahead" "stands_ahead" s_stands_ahead A_stands_ahead fd_stands_ahead
  g_stands_ahead : mg "stands_ahead" = some (.ref A_stands_ahead)
  b_stands_ahead : Binds K fd_stands_ahead ["beads", "at"] []
  A_breaks_step : Addr
  fd_breaks_step : FuncData
  F_breaks_step : Fun K "breaks_step" "breaks_step" s_breaks_step A_breaks_step fd_breaks_step
  g_breaks_step : mg "breaks_step" = some (.ref A_breaks_step)
  b_breaks_step : Binds K fd_breaks_step ["beads", "at", "rule"] []
  A_partner_of : Addr
  fd_partner_of : FuncData
  F_partner_of : Fun K "partner_of" "partner_of" s_partner_of A_partner_of fd_partner_of
  g_partner_of : mg "partner_of" = some (.ref A_partner_of)
  b_partner_of : Binds K fd_partner_of ["beads", "at"] []
  A_same_look : Addr
  fd_same_look : FuncData
  F_same_look : Fun K "same_look" "same_look" s_same_look A_same_look fd_same_look
  g_same_look : mg "same_look" = some (.ref A_same_look)
  b_same_look : Binds K fd_same_look ["bead", "other"] []
  A_reason_at : Addr
  fd_reason_at : FuncData
  F_reason_at : Fun K "reason_at" "reason_at" s_reason_at A_reason_at fd_reason_at
  g_reason_at : mg "reason_at" = some (.ref A_reason_at)
  b_reason_at : Binds K fd_reason_at ["beads", "at", "rule"] []
  A_barred : Addr
  fd_barred : FuncData
  F_barred : Fun K "barred" "barred" s_barred A_barred fd_barred
  g_barred : mg "barred" = some (.ref A_barred)
  b_barred : Binds K fd_barred ["beads", "rule"] []
  A_String_init : Addr
  fd_String_init : FuncData
  F_String_init : Fun K "__init__" "String.__init__" s_String_init A_String_init fd_String_init
  mk_String : Mk K C_String A_String_init
  b_String_init : Binds K fd_String_init ["self", "beads", "rule"] []
  A_String_beads : Addr
  fd_String_beads : FuncData
  F_String_beads : Fun K "beads" "String.beads" s_String_beads A_String_beads fd_String_beads
  m_String_beads : Meth K C_String "beads" A_String_beads
  b_String_beads : Binds K fd_String_beads ["self"] []
  A_String_gaps : Addr
  fd_String_gaps : FuncData
  F_String_gaps : Fun K "gaps" "String.gaps" s_String_gaps A_String_gaps fd_String_gaps
  m_String_gaps : Meth K C_String "gaps" A_String_gaps
  b_String_gaps : Binds K fd_String_gaps ["self"] []
  A_String_len : Addr
  fd_String_len : FuncData
  F_String_len : Fun K "__len__" "String.__len__" s_String_len A_String_len fd_String_len
  m_String_len : Meth K C_String "__len__" A_String_len
  b_String_len : Binds K fd_String_len ["self"] []
  A_String_eq : Addr
  fd_String_eq : FuncData
  F_String_eq : Fun K "__eq__" "String.__eq__" s_String_eq A_String_eq fd_String_eq
  m_String_eq : Meth K C_String "__eq__" A_String_eq
  b_String_eq : Binds K fd_String_eq ["self", "other"] []
  A_String_repr : Addr
  fd_String_repr : FuncData
  F_String_repr : Fun K "__repr__" "String.__repr__" s_String_repr A_String_repr fd_String_repr
  m_String_repr : Meth K C_String "__repr__" A_String_repr
  b_String_repr : Binds K fd_String_repr ["self"] []
  A_String_str : Addr
  fd_String_str : FuncData
  F_String_str : Fun K "__str__" "String.__str__" s_String_str A_String_str fd_String_str
  m_String_str : Meth K C_String "__str__" A_String_str
  b_String_str : Binds K fd_String_str ["self"] []
  A_is_measure : Addr
  fd_is_measure : FuncData
  F_is_measure : Fun K "is_measure" "is_measure" s_is_measure A_is_measure fd_is_measure
  g_is_measure : mg "is_measure" = some (.ref A_is_measure)
  b_is_measure : Binds K fd_is_measure ["thing"] []
  A_Bead_init : Addr
  fd_Bead_init : FuncData
  F_Bead_init : FunD K "__init__" "Bead.__init__" (defArgs s_Bead_init) (defBody s_Bead_init) (defScope s_Bead_init) [.str "round", .bl false] [] A_Bead_init fd_Bead_init
  mk_Bead : Mk K C_Bead A_Bead_init
  b_Bead_init : Binds K fd_Bead_init ["self", "number", "across", "weight", "shade", "form", "drilled"] []
  A_Bead_row : Addr
  fd_Bead_row : FuncData
  F_Bead_row : Fun K "row" "Bead.row" s_Bead_row A_Bead_row fd_Bead_row
  m_Bead_row : Meth K C_Bead "row" A_Bead_row
  b_Bead_row : Binds K fd_Bead_row ["self"] []
  A_Bead_eq : Addr
  fd_Bead_eq : FuncData
  F_Bead_eq : Fun K "__eq__" "Bead.__eq__" s_Bead_eq A_Bead_eq fd_Bead_eq
  m_Bead_eq : Meth K C_Bead "__eq__" A_Bead_eq
  b_Bead_eq : Binds K fd_Bead_eq ["self", "other"] []
  A_Bead_repr : Addr
  fd_Bead_repr : FuncData
  F_Bead_repr : Fun K "__repr__" "Bead.__repr__" s_Bead_repr A_Bead_repr fd_Bead_repr
  m_Bead_repr : Meth K C_Bead "__repr__" A_Bead_repr
  b_Bead_repr : Binds K fd_Bead_repr ["self"] []
  A_Bead_str : Addr
  fd_Bead_str : FuncData
  F_Bead_str : Fun K "__str__" "Bead.__str__" s_Bead_str A_Bead_str fd_Bead_str
  m_Bead_str : Meth K C_Bead "__str__" A_Bead_str
  b_Bead_str : Binds K fd_Bead_str ["self"] []
  A_cell_at : Addr
  fd_cell_at : FuncData
  F_cell_at : Fun K "_law_cell_at" "_law_cell_at" s_cell_at A_cell_at fd_cell_at
  g_cell_at : mg "_law_cell_at" = some (.ref A_cell_at)
  b_cell_at : Binds K fd_cell_at ["_law_script", "_law_k"] []
  A_well : Addr
  fd_well : FuncData
  F_well : Fun K "_law_well" "_law_well" s_well A_well fd_well
  g_well : mg "_law_well" = some (.ref A_well)
  b_well : Binds K fd_well ["_law_cell"] []
  A_draw : Addr
  fd_draw : FuncData
  F_draw : Fun K "_law_draw" "_law_draw" s_draw A_draw fd_draw
  g_draw : mg "_law_draw" = some (.ref A_draw)
  b_draw : Binds K fd_draw ["_law_well_here", "_law_many"] []
  A_one : Addr
  fd_one : FuncData
  F_one : Fun K "_law_one" "_law_one" s_one A_one fd_one
  g_one : mg "_law_one" = some (.ref A_one)
  b_one : Binds K fd_one ["_law_well_here", "_law_some"] []
  A_word : Addr
  fd_word : FuncData
  F_word : Fun K "_law_word" "_law_word" s_word A_word fd_word
  g_word : mg "_law_word" = some (.ref A_word)
  b_word : Binds K fd_word ["_law_well_here"] []
  A_rule : Addr
  fd_rule : FuncData
  F_rule : Fun K "_law_rule" "_law_rule" s_rule A_rule fd_rule
  g_rule : mg "_law_rule" = some (.ref A_rule)
  b_rule : Binds K fd_rule ["_law_well_here"] []
  A_near : Addr
  fd_near : FuncData
  F_near : Fun K "_law_near" "_law_near" s_near A_near fd_near
  g_near : mg "_law_near" = some (.ref A_near)
  b_near : Binds K fd_near ["_law_well_here", "_law_low", "_law_top"] []
  A_across : Addr
  fd_across : FuncData
  F_across : Fun K "_law_across" "_law_across" s_across A_across fd_across
  g_across : mg "_law_across" = some (.ref A_across)
  b_across : Binds K fd_across ["_law_well_here", "_law_places", "_law_rule_here"] []
  A_rows : Addr
  fd_rows : FuncData
  F_rows : Fun K "_law_rows" "_law_rows" s_rows A_rows fd_rows
  g_rows : mg "_law_rows" = some (.ref A_rows)
  b_rows : Binds K fd_rows ["_law_well_here", "_law_places", "_law_rule_here"] []
  A_bead : Addr
  fd_bead : FuncData
  F_bead : Fun K "_law_bead" "_law_bead" s_bead A_bead fd_bead
  g_bead : mg "_law_bead" = some (.ref A_bead)
  b_bead : Binds K fd_bead ["_law_row"] []
  A_clean : Addr
  fd_clean : FuncData
  F_clean : Fun K "_law_clean" "_law_clean" s_clean A_clean fd_clean
  g_clean : mg "_law_clean" = some (.ref A_clean)
  b_clean : Binds K fd_clean ["_law_well_here", "_law_places", "_law_four"] []
  A_step_bars : Addr
  fd_step_bars : FuncData
  F_step_bars : Fun K "_law_step_bars" "_law_step_bars" s_step_bars A_step_bars fd_step_bars
  g_step_bars : mg "_law_step_bars" = some (.ref A_step_bars)
  b_step_bars : Binds K fd_step_bars ["_law_rows_here", "_law_rule_here", "_law_at"] []
  A_why : Addr
  fd_why : FuncData
  F_why : Fun K "_law_why" "_law_why" s_why A_why fd_why
  g_why : mg "_law_why" = some (.ref A_why)
  b_why : Binds K fd_why ["_law_rows_here", "_law_rule_here"] []
  A_made : Addr
  fd_made : FuncData
  F_made : Fun K "_law_made" "_law_made" s_made A_made fd_made
  g_made : mg "_law_made" = some (.ref A_made)
  b_made : Binds K fd_made ["_law_beads", "_law_rule_here"] []
  A_shown : Addr
  fd_shown : FuncData
  F_shown : Fun K "_law_shown" "_law_shown" s_shown A_shown fd_shown
  g_shown : mg "_law_shown" = some (.ref A_shown)
  b_shown : Binds K fd_shown ["_law_row"] []
  A_right : Addr
  fd_right : FuncData
  F_right : Fun K "_law_right" "_law_right" s_right A_right fd_right
  g_right : mg "_law_right" = some (.ref A_right)
  b_right : Binds K fd_right ["_law_string", "_law_rows_here", "_law_four"] []
  A_plain : Addr
  fd_plain : FuncData
  F_plain : Fun K "_law_plain" "_law_plain" s_plain A_plain fd_plain
  g_plain : mg "_law_plain" = some (.ref A_plain)
  b_plain : Binds K fd_plain ["_law_rows_here"] []
  A_others : Addr
  fd_others : FuncData
  F_others : Fun K "_law_others" "_law_others" s_others A_others fd_others
  g_others : mg "_law_others" = some (.ref A_others)
  b_others : Binds K fd_others ["_law_well_here", "_law_rows_here", "_law_four"] []
  C_PearlError : Addr
  g_PearlError : mg "PearlError" = some (.ref C_PearlError)
  C_BadBead : Addr
  g_BadBead : mg "BadBead" = some (.ref C_BadBead)
  C_BadRule : Addr
  g_BadRule : mg "BadRule" = some (.ref C_BadRule)
  C_NotLet : Addr
  g_NotLet : mg "NotLet" = some (.ref C_NotLet)
  ox_NotLet : OexC K C_NotLet
  in_NotLet : PySem.W.findIn K (.ref C_NotLet) "__init__" = some (some (.ref A_NotLet_init))
  ti_NotLet : PySem.W.typeIn K (.ref A_NotLet_init) = some (.type "function")
  xc_NotLet : ExcC K C_NotLet
  nf_NotLet_at : PySem.W.findIn K (.ref C_NotLet) "at" = some none
  nf_NotLet_why : PySem.W.findIn K (.ref C_NotLet) "why" = some none
  em_NotLet_PearlError : PySem.W.exmOne K (.ref C_NotLet) (.ref C_PearlError) = some true
  vV : PySem.W.findCls K (.type "ValueError") (.type "type") "__init__" = some (.val (.builtin "ValueError.__init__"))
  ic_Bead : ICls K C_Bead
  i_Bead : PySem.W.kitOne K (.ref C_Bead) (.ref C_Bead) = some true
  ic_Rule : ICls K C_Rule
  i_Rule : PySem.W.kitOne K (.ref C_Rule) (.ref C_Rule) = some true
  ic_String : ICls K C_String
  i_String : PySem.W.kitOne K (.ref C_String) (.ref C_String) = some true
  sn_Bead : PySem.W.subIn K (.ref C_Bead) (.type "NoneType") = some false
  nf_Bead : PySem.W.notFirst K C_Bead (.type "NoneType") = true
  no_Bead : PySem.W.kitOne K (.type "NoneType") (.ref C_Bead) = some false
  bb_Bead : PySem.W.findIn K (.ref C_Bead) "__bool__" = some none
  bl_Bead : PySem.W.findIn K (.ref C_Bead) "__len__" = some none
  cf_PearlError : ClsFn K C_PearlError "__init__" A_PearlError_init
  sn_String : PySem.W.subIn K (.ref C_String) (.type "NoneType") = some false
  sS_int : PySem.W.subIn K (.ref C_String) (.type "int") = some false
  sS_str : PySem.W.subIn K (.ref C_String) (.type "str") = some false
  sS_bool : PySem.W.subIn K (.ref C_String) (.type "bool") = some false
  sS_list : PySem.W.subIn K (.ref C_String) (.type "list") = some false
  sS_tuple : PySem.W.subIn K (.ref C_String) (.type "tuple") = some false
  nfS_int : PySem.W.notFirst K C_String (.type "int") = true
  noS_int : PySem.W.kitOne K (.type "int") (.ref C_String) = some false
  nfS_str : PySem.W.notFirst K C_String (.type "str") = true
  noS_str : PySem.W.kitOne K (.type "str") (.ref C_String) = some false
  nfS_NoneType : PySem.W.notFirst K C_String (.type "NoneType") = true
  noS_NoneType : PySem.W.kitOne K (.type "NoneType") (.ref C_String) = some false
  nfS_list : PySem.W.notFirst K C_String (.type "list") = true
  noS_list : PySem.W.kitOne K (.type "list") (.ref C_String) = some false
  bb_String : PySem.W.findIn K (.ref C_String) "__bool__" = some none
  ki_me : PySem.W.kitOne K (.ref C_NotLet) (.ref C_NotLet) = some true
  t_LONGEST_NAME : Tok
  g_LONGEST_NAME : mg "LONGEST_NAME" = some (.int 8 t_LONGEST_NAME)
  t_GREATEST_NUMBER : Tok
  g_GREATEST_NUMBER : mg "GREATEST_NUMBER" = some (.int 1000000000 t_GREATEST_NUMBER)
  t_GROUP_FIGURES : Tok
  g_GROUP_FIGURES : mg "GROUP_FIGURES" = some (.int 60 t_GROUP_FIGURES)
  t_GROUP : Tok
  g_GROUP : mg "GROUP" = some (.int 1000000000000000000000000000000000000000000000000000000000000 t_GROUP)
  t_GREATEST_MEASURE : Tok
  g_GREATEST_MEASURE : mg "GREATEST_MEASURE" = some (.int 1000000 t_GREATEST_MEASURE)
  z_ValueError : mg "ValueError" = none
  z_bool : mg "bool" = none
  z_isinstance : mg "isinstance" = none
  z_int : mg "int" = none
  z_len : mg "len" = none
  z_str : mg "str" = none
  z_all : mg "all" = none
  z_abs : mg "abs" = none
  z_divmod : mg "divmod" = none
  z_any : mg "any" = none
  z_enumerate : mg "enumerate" = none
  z_tuple : mg "tuple" = none
  z_list : mg "list" = none
  z_range : mg "range" = none
  z_max : mg "max" = none
  z_min : mg "min" = none
  z_repr : mg "repr" = none
section
variable {P : Program} {w : World} {K : PySem.W.Frag} {mg : Str → Option Value} {base : Heap}
def whl (v : V) (lo hi : Int) : Bool := match v with
  | .int i => decide (lo ≤ i) && decide (i ≤ hi)
  | _ => false
def nm (v : V) : Bool := match v with
  | .str z => decide (1 ≤ z.length) && decide (z.length ≤ 8) && z.cps.toList.all lower
  | _ => false
def spIsInt (K : PySem.W.Frag) : Sp := fun vs H Q _ => ∃ v, vs = [v] ∧ Th K H v ∧ Q (.bl (isI v)) H
def spIsWhole (K : PySem.W.Frag) : Sp := fun vs H Q _ => ∃ v lo hi, vs = [v, .int lo, .int hi] ∧ Th K H v ∧ Q (.bl (whl v lo hi)) H
def spIsNumber (K : PySem.W.Frag) : Sp := fun vs H Q _ => ∃ v, vs = [v] ∧ Th K H v ∧ Q (.bl (whl v 1 1000000000)) H
def spIsName (K : PySem.W.Frag) : Sp := fun vs H Q _ => ∃ v, vs = [v] ∧ Th K H v ∧ (∀ z, v = .str z → z.length ≤ 100000) ∧ ∀ H', Same H H' → Q (.bl (nm v)) H'
theorem ok_is_int (T : Tx K mg) : FnOk P w K mg base CX0 1 T.A_is_int T.fd_is_int ["thing"] (spIsInt K) := by
  refine T.F_is_int.ok sc_is_int (fun vs H Q E h => ?_) (fun cdv A outer s H vs Q E hr h => ?_)
  · obtain ⟨v, rfl, th, q⟩ := h
    rfl
  obtain ⟨v, rfl, th, q⟩ := h
  refine ⟨_, (pss_one (ps_ret (pe_and (pe_callB call_isi (by rfl) T.z_isinstance (by decide +kernel) (pa_cons (pv 0) (pa_cons (pe_bltn (v := .ty "int") (by rfl) T.z_int (by decide +kernel) rfl) pa_nil))) (pe_one (pe_not (pe_callB call_isi (by rfl) T.z_isinstance (by decide +kernel) (pa_cons (pv 0) (pa_cons (pe_bltn (v := .ty "bool") (by rfl) T.z_bool (by decide +kernel) rfl) pa_nil)))))))), ?_⟩
  obtain ⟨t1, ty1, k1⟩ := isi_int th
  obtain ⟨t2, ty2, k2⟩ := isi_bool th
  refine ⟨_, rfl, v, _, t1, _, _, rfl, .ty _, ty1, k1, _, rfl, ?_⟩
  refine ite2 (fun e => ?_) (fun e => ?_)
  · refine ⟨_, rfl, v, _, t2, _, _, rfl, .ty _, ty2, k2, _, rfl, ?_⟩
    have : (!isB v) = isI v := by cases v <;> simp_all [isI, isB]
    rw [this]
    exact q
  · have : isI v = false := by cases v <;> simp_all [isI, isB]
    rw [this] at q
    exact q
theorem ok_is_whole (T : Tx K mg) : FnOk P w K mg base CX0 2 T.A_is_whole T.fd_is_whole ["thing", "least", "most"] (spIsWhole K) := by
  refine T.F_is_whole.ok sc_is_whole (fun vs H Q E h => ?_) (fun cdv A outer s H vs Q E hr h => ?_)
  · obtain ⟨v, lo, hi, rfl, th, q⟩ := h
    rfl
  obtain ⟨v, lo, hi, rfl, th, q⟩ := h
  refine ⟨_, (pss_one (ps_ret (pe_and (pe_call (ok_is_int T) (hr.mono (by decide)) (by rfl) T.g_is_int T.F_is_int.kp T.b_is_int .nil pass0 (pa_cons (pv 0) pa_nil)) (pe_one (pe_chain op_le op_le (pv 1) (pv 0) (pv 2)))))), ?_⟩
  refine ⟨_, rfl, v, rfl, th, _, rfl, ?_⟩
  cases v with
  | int i =>
    refine iteT ?_
    refine ⟨_, rfl, _, rfl, _, _, rfl, rfl, _, rfl, ?_⟩
    refine ite2 (fun e => ?_) (fun e => ?_)
    · refine ⟨_, rfl, _, _, rfl, rfl, ?_⟩
      have q : Q (.bl (decide (lo ≤ i) && decide (i ≤ hi))) H := q
      rw [e] at q
      exact q
    · have q : Q (.bl (decide (lo ≤ i) && decide (i ≤ hi))) H := q
      rw [Bool.not_eq_true] at e
      rw [e] at q
      exact q
  | _ => exact iteF q
theorem ok_is_number (T : Tx K mg) : FnOk P w K mg base CX0 3 T.A_is_number T.fd_is_number ["thing"] (spIsNumber K) := by
  refine T.F_is_number.ok sc_is_number (fun vs H Q E h => ?_) (fun cdv A outer s H vs Q E hr h => ?_)
  · obtain ⟨v, rfl, th, q⟩ := h
    rfl
  obtain ⟨v, rfl, th, q⟩ := h
  refine ⟨_, (pss_one (ps_ret (pe_call (ok_is_whole T) (hr.mono (by decide)) (by rfl) T.g_is_whole T.F_is_whole.kp T.b_is_whole .nil pass0 (pa_cons (pv 0) (pa_cons pe_int (pa_cons (pe_glob (v := .int 1000000000) (by rfl) T.g_GREATEST_NUMBER ⟨_, rfl⟩) pa_nil)))))), ?_⟩
  exact ⟨_, rfl, v, 1, 1000000000, rfl, th, q⟩
theorem nm_no {v : V} (h : isS v = false) : nm v = false := by cases v <;> simp_all [nm, isS]
theorem ok_is_name (T : Tx K mg) : FnOk P w K mg base CX0 1 T.A_is_name T.fd_is_name ["thing"] (spIsName K) := by
  refine T.F_is_name.ok sc_is_name (fun vs H Q E h => ?_) (fun cdv A outer s H vs Q E hr h => ?_)
  · obtain ⟨v, rfl, th, hz, q⟩ := h
    rfl
  obtain ⟨v, rfl, th, hz, q⟩ := h
  refine ⟨_, (pss_cons (ps_if (PW.pt (pw_or (pt_not (pt_val (pe_callB call_isi (by rfl) T.z_isinstance (by decide +kernel) (pa_cons (pv 0) (pa_cons (pe_bltn (v := .ty "str") (by rfl) T.z_str (by decide +kernel) rfl) pa_nil))))) (pw_or1 (pt_not (pt_chain op_le op_le pe_int (pe_callB call_len_str (by rfl) T.z_len PySem.boot_len (pa_cons (pv 0) pa_nil)) (pe_glob (v := .int 8) (by rfl) T.g_LONGEST_NAME ⟨_, rfl⟩)))))) (pss_one (ps_ret pe_bl)) pss_nil)
      (pss_one (ps_ret (pe_callB (cr_all rfl) (by rfl) T.z_all (by decide +kernel) (pa_cons (pe_lc (own := [("sign", 1)]) (g := gName 1) (tt := tYes) rfl sc_is_name.nd (pi_str (pv 0)) (blkOk_by (N := ["thing", "sign"]) (sc := defScope s_is_name) (by decide +kernel)) (fun _ _ _ _ _ => (pg_name (i := 1) sc_is_name.nd rfl (Or.inl rfl))) (fun _ _ _ _ _ => pts_nil) (fun _ _ _ _ _ => (pe_chain op_le_str op_le_str pe_str (pv 1) pe_str))) pa_nil))))), ?_⟩
  obtain ⟨t1, ty1, k1⟩ := isi_str th
  refine ⟨_, rfl, v, _, t1, _, _, rfl, .ty _, ty1, k1, _, rfl, ?_⟩
  by_cases hs : isS v = true
  · obtain ⟨z, rfl⟩ : ∃ z, v = .str z := by
      cases v with
      | str z => exact ⟨z, rfl⟩
      | _ => cases hs
    have hz := hz z rfl
    have hzl : z.length ≤ sizeLine := Nat.le_trans hz (by decide)
    have nmE : nm (.str z) = (decide (1 ≤ z.length) && decide (z.length ≤ 8) && z.cps.toList.all lower) := rfl
    rw [hs]
    refine iteF ?_
    refine ⟨_, rfl, z, rfl, hzl, _, _, rfl, rfl, _, rfl, ?_⟩
    by_cases h1 : 1 ≤ z.length
    · rw [decide_eq_true (show (1 : Int) ≤ (z.length : Int) by omega)]
      refine iteT ⟨_, _, rfl, rfl, _, rfl, ?_⟩
      by_cases h2 : z.length ≤ 8
      · rw [decide_eq_true (show (z.length : Int) ≤ 8 by omega)]
        refine iteF ?_
        refine ⟨_, rfl, z, rfl, fun D hD => lc_all hD hz lower ?_ ?_⟩
        · intro c H2 R C s2 r
          refine ⟨rfl, yesT ?_⟩
          refine ⟨_, rfl, _, _, rfl, rfl, _, rfl, ?_⟩
          rw [ge_a]
          refine ite2 (fun e => ?_) (fun e => ?_)
          · refine ⟨_, _, rfl, rfl, ?_⟩
            rw [le_z]
            have : lower c = decide (c ≤ 122) := by unfold lower; rw [e, Bool.true_and]
            rw [← this]
            exact r
          · rw [Bool.not_eq_true] at e
            have : lower c = false := by unfold lower; rw [e, Bool.false_and]
            rw [← this]
            exact r
        · intro H' s1 e1
          refine ⟨D, z.cps.toList.map lower, rfl, SqL.of e1, ?_⟩
          have q := q H' s1
          have : nm (.str z) = (z.cps.toList.map lower).all id := by
            rw [nmE, decide_eq_true h1, decide_eq_true h2, Bool.true_and, Bool.true_and, List.all_map]
            rfl
          rw [this] at q
          exact q
      · rw [decide_eq_false (show ¬ (z.length : Int) ≤ 8 by omega)]
        refine iteT ?_
        have q := q H (Same.refl H)
        rw [nmE, decide_eq_false h2, Bool.and_false, Bool.false_and] at q
        exact q
    · rw [decide_eq_false (show ¬ (1 : Int) ≤ (z.length : Int) by omega)]
      refine iteF ⟨_, rfl, ?_⟩
      refine iteT ?_
      have q := q H (Same.refl H)
      rw [nmE, decide_eq_false h1, Bool.false_and, Bool.false_and] at q
      exact q
  · rw [Bool.not_eq_true] at hs
    rw [hs]
    refine iteT (iteT ?_)
    have q := q H (Same.refl H)
    rw [nm_no hs] at q
    exact q
def spFromN (K : PySem.W.Frag) : Sp := fun vs H Q _ => ∃ v, vs = [v] ∧ Th K H v ∧ Q (.bl (match v with | .int i => decide (0 ≤ i) | _ => false)) H
theorem ok_is_from_nought (T : Tx K mg) : FnOk P w K mg base CX0 2 T.A_is_from_nought T.fd_is_from_nought ["thing"] (spFromN K) := by
  refine T.F_is_from_nought.ok sc_is_from_nought (fun vs H Q E h => ?_) (fun cdv A outer s H vs Q E hr h => ?_)
  · obtain ⟨v, rfl, th, q⟩ := h
    rfl
  obtain ⟨v, rfl, th, q⟩ := h
  refine ⟨_, (pss_one (ps_ret (pe_and (pe_call (ok_is_int T) (hr.mono (by decide)) (by rfl) T.g_is_int T.F_is_int.kp T.b_is_int .nil pass0 (pa_cons (pv 0) pa_nil)) (pe_one (pe_cmpR op_ge (pv 0) pe_int (nomark _)))))), ?_⟩
  refine ⟨_, rfl, v, rfl, th, _, rfl, ?_⟩
  cases v with
  | int i => exact iteT ⟨_, rfl, _, _, rfl, rfl, q⟩
  | _ => exact iteF q
def spMeasure (K : PySem.W.Frag) : Sp := fun vs H Q _ => ∃ v, vs = [v] ∧ Th K H v ∧ Q (.bl (whl v 1 1000000)) H
theorem ok_is_measure (T : Tx K mg) : FnOk P w K mg base CX0 3 T.A_is_measure T.fd_is_measure ["thing"] (spMeasure K) := by
  refine T.F_is_measure.ok sc_is_measure (fun vs H Q E h => ?_) (fun cdv A outer s H vs Q E hr h => ?_)
  · obtain ⟨v, rfl, th, q⟩ := h
    rfl
  obtain ⟨v, rfl, th, q⟩ := h
  refine ⟨_, (pss_one (ps_ret (pe_call (ok_is_whole T) (hr.mono (by decide)) (by rfl) T.g_is_whole T.F_is_whole.kp T.b_is_whole .nil pass0 (pa_cons (pv 0) (pa_cons pe_int (pa_cons (pe_glob (v := .int 1000000) (by rfl) T.g_GREATEST_MEASURE ⟨_, rfl⟩) pa_nil)))))), ?_⟩
  exact ⟨_, rfl, v, 1, 1000000, rfl, th, q⟩
/-- a bead, a rule, as data -/
structure Rw where
  num : Int
  ac : Int
  we : Int
  sh : Str
  fo : Str
  dr : Bool
structure Rl where
  lo : Int
  hi : Int
  far : Int
  shd : Bool
def GoodRw (r : Rw) : Prop := whl (.int r.num) 1 1000000000 = true ∧ whl (.int r.ac) 1 1000000 = true ∧ whl (.int r.we) 1 1000000 = true ∧ nm (.str r.sh) = true ∧ nm (.str r.fo) = true
def GoodRl (u : Rl) : Prop := 0 ≤ u.lo ∧ u.lo ≤ u.hi ∧ 0 ≤ u.far
theorem short_name {z : Str} (h : nm (.str z) = true) : z.length ≤ 100000 := by
  have nmE : nm (.str z) = (decide (1 ≤ z.length) && decide (z.length ≤ 8) && z.cps.toList.all lower) := rfl
  rw [nmE] at h
  simp only [Bool.and_eq_true, decide_eq_true_eq] at h
  omega
def bf (r : Rw) : List (Str × V) := putF "drilled" (.bl r.dr) (putF "form" (.str r.fo) (putF "shade" (.str r.sh) (putF "weight" (.int r.we) (putF "across" (.int r.ac) (putF "number" (.int r.num) [])))))
theorem bf_number (r : Rw) : (bf r).lookup ("number" : Str) = some (.int r.num) := by
  unfold bf
  rw [lookup_putF, if_neg (by decide +kernel), lookup_putF, if_neg (by decide +kernel), lookup_putF, if_neg (by decide +kernel), lookup_putF, if_neg (by decide +kernel), lookup_putF, if_neg (by decide +kernel), lookup_putF, if_pos rfl]
theorem bf_across (r : Rw) : (bf r).lookup ("across" : Str) = some (.int r.ac) := by
  unfold bf
  rw [lookup_putF, if_neg (by decide +kernel), lookup_putF, if_neg (by decide +kernel), lookup_putF, if_neg (by decide +kernel), lookup_putF, if_neg (by decide +kernel), lookup_putF, if_pos rfl]
theorem bf_weight (r : Rw) : (bf r).lookup ("weight" : Str) = some (.int r.we) := by
  unfold bf
  rw [lookup_putF, if_neg (by decide +kernel), lookup_putF, if_neg (by decide +kernel), lookup_putF, if_neg (by decide +kernel), lookup_putF, if_pos rfl]
theorem bf_shade (r : Rw) : (bf r).lookup ("shade" : Str) = some (.str r.sh) := by
  unfold bf
  rw [lookup_putF, if_neg (by decide +kernel), lookup_putF, if_neg (by decide +kernel), lookup_putF, if_pos rfl]
theorem bf_form (r : Rw) : (bf r).lookup ("form" : Str) = some (.str r.fo) := by
  unfold bf
  rw [lookup_putF, if_neg (by decide +kernel), lookup_putF, if_pos rfl]
theorem bf_drilled (r : Rw) : (bf r).lookup ("drilled" : Str) = some (.bl r.dr) := by
  unfold bf
  rw [lookup_putF, if_pos rfl]
theorem bf_no (r : Rw) {m : Str} (h1 : ¬ m = "drilled") (h2 : ¬ m = "form") (h3 : ¬ m = "shade") (h4 : ¬ m = "weight") (h5 : ¬ m = "across") (h6 : ¬ m = "number") : (bf r).lookup m = none := by
  unfold bf
  rw [lookup_putF, if_neg h1, lookup_putF, if_neg h2, lookup_putF, if_neg h3, lookup_putF, if_neg h4, lookup_putF, if_neg h5, lookup_putF, if_neg h6]
  rfl
def uf (u : Rl) : List (Str × V) := putF "shades" (.bl u.shd) (putF "match" (.int u.far) (putF "most" (.int u.hi) (putF "least" (.int u.lo) [])))
theorem uf_least (u : Rl) : (uf u).lookup ("least" : Str) = some (.int u.lo) := by
  unfold uf
  rw [lookup_putF, if_neg (by decide +kernel), lookup_putF, if_neg (by decide +kernel), lookup_putF, if_neg (by decide +kernel), lookup_putF, if_pos rfl]
theorem uf_most (u : Rl) : (uf u).lookup ("most" : Str) = some (.int u.hi) := by
  unfold uf
  rw [lookup_putF, if_neg (by decide +kernel), lookup_putF, if_neg (by decide +kernel), lookup_putF, if_pos rfl]
theorem uf_match (u : Rl) : (uf u).lookup ("match" : Str) = some (.int u.far) := by
  unfold uf
  rw [lookup_putF, if_neg (by decide +kernel), lookup_putF, if_pos rfl]
theorem uf_shades (u : Rl) : (uf u).lookup ("shades" : Str) = some (.bl u.shd) := by
  unfold uf
  rw [lookup_putF, if_pos rfl]
theorem few {fs : List (Str × V)} {f : Str} {v : V} {n : Nat} (h : fs.length ≤ n) : (putF f v fs).length ≤ n + 1 := Nat.le_trans (length_putF f v fs) (by omega)
theorem few0 : ([] : List (Str × V)).length ≤ 0 := Nat.le_refl _
def BeadAt (C : Addr) (H : Hp) (p : Addr) (r : Rw) : Prop := ∃ dx, H p = some (.ins C dx (bf r))
def RuleAt (C : Addr) (H : Hp) (p : Addr) (u : Rl) : Prop := ∃ dx, H p = some (.ins C dx (uf u))
def spBead (C : Addr) : Sp := fun vs H Q _ => ∃ (p dx : Addr) (r : Rw), vs = [.ref p, .int r.num, .int r.ac, .int r.we, .str r.sh, .str r.fo, .bl r.dr] ∧ H p = some (.ins C dx []) ∧ GoodRw r ∧
  ∀ H' : Hp, BeadAt C H' p r → (∀ b o, H b = some o → b ≠ p → H' b = some o) → Q .non H'
theorem ok_Bead_init (T : Tx K mg) : FnOk P w K mg base CX0 4 T.A_Bead_init T.fd_Bead_init ["self", "number", "across", "weight", "shade", "form", "drilled"] (spBead T.C_Bead) := by
  refine okD T.F_Bead_init sc_Bead_init (fun vs H Q E h => ?_) (fun cdv A outer s H vs Q E hr h => ?_)
  · obtain ⟨p, dx, r, rfl, hp, ⟨g1, g2, g3, g4, g5⟩, q⟩ := h
    rfl
  obtain ⟨p, dx, r, rfl, hp, ⟨g1, g2, g3, g4, g5⟩, q⟩ := h
  refine ⟨_, (pss_cons (ps_if (pt_not (pt_val (pe_call (ok_is_number T) (hr.mono (by decide)) (by rfl) T.g_is_number T.F_is_number.kp T.b_is_number .nil pass0 (pa_cons (pv 1) pa_nil)))) (pss_one ps_never) pss_nil)
      (pss_cons (ps_if (PW.pt (pw_or (pt_not (pt_val (pe_call (ok_is_measure T) (hr.mono (by decide)) (by rfl) T.g_is_measure T.F_is_measure.kp T.b_is_measure .nil pass0 (pa_cons (pv 2) pa_nil)))) (pw_or1 (pt_not (pt_val (pe_call (ok_is_measure T) (hr.mono (by decide)) (by rfl) T.g_is_measure T.F_is_measure.kp T.b_is_measure .nil pass0 (pa_cons (pv 3) pa_nil))))))) (pss_one ps_never) pss_nil)
      (pss_cons (ps_if (PW.pt (pw_or (pt_not (pt_val (pe_call (ok_is_name T) (hr.mono (by decide)) (by rfl) T.g_is_name T.F_is_name.kp T.b_is_name .nil pass0 (pa_cons (pv 4) pa_nil)))) (pw_or1 (pt_not (pt_val (pe_call (ok_is_name T) (hr.mono (by decide)) (by rfl) T.g_is_name T.F_is_name.kp T.b_is_name .nil pass0 (pa_cons (pv 5) pa_nil))))))) (pss_one ps_never) pss_nil)
      (pss_cons (ps_if (pt_not (pt_val (pe_callB call_isi (by rfl) T.z_isinstance (by decide +kernel) (pa_cons (pv 6) (pa_cons (pe_bltn (v := .ty "bool") (by rfl) T.z_bool (by decide +kernel) rfl) pa_nil))))) (pss_one ps_never) pss_nil)
      (pss_cons (ps_fld (pv 0) (pv 1) rfl)
      (pss_cons (ps_fld (pv 0) (pv 2) rfl)
      (pss_cons (ps_fld (pv 0) (pv 3) rfl)
      (pss_cons (ps_fld (pv 0) (pv 4) rfl)
      (pss_cons (ps_fld (pv 0) (pv 5) rfl)
      (pss_one (ps_fld (pv 0) (pv 6) rfl))))))))))), ?_⟩
  refine ⟨_, rfl, _, rfl, .int _, _, rfl, ?_⟩
  rw [g1]
  refine iteF ⟨_, rfl, _, rfl, .int _, _, rfl, ?_⟩
  rw [g2]
  refine iteF ⟨_, rfl, _, rfl, .int _, _, rfl, ?_⟩
  rw [g3]
  refine iteF ⟨_, rfl, _, rfl, .str _, (fun z hz => by injection hz with hz; rw [← hz]; exact short_name g4), fun H1 s1 => ⟨_, rfl, ?_⟩⟩
  rw [g4]
  refine iteF ⟨_, rfl, _, rfl, .str _, (fun z hz => by injection hz with hz; rw [← hz]; exact short_name g5), fun H2 s2 => ⟨_, rfl, ?_⟩⟩
  rw [g5]
  refine iteF ⟨_, rfl, _, _, _, _, _, rfl, .ty _, .base (.bl _), kit_ty (r := true) (by decide +kernel), _, rfl, ?_⟩
  refine iteF ?_
  have h2 := s2 _ _ (s1 _ _ hp)
  refine ⟨_, rfl, _, rfl, p, _, dx, _, rfl, h2, T.cl_Bead, T.n_Bead_number, by decide, ?_⟩
  refine ⟨_, rfl, _, rfl, p, _, dx, _, rfl, upd_same, T.cl_Bead, T.n_Bead_across, Nat.lt_of_le_of_lt (few few0) (by decide), ?_⟩
  refine ⟨_, rfl, _, rfl, p, _, dx, _, rfl, upd_same, T.cl_Bead, T.n_Bead_weight, Nat.lt_of_le_of_lt (few (few few0)) (by decide), ?_⟩
  refine ⟨_, rfl, _, rfl, p, _, dx, _, rfl, upd_same, T.cl_Bead, T.n_Bead_shade, Nat.lt_of_le_of_lt (few (few (few few0))) (by decide), ?_⟩
  refine ⟨_, rfl, _, rfl, p, _, dx, _, rfl, upd_same, T.cl_Bead, T.n_Bead_form, Nat.lt_of_le_of_lt (few (few (few (few few0)))) (by decide), ?_⟩
  refine ⟨_, rfl, _, rfl, p, _, dx, _, rfl, upd_same, T.cl_Bead, T.n_Bead_drilled, Nat.lt_of_le_of_lt (few (few (few (few (few few0))))) (by decide), ?_⟩
  refine q _ ⟨dx, upd_same⟩ fun b o e hb => ?_
  rw [upd_ne hb, upd_ne hb, upd_ne hb, upd_ne hb, upd_ne hb, upd_ne hb]
  exact s2 _ _ (s1 _ _ e)
def rowVals (r : Rw) : List V := [.int r.num, .int r.ac, .int r.we, .str r.sh, .str r.fo, .bl r.dr]
def spRow (C : Addr) : Sp := fun vs H Q _ => ∃ (p : Addr) (r : Rw), vs = [.ref p] ∧ BeadAt C H p r ∧ ∀ t, H t = none → Q (.ref t) (upd H t (.tup (rowVals r)))
theorem ok_Bead_row (T : Tx K mg) : FnOk P w K mg base CX0 1 T.A_Bead_row T.fd_Bead_row ["self"] (spRow T.C_Bead) := by
  refine T.F_Bead_row.ok sc_Bead_row (fun vs H Q E h => ?_) (fun cdv A outer s H vs Q E hr h => ?_)
  · obtain ⟨p, r, rfl, ⟨dx, hp⟩, q⟩ := h
    rfl
  obtain ⟨p, r, rfl, ⟨dx, hp⟩, q⟩ := h
  refine ⟨_, (pss_one (ps_ret (pe_tup (pa_cons (pe_fld (pv 0) rfl) (pa_cons (pe_fld (pv 0) rfl) (pa_cons (pe_fld (pv 0) rfl) (pa_cons (pe_fld (pv 0) rfl) (pa_cons (pe_fld (pv 0) rfl) (pa_cons (pe_fld (pv 0) rfl) pa_nil))))))))), ?_⟩
  refine ⟨_, rfl, p, _, dx, _, _, rfl, hp, T.cl_Bead, T.n_Bead_number, bf_number r, ?_⟩
  refine ⟨_, rfl, p, _, dx, _, _, rfl, hp, T.cl_Bead, T.n_Bead_across, bf_across r, ?_⟩
  refine ⟨_, rfl, p, _, dx, _, _, rfl, hp, T.cl_Bead, T.n_Bead_weight, bf_weight r, ?_⟩
  refine ⟨_, rfl, p, _, dx, _, _, rfl, hp, T.cl_Bead, T.n_Bead_shade, bf_shade r, ?_⟩
  refine ⟨_, rfl, p, _, dx, _, _, rfl, hp, T.cl_Bead, T.n_Bead_form, bf_form r, ?_⟩
  refine ⟨_, rfl, p, _, dx, _, _, rfl, hp, T.cl_Bead, T.n_Bead_drilled, bf_drilled r, ?_⟩
  exact ⟨(by show 6 ≤ sizeLine; decide), fun t ht => q t ht⟩
def spRule (C : Addr) : Sp := fun vs H Q _ => ∃ (p dx : Addr) (u : Rl), vs = [.ref p, .int u.lo, .int u.hi, .int u.far, .bl u.shd] ∧ H p = some (.ins C dx []) ∧ GoodRl u ∧
  ∀ H' : Hp, RuleAt C H' p u → (∀ b o, H b = some o → b ≠ p → H' b = some o) → Q .non H'
theorem ok_Rule_init (T : Tx K mg) : FnOk P w K mg base CX0 3 T.A_Rule_init T.fd_Rule_init ["self", "least", "most", "match", "shades"] (spRule T.C_Rule) := by
  refine okD T.F_Rule_init sc_Rule_init (fun vs H Q E h => ?_) (fun cdv A outer s H vs Q E hr h => ?_)
  · obtain ⟨p, dx, u, rfl, hp, ⟨g1, g2, g3⟩, q⟩ := h
    rfl
  obtain ⟨p, dx, u, rfl, hp, ⟨g1, g2, g3⟩, q⟩ := h
  refine ⟨_, (pss_cons (ps_if (PW.pt (pw_or (pt_not (pt_val (pe_call (ok_is_from_nought T) (hr.mono (by decide)) (by rfl) T.g_is_from_nought T.F_is_from_nought.kp T.b_is_from_nought .nil pass0 (pa_cons (pv 1) pa_nil)))) (pw_or (pt_not (pt_val (pe_call (ok_is_from_nought T) (hr.mono (by decide)) (by rfl) T.g_is_from_nought T.F_is_from_nought.kp T.b_is_from_nought .nil pass0 (pa_cons (pv 2) pa_nil)))) (pw_or1 (pt_not (pt_val (pe_call (ok_is_from_nought T) (hr.mono (by decide)) (by rfl) T.g_is_from_nought T.F_is_from_nought.kp T.b_is_from_nought .nil pass0 (pa_cons (pv 3) pa_nil)))))))) (pss_one ps_never) pss_nil)
      (pss_cons (ps_if (pt_cmpR op_lt (pv 2) (pv 1) (nomark _)) (pss_one ps_never) pss_nil)
      (pss_cons (ps_if (pt_not (pt_val (pe_callB call_isi (by rfl) T.z_isinstance (by decide +kernel) (pa_cons (pv 4) (pa_cons (pe_bltn (v := .ty "bool") (by rfl) T.z_bool (by decide +kernel) rfl) pa_nil))))) (pss_one ps_never) pss_nil)
      (pss_cons (ps_fld (pv 0) (pv 1) rfl)
      (pss_cons (ps_fld (pv 0) (pv 2) rfl)
      (pss_cons (ps_fld (pv 0) (pv 3) rfl)
      (pss_one (ps_fld (pv 0) (pv 4) rfl)))))))), ?_⟩
  refine ⟨_, rfl, _, rfl, .int _, _, rfl, ?_⟩
  show if (!decide (0 ≤ u.lo)) = true then _ else _
  rw [decide_eq_true g1]
  refine iteF ⟨_, rfl, _, rfl, .int _, _, rfl, ?_⟩
  show if (!decide (0 ≤ u.hi)) = true then _ else _
  rw [decide_eq_true (show 0 ≤ u.hi by omega)]
  refine iteF ⟨_, rfl, _, rfl, .int _, _, rfl, ?_⟩
  show if (!decide (0 ≤ u.far)) = true then _ else _
  rw [decide_eq_true g3]
  refine iteF ⟨_, rfl, _, rfl, _, _, rfl, rfl, _, rfl, ?_⟩
  rw [decide_eq_false (show ¬ u.hi < u.lo by omega)]
  refine iteF ⟨_, rfl, _, _, _, _, _, rfl, .ty _, .base (.bl _), kit_ty (r := true) (by decide +kernel), _, rfl, ?_⟩
  refine iteF ?_
  refine ⟨_, rfl, _, rfl, p, _, dx, _, rfl, hp, T.cl_Rule, T.n_Rule_least, by decide, ?_⟩
  refine ⟨_, rfl, _, rfl, p, _, dx, _, rfl, upd_same, T.cl_Rule, T.n_Rule_most, Nat.lt_of_le_of_lt (few few0) (by decide), ?_⟩
  refine ⟨_, rfl, _, rfl, p, _, dx, _, rfl, upd_same, T.cl_Rule, T.n_Rule_match, Nat.lt_of_le_of_lt (few (few few0)) (by decide), ?_⟩
  refine ⟨_, rfl, _, rfl, p, _, dx, _, rfl, upd_same, T.cl_Rule, T.n_Rule_shades, Nat.lt_of_le_of_lt (few (few (few few0))) (by decide), ?_⟩
  refine q _ ⟨dx, upd_same⟩ fun b o e hb => ?_
  rw [upd_ne hb, upd_ne hb, upd_ne hb, upd_ne hb]
  exact e
end
end KB
namespace KB
open PySem PySem.Spec PyProof.Rows L2 KA
section
variable {P : Program} {w : World} {K : PySem.W.Frag} {mg : Str → Option Value} {base : Heap}
/-- a place of a row of beads -/
def BV (C : Addr) (H : Hp) (v : V) (o : Option Rw) : Prop := (v = .non ∧ o = none) ∨ ∃ p r, v = .ref p ∧ o = some r ∧ BeadAt C H p r
structure Bds (C : Addr) (H : Hp) (vs : List V) (rs : List (Option Rw)) : Prop where
  len : vs.length = rs.length
  at_ : ∀ (i : Nat) (v : V), vs[i]? = some v → ∃ o, rs[i]? = some o ∧ BV C H v o
theorem BV.same {C : Addr} {H H' : Hp} {v : V} {o : Option Rw} (s : NL H H') (h : BV C H v o) : BV C H' v o := by
  rcases h with h | ⟨p, r, h1, h2, dx, h3⟩
  · exact .inl h
  · exact .inr ⟨p, r, h1, h2, dx, s _ _ (fun _ z => by cases z) h3⟩
theorem Bds.same {C : Addr} {H H' : Hp} {vs : List V} {rs : List (Option Rw)} (s : NL H H') (h : Bds C H vs rs) : Bds C H' vs rs :=
  ⟨h.len, fun i v hv => by
    obtain ⟨o, h1, h2⟩ := h.at_ i v hv
    exact ⟨o, h1, h2.same s⟩⟩
theorem Bds.get {C : Addr} {H : Hp} {vs : List V} {rs : List (Option Rw)} (h : Bds C H vs rs) {i : Nat} {o : Option Rw} (ho : rs[i]? = some o) : ∃ v, vs[i]? = some v ∧ BV C H v o := by
  have hi : i < vs.length := by
    rw [h.len]
    exact (List.getElem?_eq_some_iff.mp ho).1
  obtain ⟨o', h1, h2⟩ := h.at_ i _ (List.getElem?_eq_getElem hi)
  have : o = o' := Option.some.inj (ho.symm.trans h1)
  subst this
  exact ⟨_, List.getElem?_eq_getElem hi, h2⟩
theorem Bds.bead {C : Addr} {H : Hp} {vs : List V} {rs : List (Option Rw)} (h : Bds C H vs rs) {i : Nat} {r : Rw} (ho : rs[i]? = some (some r)) : ∃ p dx, vs[i]? = some (.ref p) ∧ H p = some (.ins C dx (bf r)) := by
  obtain ⟨v, hv, h | ⟨p, r', h1, h2, dx, h3⟩⟩ := h.get ho
  · cases h.2
  · subst h1
    have : r = r' := Option.some.inj h2
    subst this
    exact ⟨p, dx, hv, h3⟩
/-! what is asked of a row, as functions -/
def isNum (n : Int) (o : Option Rw) : Bool := match o with
  | some r => decide (r.num = n)
  | none => false
def twice (rs : List (Option Rw)) (i : Nat) (n : Int) : Bool := (rs.take i).any (isNum n)
def stepBad (u : Rl) (d : Int) : Bool := decide (d < u.lo) || decide (u.hi < d)
def stepBars (rs : List (Option Rw)) (u : Rl) (i : Nat) (r : Rw) : Bool := if i = 0 ∨ 2 * i = rs.length then false else match rs[i - 1]? with
  | some (some q) => stepBad u (if rs.length < 2 * i then -(r.ac - q.ac) else r.ac - q.ac)
  | _ => false
def partner (rs : List (Option Rw)) (i : Nat) : Option Rw := if 2 * i < rs.length then none else match rs[rs.length - 1 - i]? with
  | some (some q) => some q
  | _ => none
def look (r p : Rw) : Bool := decide (r.sh = p.sh) && (decide (r.fo = p.fo) && decide (r.dr = p.dr))
def apart (a b : Int) : Int := if a - b < 0 then -(a - b) else a - b
def reason (rs : List (Option Rw)) (u : Rl) (i : Nat) (r : Rw) : V := if twice rs i r.num = true then .str "twice" else if stepBars rs u i r = true then .str "step" else match partner rs i with
  | none => .non
  | some p => if u.far < apart r.ac p.ac then .str "match" else if (u.shd && !look r p) = true then .str "shade" else .non
def barFrom (rs : List (Option Rw)) (u : Rl) : Nat → Nat → Option (Nat × V)
  | 0, _ => none
  | k + 1, i => match rs[i]? with
    | some (some r) => if reason rs u i r = .non then barFrom rs u k (i + 1) else some (i, reason rs u i r)
    | _ => barFrom rs u k (i + 1)
def bar (rs : List (Option Rw)) (u : Rl) : Option (Nat × V) := barFrom rs u rs.length 0
theorem fld_number {K : PySem.W.Frag} {C : Addr} {H : Hp} {p dx : Addr} {r : Rw} (h : H p = some (.ins C dx (bf r))) : True := trivial
def spStands (K : PySem.W.Frag) (C : Addr) : Sp := fun vs H Q _ => ∃ (b : Addr) (i : Nat) (xs : List V) (rs : List (Option Rw)) (r : Rw), vs = [.ref b, .int i] ∧ SqL K H b xs ∧ Bds C H xs rs ∧ rs[i]? = some (some r) ∧ rs.length ≤ 1000 ∧
  ∀ H', Same H H' → Q (.bl (twice rs i r.num)) H'
theorem ok_stands_ahead (T : Tx K mg) : FnOk P w K mg base CX0 1 T.A_stands_ahead T.fd_stands_ahead ["beads", "at"] (spStands K T.C_Bead) := by
  refine T.F_stands_ahead.ok sc_stands_ahead (fun vs H Q E h => ?_) (fun cdv A outer s H vs Q E hr h => ?_)
  · obtain ⟨b, i, xs, rs, r, rfl, hS, hB, hi, hl, q⟩ := h
    rfl
  obtain ⟨b, i, xs, rs, r, rfl, hS, hB, hi, hl, q⟩ := h
  refine ⟨_, (pss_cons (ps_set (i := 2) sc_stands_ahead.nd rfl (Or.inr rfl) (pe_fld (pe_ix ix_list (pv 0) (pv 1) (fun _ _ => rfl)) rfl))
      (pss_one (ps_ret (pe_callB (cr_any rfl) (by rfl) T.z_any (by decide +kernel) (pa_cons (pe_lc (own := [("bead", 3)]) (g := gName 3) (tt := tYes) rfl sc_stands_ahead.nd (pi_list (pe_slice sl_list (pv 0) po_none (po_some (pv 1)))) (blkOk_by (N := ["beads", "at", "number", "bead"]) (sc := defScope s_stands_ahead) (by decide +kernel)) (fun _ _ _ _ _ => (pg_name (i := 3) sc_stands_ahead.nd rfl (Or.inl rfl))) (fun _ _ _ _ _ => pts_nil) (fun _ _ _ _ _ => (pe_and (pe_cmpR op_notN (pv 3) pe_non (nomark _)) (pe_one (pe_cmpR op_eq (pe_fldK (K' := K) rfl (pv 3) rfl) (pv 2) (nomark _)))))) pa_nil))))), ?_⟩
  obtain ⟨p, dx, hp, hH⟩ := hB.bead hi
  refine ⟨_, rfl, _, rfl, b, xs, _, _, rfl, rfl, hS, atI_nat hp, p, _, dx, _, _, rfl, hH, T.cl_Bead, T.n_Bead_number, bf_number r, ?_⟩
  refine ⟨_, rfl, _, rfl, _, rfl, b, xs, rfl, hS, fun c hc => ?_⟩
  have s1 : Same H (upd H c (.lst (cutV xs none (some (i : Int))))) := same_upd hc
  refine ⟨c, rfl, ⟨_, SqL.of upd_same⟩, fun D hD => ?_⟩
  have hcut := cut_to xs i
  have hlen : (cutV xs none (some (i : Int))).length ≤ 10000 := by
    rw [hcut, List.length_take, hB.len]
    omega
  refine lc_vals (K := K) (a := c) hD (SqL.of upd_same) hlen (fun j => .bl (isNum r.num (rs.getD j none))) ?_ ?_
  · intro j x H2 R C hx s2 hR
    rw [hcut] at hx
    have hji : j < i := by
      have := (List.getElem?_eq_some_iff.mp hx).1
      rw [List.length_take] at this
      omega
    rw [List.getElem?_take_of_lt hji] at hx
    obtain ⟨o, ho, hv⟩ := hB.at_ j x hx
    have hv := hv.same (NL.of (s1.trans s2))
    have eo : rs.getD j none = o := by rw [List.getD_eq_getElem?_getD, ho]; rfl
    rw [eo] at hR
    refine ⟨rfl, yesT ⟨_, rfl, rfl, _, rfl, ?_⟩⟩
    rcases hv with ⟨rfl, rfl⟩ | ⟨p', r', rfl, rfl, dx', h'⟩
    · exact iteF hR
    · refine iteT ⟨_, rfl, p', _, dx', _, _, rfl, h', T.cl_Bead, T.n_Bead_number, bf_number r', _, rfl, rfl, ?_⟩
      have : decide (V.int r'.num = V.int r.num) = isNum r.num (some r') := by
        show _ = decide (r'.num = r.num)
        rw [decide_eq_decide]
        exact ⟨fun e => by injection e, fun e => by rw [e]⟩
      rw [this]
      exact hR
  · intro H' s' e'
    refine ⟨D, (List.range (cutV xs none (some (i : Int))).length).map (fun j => isNum r.num (rs.getD j none)), rfl, SqL.of (by rw [e', List.map_map]; rfl), ?_⟩
    have : ((List.range (cutV xs none (some (i : Int))).length).map (fun j => isNum r.num (rs.getD j none))).any id = twice rs i r.num := by
      unfold twice
      have : rs.take i = (List.range (cutV xs none (some (i : Int))).length).map (fun j => rs.getD j none) := by
        rw [hcut, List.length_take, hB.len]
        refine List.ext_getElem? fun j => ?_
        rw [List.getElem?_map]
        by_cases h : j < min i rs.length
        · rw [List.getElem?_range h, List.getElem?_take_of_lt (by omega)]
          show _ = some (rs.getD j none)
          rw [List.getD_eq_getElem?_getD, List.getElem?_eq_getElem (show j < rs.length by omega)]
          rfl
        · rw [List.getElem?_eq_none (by rw [List.length_take]; omega), List.getElem?_eq_none (by rw [List.length_range]; omega)]
          rfl
      rw [this, List.any_map, List.any_map]
      rfl
    rw [this]
    exact q H' (s1.trans s')
def spSteps (K : PySem.W.Frag) (C D : Addr) : Sp := fun vs H Q _ => ∃ (b m : Addr) (i : Nat) (xs : List V) (rs : List (Option Rw)) (r : Rw) (u : Rl), vs = [.ref b, .int i, .ref m] ∧ SqL K H b xs ∧ Bds C H xs rs ∧ RuleAt D H m u ∧ rs[i]? = some (some r) ∧ rs.length ≤ 1000 ∧
  Q (.bl (stepBars rs u i r)) H
theorem ok_breaks_step (T : Tx K mg) : FnOk P w K mg base CX0 1 T.A_breaks_step T.fd_breaks_step ["beads", "at", "rule"] (spSteps K T.C_Bead T.C_Rule) := by
  refine T.F_breaks_step.ok sc_breaks_step (fun vs H Q E h => ?_) (fun cdv A outer s H vs Q E hr h => ?_)
  · obtain ⟨b, m, i, xs, rs, r, u, rfl, hS, hB, ⟨dm, hm⟩, hi, hl, q⟩ := h
    rfl
  obtain ⟨b, m, i, xs, rs, r, u, rfl, hS, hB, ⟨dm, hm⟩, hi, hl, q⟩ := h
  refine ⟨_, (pss_cons (ps_if (PW.pt (pw_or (pt_cmpR op_eq (pv 1) pe_int (nomark _)) (pw_or (pt_cmpR op_eq (pe_op op_mul pe_int (pv 1)) (pe_callB call_len_seq (by rfl) T.z_len PySem.boot_len (pa_cons (pv 0) pa_nil)) (nomark _)) (pw_or1 (pt_cmpR op_isN (pe_ix ix_list (pv 0) (pe_op op_sub (pv 1) pe_int) (fun _ _ => rfl)) pe_non (nomark _)))))) (pss_one (ps_ret pe_bl)) pss_nil)
      (pss_cons (ps_set (i := 3) sc_breaks_step.nd rfl (Or.inl rfl) (pe_op op_sub (pe_fld (pe_ix ix_list (pv 0) (pv 1) (fun _ _ => rfl)) rfl) (pe_fld (pe_ix ix_list (pv 0) (pe_op op_sub (pv 1) pe_int) (fun _ _ => rfl)) rfl)))
      (pss_cons (ps_if (pt_cmpR op_gt (pe_op op_mul pe_int (pv 1)) (pe_callB call_len_seq (by rfl) T.z_len PySem.boot_len (pa_cons (pv 0) pa_nil)) (nomark _)) (pss_one (ps_set (i := 3) sc_breaks_step.nd rfl (Or.inl rfl) (pe_un un_neg (pv 3)))) pss_nil)
      (pss_one (ps_ret (pe_or (pe_cmpR op_lt (pv 3) (pe_fld (pv 2) rfl) (nomark _)) (pe_one (pe_cmpR op_gt (pv 3) (pe_fld (pv 2) rfl) (nomark _))))))))), ?_⟩
  obtain ⟨p, dx, hp, hH⟩ := hB.bead hi
  have hil : i < rs.length := (List.getElem?_eq_some_iff.mp hi).1
  have eL := hB.len
  refine ⟨_, rfl, rfl, _, rfl, ?_⟩
  by_cases h0 : i = 0
  · subst h0
    refine iteT (iteT ?_)
    have : stepBars rs u 0 r = false := by
      unfold stepBars
      rw [if_pos (Or.inl rfl)]
    rw [this] at q
    exact q
  · rw [decide_eq_false (show ¬ V.int (i : Int) = V.int 0 from fun e => h0 (by injection e with e; omega))]
    refine iteF ⟨_, rfl, _, _, rfl, rfl, .inl ⟨by decide, by decide⟩, _, rfl, b, xs, rfl, .inl hS, rfl, _, rfl, ?_⟩
    by_cases h1 : 2 * i = rs.length
    · rw [decide_eq_true (show V.int (2 * (i : Int)) = V.int (xs.length : Int) by congr 1; omega)]
      refine iteT (iteT ?_)
      have : stepBars rs u i r = false := by
        unfold stepBars
        rw [if_pos (Or.inr h1)]
      rw [this] at q
      exact q
    · rw [decide_eq_false (show ¬ V.int (2 * (i : Int)) = V.int (xs.length : Int) from fun e => h1 (by injection e with e; omega))]
      obtain ⟨o, ho⟩ : ∃ o, rs[i - 1]? = some o := ⟨_, List.getElem?_eq_getElem (by omega)⟩
      obtain ⟨v, hv, hbv⟩ := hB.get ho
      have hat : atI xs ((i : Int) - 1) = some v := at_of (j := i - 1) (by omega) hv
      refine iteF ⟨_, rfl, _, rfl, _, _, rfl, rfl, b, xs, _, v, rfl, rfl, hS, hat, rfl, _, rfl, ?_⟩
      have hS0 : ∀ x, x = stepBars rs u i r → Q (.bl x) H := fun x e => by rw [e]; exact q
      rcases hbv with ⟨rfl, rfl⟩ | ⟨p', r', rfl, rfl, dx', h'⟩
      · refine iteT ?_
        refine hS0 _ ?_
        unfold stepBars
        rw [if_neg (by omega), ho]
      · refine iteF ?_
        refine ⟨_, rfl, _, rfl, b, xs, _, _, rfl, rfl, hS, atI_nat hp, p, _, dx, _, _, rfl, hH, T.cl_Bead, T.n_Bead_across, bf_across r, ?_⟩
        refine ⟨_, rfl, _, rfl, _, _, rfl, rfl, b, xs, _, _, rfl, rfl, hS, hat, p', _, dx', _, _, rfl, h', T.cl_Bead, T.n_Bead_across, bf_across r', _, _, rfl, rfl, ?_⟩
        have eS : stepBars rs u i r = stepBad u (if rs.length < 2 * i then -(r.ac - r'.ac) else r.ac - r'.ac) := by
          unfold stepBars
          rw [if_neg (by omega), ho]
        refine ⟨_, rfl, _, _, rfl, rfl, .inl ⟨by decide, by decide⟩, _, rfl, b, xs, rfl, .inl hS, _, _, rfl, rfl, _, rfl, ?_⟩
        by_cases h2 : rs.length < 2 * i
        · rw [decide_eq_true (show (xs.length : Int) < 2 * (i : Int) by omega)]
          rw [if_pos h2] at eS
          refine iteT ⟨_, rfl, _, rfl, ?_⟩
          refine ⟨_, rfl, _, rfl, m, _, dm, _, _, rfl, hm, T.cl_Rule, T.n_Rule_least, uf_least u, _, _, rfl, rfl, _, rfl, ?_⟩
          by_cases h3 : -(r.ac - r'.ac) < u.lo
          · rw [decide_eq_true h3]
            refine iteT (hS0 _ ?_)
            rw [eS]
            unfold stepBad
            rw [decide_eq_true h3, Bool.true_or]
          · rw [decide_eq_false h3]
            refine iteF ⟨_, rfl, _, rfl, m, _, dm, _, _, rfl, hm, T.cl_Rule, T.n_Rule_most, uf_most u, _, _, rfl, rfl, hS0 _ ?_⟩
            rw [eS]
            unfold stepBad
            rw [decide_eq_false h3, Bool.false_or]
        · rw [decide_eq_false (show ¬ (xs.length : Int) < 2 * (i : Int) by omega)]
          rw [if_neg h2] at eS
          refine iteF ?_
          refine ⟨_, rfl, _, rfl, m, _, dm, _, _, rfl, hm, T.cl_Rule, T.n_Rule_least, uf_least u, _, _, rfl, rfl, _, rfl, ?_⟩
          by_cases h3 : (r.ac - r'.ac) < u.lo
          · rw [decide_eq_true h3]
            refine iteT (hS0 _ ?_)
            rw [eS]
            unfold stepBad
            rw [decide_eq_true h3, Bool.true_or]
          · rw [decide_eq_false h3]
            refine iteF ⟨_, rfl, _, rfl, m, _, dm, _, _, rfl, hm, T.cl_Rule, T.n_Rule_most, uf_most u, _, _, rfl, rfl, hS0 _ ?_⟩
            rw [eS]
            unfold stepBad
            rw [decide_eq_false h3, Bool.false_or]
end
end KB
namespace KB
open PySem PySem.Spec PyProof.Rows L2 KA
section
variable {P : Program} {w : World} {K : PySem.W.Frag} {mg : Str → Option Value} {base : Heap}
def PV (C : Addr) (H : Hp) (v : V) (o : Option Rw) : Prop := BV C H v o
def spPartner (K : PySem.W.Frag) (C : Addr) : Sp := fun vs H Q _ => ∃ (b : Addr) (i : Nat) (xs : List V) (rs : List (Option Rw)), vs = [.ref b, .int i] ∧ SqL K H b xs ∧ Bds C H xs rs ∧ i < rs.length ∧ rs.length ≤ 1000 ∧
  ∀ v, BV C H v (partner rs i) → Q v H
theorem ok_partner_of (T : Tx K mg) : FnOk P w K mg base CX0 1 T.A_partner_of T.fd_partner_of ["beads", "at"] (spPartner K T.C_Bead) := by
  refine T.F_partner_of.ok sc_partner_of (fun vs H Q E h => ?_) (fun cdv A outer s H vs Q E hr h => ?_)
  · obtain ⟨b, i, xs, rs, rfl, hS, hB, hi, hl, q⟩ := h
    rfl
  obtain ⟨b, i, xs, rs, rfl, hS, hB, hi, hl, q⟩ := h
  refine ⟨_, (pss_cons (ps_if (pt_cmpR op_lt (pe_op op_mul pe_int (pv 1)) (pe_callB call_len_seq (by rfl) T.z_len PySem.boot_len (pa_cons (pv 0) pa_nil)) (nomark _)) (pss_one (ps_ret pe_non)) pss_nil)
      (pss_one (ps_ret (pe_ix ix_list (pv 0) (pe_op op_sub (pe_op op_sub (pe_callB call_len_seq (by rfl) T.z_len PySem.boot_len (pa_cons (pv 0) pa_nil)) pe_int) (pv 1)) (fun _ _ => rfl))))), ?_⟩
  have eL := hB.len
  refine ⟨_, rfl, _, _, rfl, rfl, .inl ⟨by decide, by decide⟩, _, rfl, b, xs, rfl, .inl hS, _, _, rfl, rfl, _, rfl, ?_⟩
  by_cases h : 2 * i < rs.length
  · rw [decide_eq_true (show 2 * (i : Int) < (xs.length : Int) by omega)]
    refine iteT (q _ (.inl ⟨rfl, ?_⟩))
    unfold partner
    rw [if_pos h]
  · rw [decide_eq_false (show ¬ 2 * (i : Int) < (xs.length : Int) by omega)]
    obtain ⟨o, ho⟩ : ∃ o, rs[rs.length - 1 - i]? = some o := ⟨_, List.getElem?_eq_getElem (by omega)⟩
    obtain ⟨v, hv, hbv⟩ := hB.get ho
    refine iteF ⟨_, rfl, _, rfl, b, xs, rfl, .inl hS, _, _, rfl, rfl, _, rfl, _, _, rfl, rfl, b, xs, _, v, rfl, rfl, hS, at_of (j := rs.length - 1 - i) (by omega) hv, q v ?_⟩
    have : partner rs i = o := by
      unfold partner
      rw [if_neg h, ho]
      cases o <;> rfl
    rw [this]
    exact hbv
def spLook (C : Addr) : Sp := fun vs H Q _ => ∃ (p p' : Addr) (r r' : Rw), vs = [.ref p, .ref p'] ∧ BeadAt C H p r ∧ BeadAt C H p' r' ∧ Q (.bl (look r r')) H
theorem dec_str (a b : Str) : decide (V.str a = V.str b) = decide (a = b) := by
  rw [decide_eq_decide]
  exact ⟨fun e => by injection e, fun e => by rw [e]⟩
theorem dec_bl (a b : Bool) : decide (V.bl a = V.bl b) = decide (a = b) := by
  rw [decide_eq_decide]
  exact ⟨fun e => by injection e, fun e => by rw [e]⟩
theorem ok_same_look (T : Tx K mg) : FnOk P w K mg base CX0 1 T.A_same_look T.fd_same_look ["bead", "other"] (spLook T.C_Bead) := by
  refine T.F_same_look.ok sc_same_look (fun vs H Q E h => ?_) (fun cdv A outer s H vs Q E hr h => ?_)
  · obtain ⟨p, p', r, r', rfl, ⟨dx, hp⟩, ⟨dx', hp'⟩, q⟩ := h
    rfl
  obtain ⟨p, p', r, r', rfl, ⟨dx, hp⟩, ⟨dx', hp'⟩, q⟩ := h
  refine ⟨_, (pss_one (ps_ret (pe_and (pe_cmpR op_eq (pe_fld (pv 0) rfl) (pe_fld (pv 1) rfl) (nomark _)) (pe_and (pe_cmpR op_eq (pe_fld (pv 0) rfl) (pe_fld (pv 1) rfl) (nomark _)) (pe_one (pe_cmpR op_eq (pe_fld (pv 0) rfl) (pe_fld (pv 1) rfl) (nomark _))))))), ?_⟩
  refine ⟨_, rfl, p, _, dx, _, _, rfl, hp, T.cl_Bead, T.n_Bead_shade, bf_shade r, _, rfl, p', _, dx', _, _, rfl, hp', T.cl_Bead, T.n_Bead_shade, bf_shade r', rfl, _, rfl, ?_⟩
  rw [dec_str]
  have e : look r r' = (decide (r.sh = r'.sh) && (decide (r.fo = r'.fo) && decide (r.dr = r'.dr))) := rfl
  by_cases h1 : r.sh = r'.sh
  · rw [decide_eq_true h1, Bool.true_and] at e
    rw [decide_eq_true h1]
    refine iteT ⟨_, rfl, p, _, dx, _, _, rfl, hp, T.cl_Bead, T.n_Bead_form, bf_form r, _, rfl, p', _, dx', _, _, rfl, hp', T.cl_Bead, T.n_Bead_form, bf_form r', rfl, _, rfl, ?_⟩
    rw [dec_str]
    by_cases h2 : r.fo = r'.fo
    · rw [decide_eq_true h2, Bool.true_and] at e
      rw [decide_eq_true h2]
      refine iteT ⟨_, rfl, p, _, dx, _, _, rfl, hp, T.cl_Bead, T.n_Bead_drilled, bf_drilled r, _, rfl, p', _, dx', _, _, rfl, hp', T.cl_Bead, T.n_Bead_drilled, bf_drilled r', rfl, ?_⟩
      rw [dec_bl, ← e]
      exact q
    · rw [decide_eq_false h2] at e ⊢
      rw [e] at q
      exact iteF q
  · rw [decide_eq_false h1] at e ⊢
    rw [e] at q
    exact iteF q
def spReason (K : PySem.W.Frag) (C D : Addr) : Sp := fun vs H Q _ => ∃ (b m : Addr) (i : Nat) (xs : List V) (rs : List (Option Rw)) (r : Rw) (u : Rl), vs = [.ref b, .int i, .ref m] ∧ SqL K H b xs ∧ Bds C H xs rs ∧ RuleAt D H m u ∧ rs[i]? = some (some r) ∧ rs.length ≤ 1000 ∧
  ∀ H', Same H H' → Q (reason rs u i r) H'
theorem ok_reason_at (T : Tx K mg) : FnOk P w K mg base CX0 2 T.A_reason_at T.fd_reason_at ["beads", "at", "rule"] (spReason K T.C_Bead T.C_Rule) := by
  refine T.F_reason_at.ok sc_reason_at (fun vs H Q E h => ?_) (fun cdv A outer s H vs Q E hr h => ?_)
  · obtain ⟨b, m, i, xs, rs, r, u, rfl, hS, hB, ⟨dm, hm⟩, hi, hl, q⟩ := h
    rfl
  obtain ⟨b, m, i, xs, rs, r, u, rfl, hS, hB, ⟨dm, hm⟩, hi, hl, q⟩ := h
  refine ⟨_, (pss_cons (ps_if (pt_val (pe_call (ok_stands_ahead T) (hr.mono (by decide)) (by rfl) T.g_stands_ahead T.F_stands_ahead.kp T.b_stands_ahead .nil pass0 (pa_cons (pv 0) (pa_cons (pv 1) pa_nil)))) (pss_one (ps_ret pe_str)) pss_nil)
      (pss_cons (ps_if (pt_val (pe_call (ok_breaks_step T) (hr.mono (by decide)) (by rfl) T.g_breaks_step T.F_breaks_step.kp T.b_breaks_step .nil pass0 (pa_cons (pv 0) (pa_cons (pv 1) (pa_cons (pv 2) pa_nil))))) (pss_one (ps_ret pe_str)) pss_nil)
      (pss_cons (ps_set (i := 3) sc_reason_at.nd rfl (Or.inl rfl) (pe_ix ix_list (pv 0) (pv 1) (fun _ _ => rfl)))
      (pss_cons (ps_set (i := 4) sc_reason_at.nd rfl (Or.inl rfl) (pe_call (ok_partner_of T) (hr.mono (by decide)) (by rfl) T.g_partner_of T.F_partner_of.kp T.b_partner_of .nil pass0 (pa_cons (pv 0) (pa_cons (pv 1) pa_nil))))
      (pss_cons (ps_if (pt_cmpR op_isN (pv 4) pe_non (nomark _)) (pss_one (ps_ret pe_non)) pss_nil)
      (pss_cons (ps_if (pt_cmpR op_gt (pe_callB call_abs (by rfl) T.z_abs (by decide +kernel) (pa_cons (pe_op op_sub (pe_fld (pv 3) rfl) (pe_fld (pv 4) rfl)) pa_nil)) (pe_fld (pv 2) rfl) (nomark _)) (pss_one (ps_ret pe_str)) pss_nil)
      (pss_cons (ps_if (PW.pt (pw_and (pt_val (pe_fld (pv 2) rfl)) (pw_and1 (pt_not (pt_val (pe_call (ok_same_look T) (hr.mono (by decide)) (by rfl) T.g_same_look T.F_same_look.kp T.b_same_look .nil pass0 (pa_cons (pv 3) (pa_cons (pv 4) pa_nil)))))))) (pss_one (ps_ret pe_str)) pss_nil)
      (pss_one (ps_ret pe_non))))))))), ?_⟩
  obtain ⟨p, dx, hp, hH⟩ := hB.bead hi
  have hil : i < rs.length := (List.getElem?_eq_some_iff.mp hi).1
  refine ⟨_, rfl, _, rfl, b, i, xs, rs, r, rfl, hS, hB, hi, hl, fun H1 s1 => ⟨_, rfl, ?_⟩⟩
  have hS1 := s1.seq hS
  have hB1 := hB.same (NL.of s1)
  have hm1 := s1 _ _ hm
  have q := q H1 s1
  unfold reason at q
  by_cases h1 : twice rs i r.num = true
  · rw [h1]
    rw [if_pos h1] at q
    exact iteT q
  · rw [if_neg h1] at q
    rw [Bool.not_eq_true] at h1
    rw [h1]
    refine iteF ⟨_, rfl, _, rfl, _, rfl, b, m, i, xs, rs, r, u, rfl, hS1, hB1, ⟨dm, hm1⟩, hi, hl, _, rfl, ?_⟩
    by_cases h2 : stepBars rs u i r = true
    · rw [h2]
      rw [if_pos h2] at q
      exact iteT q
    · rw [if_neg h2] at q
      rw [Bool.not_eq_true] at h2
      rw [h2]
      refine iteF ⟨_, rfl, _, rfl, b, xs, _, _, rfl, rfl, hS1, atI_nat hp, ?_⟩
      refine ⟨_, rfl, _, rfl, b, i, xs, rs, rfl, hS1, hB1, hil, hl, fun v hv => ?_⟩
      refine ⟨_, rfl, rfl, _, rfl, ?_⟩
      rcases hv with ⟨rfl, e⟩ | ⟨p', r', rfl, e, dx', h'⟩
      · rw [e] at q
        exact iteT q
      · rw [e] at q
        have q : Q (if u.far < apart r.ac r'.ac then .str "match" else if (u.shd && !look r r') = true then .str "shade" else .non) H1 := q
        refine iteF ?_
        have hH1 := s1 _ _ hH
        refine ⟨_, rfl, p, _, dx, _, _, rfl, hH1, T.cl_Bead, T.n_Bead_across, bf_across r, _, rfl, p', _, dx', _, _, rfl, h', T.cl_Bead, T.n_Bead_across, bf_across r', _, _, rfl, rfl, _, rfl, ?_⟩
        refine ⟨_, rfl, m, _, dm, _, _, rfl, hm1, T.cl_Rule, T.n_Rule_match, uf_match u, _, _, rfl, rfl, _, rfl, ?_⟩
        show if decide (u.far < apart r.ac r'.ac) = true then _ else _
        by_cases h3 : u.far < apart r.ac r'.ac
        · rw [decide_eq_true h3]
          rw [if_pos h3] at q
          exact iteT q
        · rw [decide_eq_false h3]
          rw [if_neg h3] at q
          refine iteF ⟨_, rfl, m, _, dm, _, _, rfl, hm1, T.cl_Rule, T.n_Rule_shades, uf_shades u, _, rfl, ?_⟩
          by_cases h4 : u.shd = true
          · rw [h4, Bool.true_and] at q
            rw [h4]
            refine iteT ⟨_, rfl, _, rfl, p, p', r, r', rfl, ⟨dx, hH1⟩, ⟨dx', h'⟩, _, rfl, ?_⟩
            by_cases h5 : (!look r r') = true
            · rw [if_pos h5] at q
              rw [h5]
              exact iteT q
            · rw [if_neg h5] at q
              rw [Bool.not_eq_true] at h5
              rw [h5]
              exact iteF q
          · rw [Bool.not_eq_true] at h4
            rw [h4] at q ⊢
            exact iteF (iteF q)
/-- what barred tells -/
def OutV (H : Hp) (o : Option (Nat × V)) (v : V) : Prop := match o with
  | none => v = .non
  | some (i, x) => ∃ t, v = .ref t ∧ H t = some (.tup [.int i, x])
def spBarred (K : PySem.W.Frag) (C D : Addr) : Sp := fun vs H Q _ => ∃ (b m : Addr) (xs : List V) (rs : List (Option Rw)) (u : Rl), vs = [.ref b, .ref m] ∧ SqL K H b xs ∧ Bds C H xs rs ∧ RuleAt D H m u ∧ rs.length ≤ 1000 ∧
  ∀ H' v, Same H H' → OutV H' (bar rs u) v → Q v H'
theorem barFrom_gap {rs : List (Option Rw)} {u : Rl} {k i : Nat} (h : rs[i]? = some none) : barFrom rs u (k + 1) i = barFrom rs u k (i + 1) := by
  show (match rs[i]? with | some (some r) => _ | _ => _) = _
  rw [h]
theorem barFrom_ok {rs : List (Option Rw)} {u : Rl} {k i : Nat} {r : Rw} (h : rs[i]? = some (some r)) (e : reason rs u i r = .non) : barFrom rs u (k + 1) i = barFrom rs u k (i + 1) := by
  show (match rs[i]? with | some (some r) => _ | _ => _) = _
  rw [h]
  exact if_pos e
theorem barFrom_bad {rs : List (Option Rw)} {u : Rl} {k i : Nat} {r : Rw} (h : rs[i]? = some (some r)) (e : ¬ reason rs u i r = .non) : barFrom rs u (k + 1) i = some (i, reason rs u i r) := by
  show (match rs[i]? with | some (some r) => _ | _ => _) = _
  rw [h]
  exact if_neg e
theorem ok_barred (T : Tx K mg) : FnOk P w K mg base CX0 3 T.A_barred T.fd_barred ["beads", "rule"] (spBarred K T.C_Bead T.C_Rule) := by
  refine T.F_barred.ok sc_barred (fun vs H Q E h => ?_) (fun cdv A outer s H vs Q E hr h => ?_)
  · obtain ⟨b, m, xs, rs, u, rfl, hS, hB, hM, hl, q⟩ := h
    rfl
  obtain ⟨b, m, xs, rs, u, rfl, hS, hB, hM, hl, q⟩ := h
  refine ⟨_, (pss_cons (ps_for PassesOwn.never rfl (pi_enum (by rfl) T.z_enumerate (pa_cons (pv 0) pa_nil)) (pg_tup (by rfl) (pgs_cons (pg_name (i := 2) sc_barred.nd rfl (Or.inl rfl)) (pgs_cons (pg_name (i := 3) sc_barred.nd rfl (Or.inl rfl)) pgs_nil)))
        (pss_one (ps_if (pt_cmpR op_notN (pv 3) pe_non (nomark _)) (pss_cons (ps_set (i := 4) sc_barred.nd rfl (Or.inl rfl) (pe_call (ok_reason_at T) (hr.mono (by decide)) (by rfl) T.g_reason_at T.F_reason_at.kp T.b_reason_at .nil pass0 (pa_cons (pv 0) (pa_cons (pv 2) (pa_cons (pv 1) pa_nil)))))
      (pss_one (ps_if (pt_cmpR op_notN (pv 4) pe_non (nomark _)) (pss_one (ps_ret (pe_tup (pa_cons (pv 2) (pa_cons (pv 4) pa_nil))))) pss_nil))) pss_nil)))
      (pss_one (ps_ret pe_non))), ?_⟩
  have eL := hB.len
  refine ⟨_, rfl, b, xs, rfl, hS, for_it (walk_enum (K := K) (a := b) (xs := xs)) (fun i σ H' => ∃ w2 w3 w4, σ = [some (.ref b), some (.ref m), w2, w3, w4] ∧ Same H H' ∧ bar rs u = barFrom rs u (rs.length - i) i) ⟨_, _, _, rfl, Same.refl H, rfl⟩ (fun i σ H' _ h => ?_) ?_ ?_⟩
  · obtain ⟨_, _, _, _, s, _⟩ := h
    exact s.seq hS
  · rintro i x σ H1 H2 hi ⟨w2, w3, w4, rfl, s1, hbar⟩ ⟨t, x1, x2, rfl, nt, rfl, e1, e2⟩
    obtain rfl : V.int (i : Nat) = x1 := Option.some.inj e1
    obtain ⟨o, ho, hv⟩ := hB.at_ i x2 e2
    have st : Same H1 (upd H1 t (.tup [.int (i : Nat), x2])) := same_upd nt
    have s2 := s1.trans st
    have hv := hv.same (NL.of s2)
    obtain ⟨k, hk⟩ : ∃ k, rs.length - i = k + 1 := ⟨rs.length - i - 1, by omega⟩
    have hk' : rs.length - (i + 1) = k := by omega
    rw [hk] at hbar
    refine ⟨t, _, rfl, .inl (.inl upd_same), rfl, _, [x2], rfl, x2, [], rfl, rfl, ?_⟩
    refine ⟨_, rfl, rfl, _, rfl, ?_⟩
    rcases hv with ⟨rfl, rfl⟩ | ⟨p, r, rfl, rfl, hp⟩
    · refine iteF ⟨_, _, _, rfl, s2, ?_⟩
      rw [hbar, hk', barFrom_gap ho]
    · refine iteT ⟨_, rfl, _, rfl, _, rfl, b, m, i, xs, rs, r, u, rfl, s2.seq hS, hB.same (NL.of s2), ?_, ho, hl, fun H3 s3 => ?_⟩
      · obtain ⟨dm, hm⟩ := hM
        exact ⟨dm, s2 _ _ hm⟩
      · refine ⟨_, rfl, rfl, _, rfl, ?_⟩
        by_cases h : reason rs u i r = .non
        · rw [decide_eq_true h]
          refine iteF ⟨_, _, _, rfl, s2.trans s3, ?_⟩
          rw [hbar, hk', barFrom_ok ho h]
        · rw [decide_eq_false h]
          refine iteT ⟨_, rfl, _, rfl, (by show 2 ≤ sizeLine; decide), fun t2 ht2 => ?_⟩
          refine q _ _ ((s2.trans s3).trans (same_upd ht2)) ?_
          rw [hbar, barFrom_bad ho h]
          exact ⟨t2, rfl, upd_same⟩
  · rintro σ H1 ⟨w2, w3, w4, rfl, s1, hbar⟩
    refine q _ _ s1 ?_
    rw [hbar, show rs.length - xs.length = 0 by omega]
    rfl
end
end KB
namespace KB
open PySem PySem.Spec PyProof.Rows L2 KA
section
variable {P : Program} {w : World} {K : PySem.W.Frag} {mg : Str → Option Value} {base : Heap}
def PT : Int → Prop := fun _ => True
theorem dr_nl {PP : Int → Prop} {d : Addr} {n : Nat} {H H' : Hp} (dr : Dr PP d n H) (b : But d H H') : NL H H' := fun c o hn hc => by
  obtain ⟨_, _, _, e, _⟩ := dr
  exact b c o (fun z => by rw [z, e] at hc; exact hn _ (Option.some.inj hc).symm) hc
def spCell (K : PySem.W.Frag) : Sp := fun vs H Q _ => ∃ (a : Addr) (ns : List Int), vs = [.ref a, .int 0] ∧ SqL K H a (ns.map V.int) ∧ Q (.int (ns.headD 0)) H
theorem ok_cell_at (T : Tx K mg) : FnOk P w K mg base CX0 1 T.A_cell_at T.fd_cell_at ["_law_script", "_law_k"] (spCell K) := by
  refine T.F_cell_at.ok sc_cell_at (fun vs H Q E h => ?_) (fun cdv A outer s H vs Q E hr h => ?_)
  · obtain ⟨a, ns, rfl, hS, q⟩ := h
    rfl
  obtain ⟨a, ns, rfl, hS, q⟩ := h
  refine ⟨_, (pss_cons (ps_if (pt_cmpR op_lt (pv 1) (pe_callB call_len_seq (by rfl) T.z_len PySem.boot_len (pa_cons (pv 0) pa_nil)) (nomark _)) (pss_one (ps_ret (pe_ix ix_list (pv 0) (pv 1) (fun _ _ => rfl)))) pss_nil)
      (pss_one (ps_ret pe_int))), ?_⟩
  refine ⟨_, rfl, _, rfl, a, _, rfl, .inl hS, _, _, rfl, rfl, _, rfl, ?_⟩
  cases ns with
  | nil => exact iteF q
  | cons n r =>
    rw [decide_eq_true (show (0 : Int) < (((n :: r).map V.int).length : Int) by rw [List.length_map, List.length_cons]; omega)]
    exact iteT ⟨_, rfl, _, rfl, a, _, _, _, rfl, rfl, hS, atI_nat (j := 0) rfl, q⟩
def spWell : Sp := fun vs H Q _ => ∃ (n : Int), vs = [.int n] ∧ ∀ (d : Addr) (H' : Hp), H d = none → Same H H' → Dr PT d 0 H' → Q (.ref d) H'
theorem ok_well (T : Tx K mg) : FnOk P w K mg base CX0 1 T.A_well T.fd_well ["_law_cell"] (spWell) := by
  refine T.F_well.ok sc_well (fun vs H Q E h => ?_) (fun cdv A outer s H vs Q E hr h => ?_)
  · obtain ⟨n, rfl, q⟩ := h
    rfl
  obtain ⟨n, rfl, q⟩ := h
  refine ⟨_, (pss_one (ps_ret (pe_lst (pa_cons (pe_ix ix_list (pe_lst (pa_cons pe_int (pa_cons (pv 0) pa_nil))) (pe_callTy call_int1 (by rfl) T.z_int (by decide +kernel) (pa_cons (pe_cmpR op_ge (pv 0) (pe_op op_pow pe_int pe_int) (nomark _)) pa_nil)) (fun _ _ => rfl)) (pa_cons (pv 0) (pa_cons pe_int pa_nil)))))), ?_⟩
  refine ⟨_, rfl, (by show 2 ≤ sizeLine; decide), fun l hl => ?_⟩
  refine ⟨_, rfl, _, _, rfl, rfl, ⟨by decide, by decide, by decide⟩, _, _, rfl, rfl, .inr ⟨_, rfl, ?_⟩⟩
  obtain ⟨a, ha⟩ : ∃ a : Int, atI [V.int 0, V.int n] (if decide (10 ^ (18 : Int).toNat ≤ n) = true then (1 : Int) else 0) = some (.int a) := by
    split
    · exact ⟨n, rfl⟩
    · exact ⟨0, rfl⟩
  refine ⟨l, _, _, _, rfl, rfl, SqL.of upd_same, ha, _, rfl, (by show 3 ≤ sizeLine; decide), fun d hd => ?_⟩
  have s1 : Same H (upd H l (.lst [.int 0, .int n])) := same_upd hl
  exact q d _ (s1.free hd) (s1.trans (same_upd hd)) ⟨_, _, _, upd_same, trivial, Int.le_refl _, Int.le_refl _⟩
def spDraw : Sp := fun vs H Q _ => ∃ (d : Addr) (m : Int) (n : Nat), vs = [.ref d, .int m] ∧ 0 < m ∧ m.natAbs.log2 < 9000 ∧ Dr PT d n H ∧ n ≤ 1000000 ∧
  ∀ (H' : Hp) (r : Int), 0 ≤ r → r < m → But d H H' → Dr PT d (n + 1) H' → Q (.int r) H'
theorem ok_draw (T : Tx K mg) : FnOk P w K mg base CX0 1 T.A_draw T.fd_draw ["_law_well_here", "_law_many"] (spDraw) := by
  refine T.F_draw.ok sc_draw (fun vs H Q E h => ?_) (fun cdv A outer s H vs Q E hr h => ?_)
  · obtain ⟨d, m, n, rfl, hm, hl, ⟨a, b, c, hd, _, hc0, hc1⟩, hn, q⟩ := h
    rfl
  obtain ⟨d, m, n, rfl, hm, hl, ⟨a, b, c, hd, _, hc0, hc1⟩, hn, q⟩ := h
  refine ⟨_, (pss_cons (ps_if (pt_cmpR op_gt (pe_ix ix_list (pv 0) pe_int (fun _ _ => rfl)) pe_int (nomark _)) (pss_cons (ps_set (i := 2) sc_draw.nd rfl (Or.inl rfl) (pe_op op_mod (pe_ix ix_list (pv 0) pe_int (fun _ _ => rfl)) (pv 1)))
      (pss_cons (ps_asg (pe_op op_fdivW (pe_ix ix_list (pv 0) pe_int (fun _ _ => rfl)) (pv 1)) (pg_sub (pv 0) pe_int set_list))
      (pss_one (ps_ret (pv 2))))) pss_nil)
      (pss_cons (ps_asg (pe_op op_add (pe_ix ix_list (pv 0) pe_int (fun _ _ => rfl)) pe_int) (pg_sub (pv 0) pe_int set_list))
      (pss_cons (ps_set (i := 3) sc_draw.nd rfl (Or.inl rfl) (pe_op op_mod (pe_op op_fdivW (pe_ix ix_list (pv 0) pe_int (fun _ _ => rfl)) pe_int) pe_int))
      (pss_cons (ps_set (i := 4) sc_draw.nd rfl (Or.inl rfl) (pe_op op_mod (pe_op op_pow (pe_op op_add (pe_op op_add (pe_op op_add (pe_op op_mod (pe_ix ix_list (pv 0) pe_int (fun _ _ => rfl)) pe_int) (pe_op op_mul pe_int (pe_ix ix_list (pv 0) pe_int (fun _ _ => rfl)))) (pv 3)) pe_int) pe_int) pe_int))
      (pss_cons (ps_set (i := 4) sc_draw.nd rfl (Or.inl rfl) (pe_op op_mod (pe_op op_mul (pv 4) (pe_op op_add (pe_op op_add (pe_op op_fdiv (pv 4) pe_int) pe_int) (pe_ix ix_list (pv 0) pe_int (fun _ _ => rfl)))) pe_int))
      (pss_one (ps_ret (pe_op op_mod (pe_op op_mod (pe_op op_mul (pv 4) (pe_op op_add (pe_op op_fdiv (pv 4) pe_int) pe_int)) pe_int) (pv 1))))))))), ?_⟩
  refine ⟨_, rfl, d, _, _, _, rfl, rfl, SqL.of hd, atI_nat (j := 0) rfl, _, _, rfl, rfl, _, rfl, ite2 (fun e => ?_) (fun e => ?_)⟩
  · refine ⟨_, rfl, d, _, _, _, rfl, rfl, SqL.of hd, atI_nat (j := 0) rfl, _, rfl, _, _, rfl, rfl, hm, ?_⟩
    refine ⟨_, rfl, d, _, _, _, rfl, rfl, SqL.of hd, atI_nat (j := 0) rfl, _, rfl, _, _, rfl, rfl, ⟨hm, hl⟩, ?_⟩
    refine ⟨_, rfl, d, _, _, 0, rfl, rfl, hd, rfl, ?_⟩
    exact ⟨_, rfl, q _ _ (Int.emod_nonneg _ (by omega)) (Int.emod_lt_of_pos _ hm) But.at_ ⟨_, _, _, upd_same, trivial, hc0, by omega⟩⟩
  · refine ⟨_, rfl, d, _, _, _, rfl, rfl, SqL.of hd, atI_nat (j := 2) rfl, _, _, rfl, rfl, ?_⟩
    refine ⟨_, rfl, d, _, _, 2, rfl, rfl, hd, rfl, ?_⟩
    have hd' : (upd H d (.lst [.int a, .int b, .int (c + 1)])) d = some (.lst [.int a, .int b, .int (c + 1)]) := upd_same
    have e64 : (2 : Int) ^ 64 = 18446744073709551616 := by decide
    refine ⟨_, rfl, d, _, _, _, rfl, rfl, SqL.of hd', atI_nat (j := 1) rfl, _, _, rfl, rfl, ⟨by decide, by decide⟩, _, _, rfl, rfl, (by show (0 : Int) < 65521; decide), ?_⟩
    have hz0 : 0 ≤ b / 2147483629 % 65521 := Int.emod_nonneg _ (by decide)
    have hz1 : b / 2147483629 % 65521 < 65521 := Int.emod_lt_of_pos _ (by decide)
    have hb0 : 0 ≤ b % 2147483629 := Int.emod_nonneg _ (by decide)
    have hb1 : b % 2147483629 < 2147483629 := Int.emod_lt_of_pos _ (by decide)
    refine ⟨_, rfl, d, _, _, _, rfl, rfl, SqL.of hd', atI_nat (j := 1) rfl, _, _, rfl, rfl, (by show (0 : Int) < 2147483629; decide), _, rfl, d, _, _, _, rfl, rfl, SqL.of hd', atI_nat (j := 2) rfl, _, _, rfl, rfl, .inl ⟨by decide, by decide⟩, _, _, rfl, rfl, _, rfl, _, _, rfl, rfl, _, _, rfl, rfl, _, _, rfl, rfl, ⟨by decide, by decide, ?_⟩, _, _, rfl, rfl, (by show (0 : Int) < 2147483647; decide), ?_⟩
    · have e64 : (2 : Nat) ^ 64 = 18446744073709551616 := by decide
      rw [e64]
      show (b % 2147483629 + 7919 * (c + 1) + b / 2147483629 % 65521 + 1).natAbs < _
      omega
    · generalize hx : (b % 2147483629 + 7919 * (c + 1) + b / 2147483629 % 65521 + 1) ^ (5 : Int).toNat % 2147483647 = x
      have hx0 : 0 ≤ x := by rw [← hx]; exact Int.emod_nonneg _ (by decide)
      have hx1 : x < 2147483647 := by rw [← hx]; exact Int.emod_lt_of_pos _ (by decide)
      refine ⟨_, rfl, _, rfl, _, _, rfl, rfl, ⟨by decide, by decide⟩, _, _, rfl, rfl, _, rfl, d, _, _, _, rfl, rfl, SqL.of hd', atI_nat (j := 2) rfl, _, _, rfl, rfl, _, _, rfl, rfl, .inl ⟨?_, ?_⟩, _, _, rfl, rfl, (by show (0 : Int) < 2147483629; decide), ?_⟩
      · rw [e64]; omega
      · rw [e64]; omega
      · generalize hy : x * (x / 1009 + 69621 + (c + 1)) % 2147483629 = y
        have hy0 : 0 ≤ y := by rw [← hy]; exact Int.emod_nonneg _ (by decide)
        have hy1 : y < 2147483629 := by rw [← hy]; exact Int.emod_lt_of_pos _ (by decide)
        refine ⟨_, rfl, _, rfl, _, _, rfl, rfl, ⟨by decide, by decide⟩, _, _, rfl, rfl, _, _, rfl, rfl, .inl ⟨?_, ?_⟩, _, _, rfl, rfl, (by show (0 : Int) < 2147483399; decide), _, rfl, _, _, rfl, rfl, hm, ?_⟩
        · rw [e64]; omega
        · rw [e64]; omega
        · exact q _ _ (Int.emod_nonneg _ (by omega)) (Int.emod_lt_of_pos _ hm) But.at_ ⟨_, _, _, upd_same, trivial, by omega, by omega⟩
def spOf (K : PySem.W.Frag) : Sp := fun vs H Q _ => ∃ (d b : Addr) (n : Nat) (xs : List V), vs = [.ref d, .ref b] ∧ b ≠ d ∧ SqL K H b xs ∧ xs ≠ [] ∧ xs.length ≤ 1000 ∧ Dr PT d n H ∧ n ≤ 1000000 ∧
  ∀ (H' : Hp) (v : V), v ∈ xs → But d H H' → Dr PT d (n + 1) H' → Q v H'
theorem ok_one (T : Tx K mg) : FnOk P w K mg base CX0 2 T.A_one T.fd_one ["_law_well_here", "_law_some"] (spOf K) := by
  refine T.F_one.ok sc_one (fun vs H Q E h => ?_) (fun cdv A outer s H vs Q E hr h => ?_)
  · obtain ⟨d, b, n, xs, rfl, hbd, hS, hne, hlen, dr, hn, q⟩ := h
    rfl
  obtain ⟨d, b, n, xs, rfl, hbd, hS, hne, hlen, dr, hn, q⟩ := h
  refine ⟨_, (pss_one (ps_ret (pe_ix ix_list (pv 1) (pe_call (ok_draw T) (hr.mono (by decide)) (by rfl) T.g_draw T.F_draw.kp T.b_draw .nil pass0 (pa_cons (pv 0) (pa_cons (pe_callB call_len_seq (by rfl) T.z_len PySem.boot_len (pa_cons (pv 1) pa_nil)) pa_nil))) (fun _ _ => rfl)))), ?_⟩
  have hl : 0 < (xs.length : Int) := by
    cases xs with
    | nil => exact absurd rfl hne
    | cons x r => rw [List.length_cons]; omega
  refine ⟨_, rfl, _, rfl, _, rfl, b, xs, rfl, .inl hS, d, _, n, rfl, hl, log_tiny hl (by omega), dr, hn, fun H' r h0 h1 bt dr' => ?_⟩
  obtain ⟨j, rfl⟩ : ∃ j : Nat, r = (j : Int) := ⟨r.toNat, by omega⟩
  have hj : j < xs.length := by omega
  exact ⟨b, xs, _, _, rfl, rfl, but_seq bt hbd hS, atI_nat (List.getElem?_eq_getElem hj), q H' _ (List.getElem_mem hj) bt dr'⟩
def spWord : Sp := fun vs H Q _ => ∃ (d : Addr) (n : Nat), vs = [.ref d] ∧ Dr PT d n H ∧ n ≤ 100000 ∧
  ∀ (H' : Hp) (z : Str), nm (.str z) = true → But d H H' → Dr PT d (n + 10) H' → Q (.str z) H'
theorem ok_word (T : Tx K mg) : FnOk P w K mg base CX0 2 T.A_word T.fd_word ["_law_well_here"] (spWord) := by
  refine T.F_word.ok sc_word (fun vs H Q E h => ?_) (fun cdv A outer s H vs Q E hr h => ?_)
  · obtain ⟨d, n, rfl, dr, hn, q⟩ := h
    rfl
  obtain ⟨d, n, rfl, dr, hn, q⟩ := h
  refine ⟨_, (pss_one (ps_ret (pe_bm PySem.F.plainAttrs_str PySem.F.slot_str_join PySem.F.type_str_join mt_join pe_str (pa_cons (pe_lc (own := [("_law_k", 1)]) (g := gName 1) (tt := tYes) rfl sc_word.nd (pi_range1 (by rfl) T.z_range (pa_cons (pe_op op_add pe_int (pe_call (ok_draw T) (hr.mono (by decide)) (by rfl) T.g_draw T.F_draw.kp T.b_draw .nil pass0 (pa_cons (pv 0) (pa_cons pe_int pa_nil)))) pa_nil)) (blkOk_by (N := ["_law_well_here", "_law_k"]) (sc := defScope s_word) (by decide +kernel)) (fun _ _ _ _ _ => (pg_name (i := 1) sc_word.nd rfl (Or.inl rfl))) (fun _ _ _ _ _ => pts_nil) (fun _ _ _ _ _ => (pe_ix ix_str pe_str (pe_call (ok_draw T) (hr.mono (by decide)) (by rfl) T.g_draw T.F_draw.kp T.b_draw .nil pass0 (pa_cons (pv 0) (pa_cons pe_int pa_nil))) (fun _ _ => rfl)))) pa_nil)))), ?_⟩
  refine ⟨rfl, _, rfl, d, 8, n, rfl, by decide, log_tiny (by decide) (by decide), dr, by omega, fun H1 r h0 h1 b1 dr1 => ?_⟩
  refine ⟨_, _, rfl, rfl, _, rfl, by omega, by omega, fun D hD => lc_draw (d := d) (n := n + 1) (k := (1 + r).toNat) hD dr1 (by omega) lower ?_ ?_⟩
  · intro i H2 R C hi dr2 hR
    refine ⟨rfl, yesT ?_⟩
    refine ⟨_, rfl, d, 26, n + 1 + i, rfl, by decide, log_tiny (by decide) (by decide), dr2, by omega, fun H3 r2 g0 g1 b3 dr3 => ?_⟩
    obtain ⟨c, hc, hl⟩ := az_at g0 g1
    exact ⟨_, _, c, rfl, rfl, (by decide +kernel), hc, hR H3 c hl b3 dr3⟩
  · intro H' cs hl hp b2 dr2 e2
    refine ⟨_, D, cs.map (fun c => ⟨#[c]⟩), rfl, rfl, .inl (SqL.of (by rw [map_sg]; exact e2)), ?_, ?_⟩
    · rw [size_signs, List.length_map]
      show _ + _ * 0 ≤ _
      omega
    · refine q H' _ ?_ (b1.trans b2) (dr2.mono (by omega))
      have ez := join_text (y := "") rfl cs
      have lz := join_len (y := "") rfl cs
      generalize Txt.join ("" : Str) (cs.map fun c => (⟨#[c]⟩ : Str)) = z at ez lz
      show (decide (1 ≤ z.length) && decide (z.length ≤ 8) && z.cps.toList.all lower) = true
      rw [decide_eq_true (show 1 ≤ z.length by omega), decide_eq_true (show z.length ≤ 8 by omega), ez, Bool.true_and, Bool.true_and, List.all_eq_true]
      exact hp
def fourVals (u : Rl) : List V := [.int u.lo, .int u.hi, .int u.far, .bl u.shd]
def GoodU (u : Rl) : Prop := GoodRl u ∧ u.hi ≤ 100 ∧ u.far ≤ 100
theorem zero_of {v : V} {xs : List V} (P : Int → Prop) (h : v ∈ xs) (hx : ∀ x ∈ xs, ∃ k, x = .int k ∧ P k) : ∃ k, v = .int k ∧ P k := hx v h
def spRuleT (K : PySem.W.Frag) : Sp := fun vs H Q _ => ∃ (d : Addr) (n : Nat), vs = [.ref d] ∧ Dr PT d n H ∧ n ≤ 100000 ∧
  ∀ (H' : Hp) (t : Addr) (u : Rl), GoodU u → H' t = some (.tup (fourVals u)) → But d H H' → Dr PT d (n + 10) H' → Q (.ref t) H'
theorem ok_rule (T : Tx K mg) : FnOk P w K mg base CX0 3 T.A_rule T.fd_rule ["_law_well_here"] (spRuleT K) := by
  refine T.F_rule.ok sc_rule (fun vs H Q E h => ?_) (fun cdv A outer s H vs Q E hr h => ?_)
  · obtain ⟨d, n, rfl, dr, hn, q⟩ := h
    rfl
  obtain ⟨d, n, rfl, dr, hn, q⟩ := h
  refine ⟨_, (pss_cons (ps_set (i := 1) sc_rule.nd rfl (Or.inl rfl) (pe_call (ok_one T) (hr.mono (by decide)) (by rfl) T.g_one T.F_one.kp T.b_one .nil pass0 (pa_cons (pv 0) (pa_cons (pe_lst (pa_cons pe_int (pa_cons pe_int (pa_cons pe_int (pa_cons pe_int (pa_cons (pe_call (ok_draw T) (hr.mono (by decide)) (by rfl) T.g_draw T.F_draw.kp T.b_draw .nil pass0 (pa_cons (pv 0) (pa_cons pe_int pa_nil))) pa_nil)))))) pa_nil))))
      (pss_cons (ps_set (i := 2) sc_rule.nd rfl (Or.inl rfl) (pe_op op_add (pv 1) (pe_call (ok_one T) (hr.mono (by decide)) (by rfl) T.g_one T.F_one.kp T.b_one .nil pass0 (pa_cons (pv 0) (pa_cons (pe_lst (pa_cons pe_int (pa_cons pe_int (pa_cons pe_int (pa_cons pe_int (pa_cons (pe_call (ok_draw T) (hr.mono (by decide)) (by rfl) T.g_draw T.F_draw.kp T.b_draw .nil pass0 (pa_cons (pv 0) (pa_cons pe_int pa_nil))) pa_nil)))))) pa_nil)))))
      (pss_cons (ps_set (i := 3) sc_rule.nd rfl (Or.inl rfl) (pe_call (ok_one T) (hr.mono (by decide)) (by rfl) T.g_one T.F_one.kp T.b_one .nil pass0 (pa_cons (pv 0) (pa_cons (pe_lst (pa_cons pe_int (pa_cons pe_int (pa_cons pe_int (pa_cons pe_int (pa_cons (pe_call (ok_draw T) (hr.mono (by decide)) (by rfl) T.g_draw T.F_draw.kp T.b_draw .nil pass0 (pa_cons (pv 0) (pa_cons pe_int pa_nil))) pa_nil)))))) pa_nil))))
      (pss_one (ps_ret (pe_tup (pa_cons (pv 1) (pa_cons (pv 2) (pa_cons (pv 3) (pa_cons (pe_cmpR op_gt (pe_call (ok_draw T) (hr.mono (by decide)) (by rfl) T.g_draw T.F_draw.kp T.b_draw .nil pass0 (pa_cons (pv 0) (pa_cons pe_int pa_nil))) pe_int (nomark _)) pa_nil)))))))))), ?_⟩
  refine ⟨_, rfl, _, rfl, d, 40, n, rfl, by decide, log_tiny (by decide) (by decide), dr, by omega, fun H1 r1 a1 c1 b1 dr1 => ?_⟩
  refine ⟨(by show 5 ≤ sizeLine; decide), fun l1 hl1 => ?_⟩
  have nl1 := dr1.ne hl1
  refine ⟨d, l1, n + 1, _, rfl, nl1, SqL.of upd_same, by simp, by show 5 ≤ 1000; decide, dr1.upd nl1, by omega, fun H2 v hv b2 dr2 => ?_⟩
  obtain ⟨lo, rfl, hlo⟩ : ∃ k, v = .int k ∧ (0 ≤ k ∧ k < 40) := zero_of (fun k => 0 ≤ k ∧ k < 40) hv (by
    intro x hx
    simp only [List.mem_cons, List.not_mem_nil, or_false] at hx
    rcases hx with e | e | e | e | e <;> exact ⟨_, e, by omega⟩)
  refine ⟨_, rfl, _, rfl, _, rfl, d, 60, n + 2, rfl, by decide, log_tiny (by decide) (by decide), dr2, by omega, fun H3 r3 a3 c3 b3 dr3 => ?_⟩
  refine ⟨(by show 5 ≤ sizeLine; decide), fun l3 hl3 => ?_⟩
  have nl3 := dr3.ne hl3
  refine ⟨d, l3, n + 3, _, rfl, nl3, SqL.of upd_same, by simp, by show 5 ≤ 1000; decide, dr3.upd nl3, by omega, fun H4 v hv b4 dr4 => ?_⟩
  obtain ⟨up, rfl, hup⟩ : ∃ k, v = .int k ∧ (0 ≤ k ∧ k < 60) := zero_of (fun k => 0 ≤ k ∧ k < 60) hv (by
    intro x hx
    simp only [List.mem_cons, List.not_mem_nil, or_false] at hx
    rcases hx with e | e | e | e | e <;> exact ⟨_, e, by omega⟩)
  refine ⟨_, _, rfl, rfl, ?_⟩
  refine ⟨_, rfl, _, rfl, d, 30, n + 4, rfl, by decide, log_tiny (by decide) (by decide), dr4, by omega, fun H5 r5 a5 c5 b5 dr5 => ?_⟩
  refine ⟨(by show 5 ≤ sizeLine; decide), fun l5 hl5 => ?_⟩
  have nl5 := dr5.ne hl5
  refine ⟨d, l5, n + 5, _, rfl, nl5, SqL.of upd_same, by simp, by show 5 ≤ 1000; decide, dr5.upd nl5, by omega, fun H6 v hv b6 dr6 => ?_⟩
  obtain ⟨far, rfl, hfar⟩ : ∃ k, v = .int k ∧ (0 ≤ k ∧ k < 30) := zero_of (fun k => 0 ≤ k ∧ k < 30) hv (by
    intro x hx
    simp only [List.mem_cons, List.not_mem_nil, or_false] at hx
    rcases hx with e | e | e | e | e <;> exact ⟨_, e, by omega⟩)
  refine ⟨_, rfl, _, rfl, _, rfl, _, rfl, d, 3, n + 6, rfl, by decide, log_tiny (by decide) (by decide), dr6, by omega, fun H7 r7 a7 c7 b7 dr7 => ?_⟩
  refine ⟨_, _, rfl, rfl, (by show 4 ≤ sizeLine; decide), fun t ht => ?_⟩
  refine q _ t ⟨lo, lo + up, far, decide (0 < r7)⟩ ⟨⟨by show 0 ≤ lo; omega, by show lo ≤ lo + up; omega, by show 0 ≤ far; omega⟩, by show lo + up ≤ 100; omega, by show far ≤ 100; omega⟩ upd_same ?_ ((dr7.upd (dr7.ne ht)).mono (by omega))
  exact (b1.trans ((But.new hl1).trans b2)).trans ((b3.trans ((But.new hl3).trans b4)).trans ((b5.trans ((But.new hl5).trans b6)).trans (b7.trans (But.new ht))))
def spNear : Sp := fun vs H Q _ => ∃ (d : Addr) (lo hi : Int) (n : Nat), vs = [.ref d, .int lo, .int hi] ∧ lo ≤ hi ∧ hi - lo ≤ 1000 ∧ Dr PT d n H ∧ n ≤ 100000 ∧
  ∀ (H' : Hp) (r : Int), lo - 1 ≤ r → r ≤ hi + 1 → But d H H' → Dr PT d (n + 2) H' → Q (.int r) H'
theorem ok_near (T : Tx K mg) : FnOk P w K mg base CX0 3 T.A_near T.fd_near ["_law_well_here", "_law_low", "_law_top"] (spNear) := by
  refine T.F_near.ok sc_near (fun vs H Q E h => ?_) (fun cdv A outer s H vs Q E hr h => ?_)
  · obtain ⟨d, lo, hi, n, rfl, h1, h2, dr, hn, q⟩ := h
    rfl
  obtain ⟨d, lo, hi, n, rfl, h1, h2, dr, hn, q⟩ := h
  refine ⟨_, (pss_cons (ps_set (i := 3) sc_near.nd rfl (Or.inl rfl) (pe_op op_sub (pv 2) (pv 1)))
      (pss_one (ps_ret (pe_op op_add (pv 1) (pe_call (ok_one T) (hr.mono (by decide)) (by rfl) T.g_one T.F_one.kp T.b_one .nil pass0 (pa_cons (pv 0) (pa_cons (pe_lst (pa_cons pe_int (pa_cons (pv 3) (pa_cons (pe_call (ok_draw T) (hr.mono (by decide)) (by rfl) T.g_draw T.F_draw.kp T.b_draw .nil pass0 (pa_cons (pv 0) (pa_cons (pe_op op_add (pv 3) pe_int) pa_nil))) (pa_cons (pe_op op_add (pv 3) pe_int) (pa_cons (pe_un un_neg pe_int) pa_nil)))))) pa_nil))))))), ?_⟩
  refine ⟨_, rfl, _, rfl, _, _, rfl, rfl, ?_⟩
  refine ⟨_, rfl, _, rfl, _, rfl, _, rfl, _, rfl, _, _, rfl, rfl, d, _, n, rfl, (by show 0 < hi - lo + 1; omega), log_tiny (by show 0 < hi - lo + 1; omega) (by show hi - lo + 1 < _; omega), dr, by omega, fun H1 r1 a1 c1 b1 dr1 => ?_⟩
  refine ⟨_, rfl, _, _, rfl, rfl, _, rfl, (by show 5 ≤ sizeLine; decide), fun l1 hl1 => ?_⟩
  have nl1 := dr1.ne hl1
  refine ⟨d, l1, n + 1, _, rfl, nl1, SqL.of upd_same, by simp, by show 5 ≤ 1000; decide, dr1.upd nl1, by omega, fun H2 v hv b2 dr2 => ?_⟩
  obtain ⟨k, rfl, hk⟩ : ∃ k, v = .int k ∧ (-1 ≤ k ∧ k ≤ hi - lo + 1) := zero_of (fun k => -1 ≤ k ∧ k ≤ hi - lo + 1) hv (by
    intro x hx
    simp only [List.mem_cons, List.not_mem_nil, or_false] at hx
    rcases hx with e | e | e | e | e <;> exact ⟨_, e, by omega⟩)
  exact ⟨_, _, rfl, rfl, q _ _ (by omega) (by omega) (b1.trans ((But.new hl1).trans b2)) dr2⟩
end
end KB
namespace KB
open PySem PySem.Spec PyProof.Rows L2 KA
section
variable {P : Program} {w : World} {K : PySem.W.Frag} {mg : Str → Option Value} {base : Heap}
def spAcross (K : PySem.W.Frag) : Sp := fun vs H Q _ => ∃ (d t : Addr) (m : Int) (n : Nat) (u : Rl), vs = [.ref d, .int m, .ref t] ∧ 0 ≤ m ∧ m ≤ 60 ∧ H t = some (.tup (fourVals u)) ∧ GoodU u ∧ Dr PT d n H ∧ n ≤ 10000 ∧
  ∀ (H' : Hp) (p : Addr) (zs : List V), H p = none → p ≠ d → H' p = some (.lst zs) → zs.length ≤ 200 → (∀ v ∈ zs, ∃ x, v = .int x ∧ x ≤ 100000) → But d H H' → Dr PT d (n + 200) H' → Q (.ref p) H'
theorem map_last {pre : List Int} {x : Int} : atI ((pre ++ [x]).map V.int) (-1) = some (.int x) := by
  rw [List.map_append]
  exact atI_last _ _
theorem ok_across (T : Tx K mg) : FnOk P w K mg base CX0 4 T.A_across T.fd_across ["_law_well_here", "_law_places", "_law_rule_here"] (spAcross K) := by
  refine T.F_across.ok sc_across (fun vs H Q E h => ?_) (fun cdv A outer s H vs Q E hr h => ?_)
  · obtain ⟨d, t, m, n, u, rfl, hm0, hm1, ht, ⟨⟨g1, g2, g3⟩, g4, g5⟩, dr, hn, q⟩ := h
    rfl
  obtain ⟨d, t, m, n, u, rfl, hm0, hm1, ht, ⟨⟨g1, g2, g3⟩, g4, g5⟩, dr, hn, q⟩ := h
  refine ⟨_, (pss_cons (ps_set (i := 3) sc_across.nd rfl (Or.inl rfl) (pe_lst (pa_cons (pe_op op_add pe_int (pe_call (ok_draw T) (hr.mono (by decide)) (by rfl) T.g_draw T.F_draw.kp T.b_draw .nil pass0 (pa_cons (pv 0) (pa_cons pe_int pa_nil)))) pa_nil)))
      (pss_cons (ps_set (i := 4) sc_across.nd rfl (Or.inl rfl) (pe_lst pa_nil))
      (pss_cons (ps_for PassesOwn.never rfl (pi_range1 (by rfl) T.z_range (pa_cons (pe_op op_fdiv (pe_op op_add (pv 1) pe_int) pe_int) pa_nil)) (pg_name (i := 5) sc_across.nd rfl (Or.inl rfl))
        (pss_cons (ps_expr (pe_bm PySem.F.plainAttrs_list PySem.F.slot_list_append PySem.F.type_list_append mt_append (pv 4) (pa_cons (pe_op op_add (pe_ix ix_list (pv 3) (pe_un un_neg pe_int) (fun _ _ => rfl)) (pe_call (ok_near T) (hr.mono (by decide)) (by rfl) T.g_near T.F_near.kp T.b_near .nil pass0 (pa_cons (pv 0) (pa_cons (pe_op op_sub pe_int (pe_ix ix_tup (pv 2) pe_int (fun _ _ => rfl))) (pa_cons (pe_ix ix_tup (pv 2) pe_int (fun _ _ => rfl)) pa_nil))))) pa_nil)))
      (pss_one (ps_expr (pe_bm PySem.F.plainAttrs_list PySem.F.slot_list_append PySem.F.type_list_append mt_append (pv 3) (pa_cons (pe_op op_add (pe_ix ix_list (pv 3) (pe_un un_neg pe_int) (fun _ _ => rfl)) (pe_call (ok_near T) (hr.mono (by decide)) (by rfl) T.g_near T.F_near.kp T.b_near .nil pass0 (pa_cons (pv 0) (pa_cons (pe_ix ix_tup (pv 2) pe_int (fun _ _ => rfl)) (pa_cons (pe_ix ix_tup (pv 2) pe_int (fun _ _ => rfl)) pa_nil))))) pa_nil))))))
      (pss_cons (ps_set (i := 3) sc_across.nd rfl (Or.inl rfl) (pe_slice sl_list (pv 3) po_none (po_some (pe_op op_fdiv (pe_op op_add (pv 1) pe_int) pe_int))))
      (pss_one (ps_ret (pe_op op_cat (pv 3) (pe_revL (pe_slice sl_list (pv 4) po_none (po_some (pe_op op_fdiv (pv 1) pe_int))))))))))), ?_⟩
  have ntd : t ≠ d := by
    obtain ⟨_, _, _, e, _⟩ := dr
    exact fun z => by rw [z, e] at ht; cases ht
  refine ⟨_, rfl, d, 90, n, rfl, by decide, log_tiny (by decide) (by decide), dr, by omega, fun H1 r1 a1 c1 b1 dr1 => ?_⟩
  refine ⟨_, _, rfl, rfl, (by show 1 ≤ sizeLine; decide), fun l hl => ?_⟩
  have nl := dr1.ne hl
  have drl := dr1.upd (o := .lst [.int (400 + r1)]) nl
  refine ⟨Nat.zero_le _, fun rr hrr => ?_⟩
  have nr := drl.ne hrr
  have nlr : l ≠ rr := fun z => by rw [← z, upd_same] at hrr; cases hrr
  have hl0 : H l = none := b1.free nl hl
  have hr0 : H rr = none := (b1.trans (But.new hl)).free nr hrr
  refine ⟨_, rfl, _, _, rfl, rfl, _, _, rfl, rfl, ⟨by decide, by decide⟩, _, rfl, by omega, by omega, ?_⟩
  refine for_range (lo := 0) (n := ((m + 1) / 2).toNat) (fun i σ H' => ∃ (w5 : Option V) (pre rs : List Int) (x : Int), σ = [some (.ref d), some (.int m), some (.ref t), some (.ref l), some (.ref rr), w5] ∧ H' l = some (.lst ((pre ++ [x]).map V.int)) ∧ H' rr = some (.lst (rs.map V.int)) ∧ pre.length = i ∧ rs.length = i ∧ (∀ y ∈ pre ++ [x], y ≤ 500 + 200 * (i : Int)) ∧ (∀ y ∈ rs, y ≤ 1000 + 200 * (i : Int)) ∧ But d H H' ∧ Dr PT d (n + 1 + 4 * i) H')
    ⟨none, [], [], 400 + r1, rfl, ?_, upd_same, rfl, rfl, ?_, (fun _ h => nomatch h), (b1.trans (But.new hl)).trans (But.new hrr), drl.upd nr⟩ ?_ ?_
  · rw [upd_ne nlr]
    exact upd_same
  · intro y hy
    have : y = 400 + r1 := by simpa using hy
    omega
  · rintro i σ H2 hi ⟨w5, pre, rs, x, rfl, el, er, lp, lr, bp, br, b2, dr2⟩
    have hx : x ≤ 500 + 200 * (i : Int) := bp x (by simp)
    have ht2 := b2 _ _ ntd ht
    refine ⟨_, rfl, .inl ⟨rfl, _, SqL.of er⟩, _, rfl, 1, rfl, l, _, _, _, rfl, rfl, SqL.of el, map_last, ?_⟩
    refine ⟨_, rfl, _, rfl, t, _, _, _, rfl, rfl, .inl (.inl ht2), atI_nat (j := 2) rfl, _, _, rfl, rfl, _, rfl, t, _, _, _, rfl, rfl, .inl (.inl ht2), atI_nat (j := 2) rfl, ?_⟩
    refine ⟨d, _, _, n + 1 + 4 * i, rfl, (by show 0 - u.far ≤ u.far; omega), (by show u.far - (0 - u.far) ≤ 1000; omega), dr2, by omega, fun H3 r3 a3 c3 b3 dr3 => ?_⟩
    have el3 := b3 _ _ nl el
    have er3 := b3 _ _ nr er
    refine ⟨_, _, rfl, rfl, rr, _, _, rfl, rfl, er3, ?_, ?_⟩
    · rw [List.length_map, lr]
      exact Nat.lt_of_lt_of_le (show i < 100 by omega) (by decide)
    have el4 : (upd H3 rr (.lst (rs.map V.int ++ [.int (x + r3)]))) l = some (.lst ((pre ++ [x]).map V.int)) := by
      rw [upd_ne nlr]
      exact el3
    have ht4 : (upd H3 rr (.lst (rs.map V.int ++ [.int (x + r3)]))) t = some (.tup (fourVals u)) := by
      rw [upd_ne (fun z => by rw [← z, (b2.trans b3) _ _ ntd ht] at er3; cases er3)]
      exact (b2.trans b3) _ _ ntd ht
    have dr4 := dr3.upd (o := .lst (rs.map V.int ++ [.int (x + r3)])) nr
    refine ⟨_, rfl, .inl ⟨rfl, _, SqL.of el4⟩, _, rfl, 1, rfl, l, _, _, _, rfl, rfl, SqL.of el4, map_last, ?_⟩
    refine ⟨_, rfl, _, rfl, t, _, _, _, rfl, rfl, .inl (.inl ht4), atI_nat (j := 0) rfl, _, rfl, t, _, _, _, rfl, rfl, .inl (.inl ht4), atI_nat (j := 1) rfl, ?_⟩
    refine ⟨d, _, _, n + 1 + 4 * i + 2, rfl, g2, (by show u.hi - u.lo ≤ 1000; omega), dr4, by omega, fun H5 r5 a5 c5 b5 dr5 => ?_⟩
    have el5 := b5 _ _ nl el4
    have er5 := b5 _ _ nr upd_same
    refine ⟨_, _, rfl, rfl, l, _, _, rfl, rfl, el5, ?_, ?_⟩
    · rw [List.length_map, List.length_append, lp]
      exact Nat.lt_of_lt_of_le (show i + 1 < 100 by omega) (by decide)
    refine ⟨_, pre ++ [x], rs ++ [x + r3], x + r5, rfl, ?_, ?_, ?_, ?_, ?_, ?_, ?_, ?_⟩
    · rw [upd_same, List.map_append (l₂ := [x + r5])]
      rfl
    · rw [upd_ne nlr.symm, er5, List.map_append]
      rfl
    · rw [List.length_append, lp]
      rfl
    · rw [List.length_append, lr]
      rfl
    · intro y hy
      rcases List.mem_append.mp hy with h | h
      · have := bp y h
        omega
      · have : y = x + r5 := by simpa using h
        omega
    · intro y hy
      rcases List.mem_append.mp hy with h | h
      · have := br y h
        omega
      · have : y = x + r3 := by simpa using h
        omega
    · exact (((b2.trans b3).mut hr0).trans b5).mut hl0
    · exact (dr5.upd nl).mono (by omega)
  · rintro σ H2 ⟨w5, pre, rs, x, rfl, el, er, lp, lr, bp, br, b2, dr2⟩
    refine ⟨_, rfl, _, rfl, _, _, rfl, rfl, _, _, rfl, rfl, ⟨by decide, by decide⟩, _, rfl, l, _, rfl, SqL.of el, fun p hp => ?_⟩
    have np := dr2.ne hp
    have npr : rr ≠ p := ne_of_none er hp
    have dr3 := dr2.upd (o := .lst (cutV ((pre ++ [x]).map V.int) none (some ((m + 1) / 2)))) np
    refine ⟨_, rfl, _, rfl, _, rfl, _, _, rfl, rfl, ⟨by decide, by decide⟩, _, rfl, rr, _, rfl, SqL.of (same_upd hp _ _ er), fun p2 hp2 => ?_⟩
    have np2 := dr3.ne hp2
    have dr4 := dr3.upd (o := .lst (cutV (rs.map V.int) none (some (m / 2)))) np2
    refine ⟨p2, _, rfl, SqL.of upd_same, fun p3 hp3 => ?_⟩
    have np3 := dr4.ne hp3
    have dr5 := dr4.upd (o := .lst (cutV (rs.map V.int) none (some (m / 2))).reverse) np3
    have c1 := len_cut ((pre ++ [x]).map V.int) none (some ((m + 1) / 2))
    have c2 := len_cut (rs.map V.int) none (some (m / 2))
    rw [List.length_map, List.length_append, lp, List.length_singleton] at c1
    rw [List.length_map, lr] at c2
    have hmn : ((m + 1) / 2).toNat ≤ 31 := by omega
    refine ⟨p, p3, _, _, rfl, rfl, same_upd hp3 _ _ (same_upd hp2 _ _ upd_same), upd_same, sz _ (by rw [List.length_reverse]; omega), fun p4 hp4 => ?_⟩
    have np4 := dr5.ne hp4
    have b3 : But d H (upd (upd (upd H2 p (.lst (cutV ((pre ++ [x]).map V.int) none (some ((m + 1) / 2))))) p2 (.lst (cutV (rs.map V.int) none (some (m / 2))))) p3 (.lst (cutV (rs.map V.int) none (some (m / 2))).reverse)) := ((b2.trans (But.new hp)).trans (But.new hp2)).trans (But.new hp3)
    refine q _ p4 _ (b3.free np4 hp4) np4 upd_same ?_ ?_ (b3.trans (But.new hp4)) ((dr5.upd np4).mono (by omega))
    · rw [List.length_append, List.length_reverse]
      omega
    · intro v hv
      rcases List.mem_append.mp hv with h | h
      · obtain ⟨y, hy, rfl⟩ := List.mem_map.mp (mem_cut h)
        exact ⟨y, rfl, by have := bp y hy; omega⟩
      · obtain ⟨y, hy, rfl⟩ := List.mem_map.mp (mem_cut (List.mem_reverse.mp h))
        exact ⟨y, rfl, by have := br y hy; omega⟩
end
end KB
namespace KB
open PySem PySem.Spec PyProof.Rows L2 KA
section
variable {P : Program} {w : World} {K : PySem.W.Frag} {mg : Str → Option Value} {base : Heap}
/-- a row as a tuple, or None -/
def RowV (K : PySem.W.Frag) (H : Hp) (v : V) (o : Option Rw) : Prop := (v = .non ∧ o = none) ∨ ∃ p r, v = .ref p ∧ o = some r ∧ SqT K H p (rowVals r)
structure Rws (K : PySem.W.Frag) (H : Hp) (vs : List V) (rs : List (Option Rw)) : Prop where
  len : vs.length = rs.length
  at_ : ∀ (i : Nat) (v : V), vs[i]? = some v → ∃ o, rs[i]? = some o ∧ RowV K H v o
theorem RowV.same {K : PySem.W.Frag} {H H' : Hp} {v : V} {o : Option Rw} (s : NL H H') (h : RowV K H v o) : RowV K H' v o := by
  rcases h with h | ⟨p, r, h1, h2, h3⟩
  · exact .inl h
  · exact .inr ⟨p, r, h1, h2, nl_tup s h3⟩
theorem Rws.same {K : PySem.W.Frag} {H H' : Hp} {vs : List V} {rs : List (Option Rw)} (s : NL H H') (h : Rws K H vs rs) : Rws K H' vs rs :=
  ⟨h.len, fun i v hv => by
    obtain ⟨o, h1, h2⟩ := h.at_ i v hv
    exact ⟨o, h1, h2.same s⟩⟩
theorem Rws.get {K : PySem.W.Frag} {H : Hp} {vs : List V} {rs : List (Option Rw)} (h : Rws K H vs rs) {i : Nat} {o : Option Rw} (ho : rs[i]? = some o) : ∃ v, vs[i]? = some v ∧ RowV K H v o := by
  have hi : i < vs.length := by
    rw [h.len]
    exact (List.getElem?_eq_some_iff.mp ho).1
  obtain ⟨o', h1, h2⟩ := h.at_ i _ (List.getElem?_eq_getElem hi)
  have : o = o' := Option.some.inj (ho.symm.trans h1)
  subst this
  exact ⟨_, List.getElem?_eq_getElem hi, h2⟩
theorem Rws.row {K : PySem.W.Frag} {H : Hp} {vs : List V} {rs : List (Option Rw)} (h : Rws K H vs rs) {i : Nat} {r : Rw} (ho : rs[i]? = some (some r)) : ∃ p, vs[i]? = some (.ref p) ∧ SqT K H p (rowVals r) := by
  obtain ⟨v, hv, h | ⟨p, r', h1, h2, h3⟩⟩ := h.get ho
  · cases h.2
  · subst h1
    have : r = r' := Option.some.inj h2
    subst this
    exact ⟨p, hv, h3⟩
theorem Rws.push {K : PySem.W.Frag} {H : Hp} {vs : List V} {rs : List (Option Rw)} {v : V} {o : Option Rw} (h : Rws K H vs rs) (hv : RowV K H v o) : Rws K H (vs ++ [v]) (rs ++ [o]) := by
  refine ⟨by rw [List.length_append, List.length_append, h.len]; rfl, fun i w hw => ?_⟩
  by_cases hi : i < vs.length
  · rw [List.getElem?_append_left hi] at hw
    obtain ⟨o', h1, h2⟩ := h.at_ i w hw
    exact ⟨o', by rw [List.getElem?_append_left (by rw [← h.len]; exact hi)]; exact h1, h2⟩
  · rw [List.getElem?_append_right (by omega)] at hw
    have : i = vs.length := by
      have := (List.getElem?_eq_some_iff.mp hw).1
      rw [List.length_singleton] at this
      omega
    subst this
    rw [Nat.sub_self] at hw
    have : v = w := Option.some.inj hw
    subst this
    exact ⟨o, by rw [h.len, List.getElem?_append_right (Nat.le_refl _), Nat.sub_self]; rfl, hv⟩
theorem Rws.gap {K : PySem.W.Frag} {H : Hp} {vs : List V} {rs : List (Option Rw)} {v : V} {o : Option Rw} (h : Rws K H vs rs) : Rws K H ((vs ++ [v]).set vs.length .non) (rs ++ [none]) := by
  have : (vs ++ [v]).set vs.length .non = vs ++ [.non] := by
    rw [List.set_append_right _ _ (Nat.le_refl _), Nat.sub_self]
    rfl
  rw [this]
  exact h.push (.inl ⟨rfl, rfl⟩)
def AllGood (rs : List (Option Rw)) : Prop := ∀ r, some r ∈ rs → GoodRw r
theorem good_int {a lo hi : Int} (h1 : lo ≤ a) (h2 : a ≤ hi) : whl (.int a) lo hi = true := by
  show (decide (lo ≤ a) && decide (a ≤ hi)) = true
  rw [decide_eq_true h1, decide_eq_true h2]
  rfl
def spRows (K : PySem.W.Frag) : Sp := fun vs H Q _ => ∃ (d t : Addr) (m : Int) (n : Nat) (u : Rl), vs = [.ref d, .int m, .ref t] ∧ 0 ≤ m ∧ m ≤ 60 ∧ H t = some (.tup (fourVals u)) ∧ GoodU u ∧ Dr PT d n H ∧ n ≤ 1000 ∧
  ∀ (H' : Hp) (p : Addr) (xs : List V) (rs : List (Option Rw)), H' p = some (.lst xs) → H p = none → p ≠ d → Rws K H' xs rs → AllGood rs → rs.length ≤ 200 → But d H H' → Dr PT d (n + 3000) H' → Q (.ref p) H'
/-- a look as a tuple -/
def LookT (H : Hp) (a : Addr) : Prop := ∃ (s f : Str) (b : Bool), H a = some (.tup [.str s, .str f, .bl b]) ∧ nm (.str s) = true ∧ nm (.str f) = true
theorem LookT.same {H H' : Hp} {a : Addr} (s : NL H H') (h : LookT H a) : LookT H' a := by
  obtain ⟨x, f, b, e, g⟩ := h
  exact ⟨x, f, b, s _ _ (fun _ z => by cases z) e, g⟩
theorem ok_rows (T : Tx K mg) : FnOk P w K mg base CX0 5 T.A_rows T.fd_rows ["_law_well_here", "_law_places", "_law_rule_here"] (spRows K) := by
  refine T.F_rows.ok sc_rows (fun vs H Q E h => ?_) (fun cdv A outer s H vs Q E hr h => ?_)
  · obtain ⟨d, t, m, n, u, rfl, hm0, hm1, ht, hU, dr, hn, q⟩ := h
    rfl
  obtain ⟨d, t, m, n, u, rfl, hm0, hm1, ht, hU, dr, hn, q⟩ := h
  refine ⟨_, (pss_cons (ps_set (i := 3) sc_rows.nd rfl (Or.inl rfl) (pe_tup (pa_cons (pe_call (ok_word T) (hr.mono (by decide)) (by rfl) T.g_word T.F_word.kp T.b_word .nil pass0 (pa_cons (pv 0) pa_nil)) (pa_cons (pe_call (ok_word T) (hr.mono (by decide)) (by rfl) T.g_word T.F_word.kp T.b_word .nil pass0 (pa_cons (pv 0) pa_nil)) (pa_cons (pe_cmpR op_eq (pe_call (ok_draw T) (hr.mono (by decide)) (by rfl) T.g_draw T.F_draw.kp T.b_draw .nil pass0 (pa_cons (pv 0) (pa_cons pe_int pa_nil))) pe_int (nomark _)) pa_nil)))))
      (pss_cons (ps_set (i := 4) sc_rows.nd rfl (Or.inl rfl) (pe_lst pa_nil))
      (pss_cons (ps_for PassesOwn.never rfl (pi_enum (by rfl) T.z_enumerate (pa_cons (pe_call (ok_across T) (hr.mono (by decide)) (by rfl) T.g_across T.F_across.kp T.b_across .nil pass0 (pa_cons (pv 0) (pa_cons (pv 1) (pa_cons (pv 2) pa_nil)))) pa_nil)) (pg_tup (by rfl) (pgs_cons (pg_name (i := 5) sc_rows.nd rfl (Or.inl rfl)) (pgs_cons (pg_name (i := 6) sc_rows.nd rfl (Or.inl rfl)) pgs_nil)))
        (pss_cons (ps_set (i := 7) sc_rows.nd rfl (Or.inl rfl) (pe_ix ix_list (pe_lst (pa_cons (pe_op op_add (pv 5) pe_int) (pa_cons (pe_op op_sub (pe_op op_pow pe_int pe_int) (pv 5)) (pa_cons (pe_op op_add pe_int (pe_call (ok_draw T) (hr.mono (by decide)) (by rfl) T.g_draw T.F_draw.kp T.b_draw .nil pass0 (pa_cons (pv 0) (pa_cons pe_int pa_nil)))) pa_nil)))) (pe_call (ok_one T) (hr.mono (by decide)) (by rfl) T.g_one T.F_one.kp T.b_one .nil pass0 (pa_cons (pv 0) (pa_cons (pe_lst (pa_cons pe_int (pa_cons pe_int (pa_cons pe_int (pa_cons pe_int (pa_cons pe_int (pa_cons pe_int (pa_cons pe_int (pa_cons pe_int (pa_cons pe_int pa_nil)))))))))) pa_nil))) (fun _ _ => rfl)))
      (pss_cons (ps_set (i := 8) sc_rows.nd rfl (Or.inl rfl) (pv 3))
      (pss_cutJ (ps_if (pt_cmpR op_eq (pe_call (ok_draw T) (hr.mono (by decide)) (by rfl) T.g_draw T.F_draw.kp T.b_draw .nil pass0 (pa_cons (pv 0) (pa_cons pe_int pa_nil))) pe_int (nomark _)) (pss_one (ps_set (i := 8) sc_rows.nd rfl (Or.inl rfl) (pe_call (ok_one T) (hr.mono (by decide)) (by rfl) T.g_one T.F_one.kp T.b_one .nil pass0 (pa_cons (pv 0) (pa_cons (pe_lst (pa_cons (pe_op op_catA (pe_tup (pa_cons pe_str pa_nil)) (pe_slice sl_tupA (pv 3) (po_some pe_int) po_none)) (pa_cons (pe_tup (pa_cons (pe_ix ix_tup (pv 3) pe_int (fun _ _ => rfl)) (pa_cons pe_str (pa_cons (pe_ix ix_tup (pv 3) pe_int (fun _ _ => rfl)) pa_nil)))) (pa_cons (pe_op op_catA (pe_slice sl_tupA (pv 3) po_none (po_some pe_int)) (pe_tup (pa_cons (pe_not (pe_ix ix_tup (pv 3) pe_int (fun _ _ => rfl))) pa_nil))) pa_nil)))) pa_nil))))) pss_nil)
      (pss_cons (ps_expr (pe_bm PySem.F.plainAttrs_list PySem.F.slot_list_append PySem.F.type_list_append mt_append (pv 4) (pa_cons (pe_op op_catA (pe_tup (pa_cons (pv 7) (pa_cons (pe_callB (call_max2 rfl) (by rfl) T.z_max (by decide +kernel) (pa_cons pe_int (pa_cons (pv 6) pa_nil))) (pa_cons (pe_op op_add pe_int (pe_call (ok_draw T) (hr.mono (by decide)) (by rfl) T.g_draw T.F_draw.kp T.b_draw .nil pass0 (pa_cons (pv 0) (pa_cons (pe_op op_pow pe_int pe_int) pa_nil)))) pa_nil)))) (pv 8)) pa_nil)))
      (pss_one (ps_if (pt_cmpR op_eq (pe_call (ok_draw T) (hr.mono (by decide)) (by rfl) T.g_draw T.F_draw.kp T.b_draw .nil pass0 (pa_cons (pv 0) (pa_cons pe_int pa_nil))) pe_int (nomark _)) (pss_one (ps_asg pe_non (pg_sub (pv 4) (pe_un un_neg pe_int) set_list))) pss_nil)))))))
      (pss_one (ps_ret (pv 4)))))), ?_⟩
  have ntd : t ≠ d := by
    obtain ⟨_, _, _, e, _⟩ := dr
    exact fun z => by rw [z, e] at ht; cases ht
  refine ⟨_, rfl, d, n, rfl, dr, by omega, fun H1 z1 g1 b1 dr1 => ?_⟩
  refine ⟨_, rfl, d, n + 10, rfl, dr1, by omega, fun H2 z2 g2 b2 dr2 => ?_⟩
  refine ⟨_, rfl, d, 2, n + 20, rfl, by decide, log_tiny (by decide) (by decide), dr2, by omega, fun H3 r3 _ _ b3 dr3 => ?_⟩
  refine ⟨rfl, (by show 3 ≤ sizeLine; decide), fun tl htl => ?_⟩
  have ntl := dr3.ne htl
  refine ⟨Nat.zero_le _, fun f hf => ?_⟩
  have drl := dr3.upd (o := .tup [.str z1, .str z2, .bl (decide (V.int r3 = V.int 0))]) ntl
  have nf := drl.ne hf
  have ntf : tl ≠ f := fun z => by rw [← z, upd_same] at hf; cases hf
  have dr4 := drl.upd (o := .lst []) nf
  have b4 : But d H (upd (upd H3 tl (.tup [.str z1, .str z2, .bl (decide (V.int r3 = V.int 0))])) f (.lst [])) := (((b1.trans b2).trans b3).trans (But.new htl)).trans (But.new hf)
  have hf0 : H f = none := ((((b1.trans b2).trans b3).trans (But.new htl))).free nf hf
  refine ⟨_, rfl, _, rfl, _, rfl, d, t, m, n + 21, u, rfl, hm0, hm1, b4 _ _ ntd ht, hU, dr4, by omega, fun H5 p zs hp np e5 lz bz b5 dr5 => ?_⟩
  have npf : p ≠ f := fun z => by rw [z, upd_same] at hp; cases hp
  refine ⟨p, zs, rfl, SqL.of e5, for_it (walk_enum (K := K) (a := p) (xs := zs)) (fun i σ H' => ∃ (w5 w6 w7 w8 : Option V) (acc : List V) (rs : List (Option Rw)), σ = [some (.ref d), some (.int m), some (.ref t), some (.ref tl), some (.ref f), w5, w6, w7, w8] ∧ H' f = some (.lst acc) ∧ Rws K H' acc rs ∧ AllGood rs ∧ rs.length = i ∧ H' p = some (.lst zs) ∧ LookT H' tl ∧ But d H H' ∧ Dr PT d (n + 221 + 10 * i) H')
    ⟨_, _, _, _, [], [], rfl, b5 _ _ nf upd_same, ⟨rfl, fun i v h => by simp at h⟩, (fun _ h => nomatch h), rfl, e5, ⟨z1, z2, _, b5 _ _ ntl (by rw [upd_ne ntf]; exact upd_same), g1, g2⟩, b4.trans b5, dr5.mono (by omega)⟩ (fun i σ H' _ h => ?_) ?_ ?_⟩
  · obtain ⟨_, _, _, _, _, _, _, _, _, _, _, e, _⟩ := h
    exact SqL.of e
  · rintro i x σ H6 H7 hi ⟨w5, w6, w7, w8, acc, rs, rfl, ef, hR, hG, lrs, ep, hL, b6, dr6⟩ ⟨T', x1, x2, rfl, nt, rfl, e1, e2⟩
    obtain rfl : V.int (i : Nat) = x1 := Option.some.inj e1
    obtain ⟨ac, rfl, hac⟩ := bz x2 (List.mem_of_getElem? e2)
    have nT := dr6.ne nt
    have s7 : Same H6 (upd H6 T' (.tup [.int (i : Nat), .int ac])) := same_upd nt
    have dr7 := dr6.same s7
    refine ⟨T', _, rfl, .inl (.inl upd_same), rfl, _, [.int ac], rfl, .int ac, [], rfl, rfl, ?_⟩
    -- number
    refine ⟨_, rfl, _, _, rfl, rfl, _, _, rfl, rfl, ⟨by decide, by decide, by decide⟩, _, rfl, _, _, rfl, rfl, _, rfl, d, 9, n + 221 + 10 * i, rfl, by decide, log_tiny (by decide) (by decide), dr7, by omega, fun H8 r8 a8 c8 b8 dr8 => ?_⟩
    refine ⟨_, _, rfl, rfl, (by show 3 ≤ sizeLine; decide), fun l1 hl1 => ?_⟩
    have nl1 := dr8.ne hl1
    have dr8' := dr8.upd (o := .lst [.int ((i : Nat) + 1), .int (10 ^ (9 : Int).toNat - (i : Nat)), .int (1 + r8)]) nl1
    refine ⟨_, rfl, (by show 9 ≤ sizeLine; decide), fun l2 hl2 => ?_⟩
    have nl2 := dr8'.ne hl2
    refine ⟨d, l2, n + 222 + 10 * i, _, rfl, nl2, SqL.of upd_same, by simp, by show 9 ≤ 1000; decide, (dr8'.upd nl2).mono (by omega), by omega, fun H9 v hv b9 dr9 => ?_⟩
    obtain ⟨j, rfl, hj⟩ : ∃ j : Int, v = .int j ∧ (j = 0 ∨ j = 1 ∨ j = 2) := zero_of (fun j => j = 0 ∨ j = 1 ∨ j = 2) hv (by
      intro x hx
      simp only [List.mem_cons, List.not_mem_nil, or_false] at hx
      rcases hx with e | e | e | e | e | e | e | e | e <;> exact ⟨_, e, by omega⟩)
    have e9 : (10 : Int) ^ (9 : Int).toNat = 1000000000 := by decide
    obtain ⟨num, hat, hn0, hn1⟩ : ∃ num : Int, atI [V.int ((i : Nat) + 1), .int (10 ^ (9 : Int).toNat - (i : Nat)), .int (1 + r8)] j = some (.int num) ∧ 1 ≤ num ∧ num ≤ 1000000000 := by
      rcases hj with rfl | rfl | rfl
      · exact ⟨_, rfl, by omega, by omega⟩
      · exact ⟨_, rfl, by rw [e9]; omega, by rw [e9]; omega⟩
      · exact ⟨_, rfl, by omega, by omega⟩
    have el1 := b9 _ _ nl1 (same_upd hl2 _ _ upd_same)
    refine ⟨l1, _, _, _, rfl, rfl, SqL.of el1, hat, ?_⟩
    have b9' : But d H6 H9 := (But.of s7).trans ((b8.trans (But.new hl1)).trans ((But.new hl2).trans b9))
    have nl9 : NL H6 H9 := dr_nl dr6 b9'
    have ef9 := b9' _ _ nf ef
    have hL9 := hL.same nl9
    have hR9 := hR.same nl9
    -- look
    refine ⟨_, rfl, ?_⟩
    refine ⟨fun σ' H' => ∃ la : Addr, σ' = [some (.ref d), some (.int m), some (.ref t), some (.ref tl), some (.ref f), some (.int (i : Nat)), some (.int ac), some (.int num), some (.ref la)] ∧ LookT H' la ∧ But d H9 H' ∧ Dr PT d (n + 225 + 10 * i) H', ?_, ?_⟩
    · refine ⟨_, rfl, d, 12, n + 223 + 10 * i, rfl, by decide, log_tiny (by decide) (by decide), dr9.mono (by omega), by omega, fun H10 r10 _ _ b10 dr10 => ?_⟩
      refine ⟨rfl, _, rfl, ite2 (fun _ => ?_) (fun _ => ?_)⟩
      · obtain ⟨s, fo, bb, eL, gs, gf⟩ := hL9
        have eL := b10 _ _ ntl eL
        refine ⟨_, rfl, (by show 1 ≤ sizeLine; decide), fun a1 ha1 => ?_⟩
        have n1 := dr10.ne ha1
        have eL1 := same_upd ha1 (o := .tup [.str "a"]) _ _ eL
        refine ⟨_, rfl, _, rfl, tl, _, rfl, .inl (.inl eL1), fun z => absurd z (by show ¬ (HT.sIx 3 0 (some 1) = 0 ∧ HT.sIx 3 3 none = 3); decide), fun _ a2 ha2 => ?_⟩
        have eL2 := same_upd ha2 (o := .tup [.str fo, .bl bb]) _ _ eL1
        refine ⟨a1, a2, _, _, rfl, rfl, .inl (.inl (same_upd ha2 _ _ upd_same)), .inl (.inl upd_same), (by show 3 ≤ sizeLine; decide), (fun z => nomatch z), (fun _ z => nomatch z), fun _ _ a3 ha3 => ?_⟩
        have eL3 := same_upd ha3 (o := .tup [.str "a", .str fo, .bl bb]) _ _ eL2
        refine ⟨_, rfl, tl, _, _, _, rfl, rfl, .inl (.inl eL3), atI_nat (j := 0) rfl, _, rfl, tl, _, _, _, rfl, rfl, .inl (.inl eL3), atI_nat (j := 2) rfl, (by show 3 ≤ sizeLine; decide), fun a4 ha4 => ?_⟩
        have eL4 := same_upd ha4 (o := .tup [.str s, .str "b", .bl bb]) _ _ eL3
        refine ⟨_, rfl, _, rfl, tl, _, rfl, .inl (.inl eL4), fun z => absurd z (by show ¬ (HT.sIx 3 0 none = 0 ∧ HT.sIx 3 3 (some 2) = 3); decide), fun _ a5 ha5 => ?_⟩
        have eL5 := same_upd ha5 (o := .tup [.str s, .str fo]) _ _ eL4
        refine ⟨_, rfl, tl, _, _, _, rfl, rfl, .inl (.inl eL5), atI_nat (j := 2) rfl, _, rfl, (by show 1 ≤ sizeLine; decide), fun a6 ha6 => ?_⟩
        refine ⟨a5, a6, _, _, rfl, rfl, .inl (.inl (same_upd ha6 _ _ upd_same)), .inl (.inl upd_same), (by show 3 ≤ sizeLine; decide), (fun z => nomatch z), (fun _ z => nomatch z), fun _ _ a7 ha7 => ?_⟩
        refine ⟨(by show 3 ≤ sizeLine; decide), fun l3 hl3 => ?_⟩
        have dL := (dr10.same ((same_upd ha1).trans ((same_upd ha2).trans ((same_upd ha3).trans ((same_upd ha4).trans ((same_upd ha5).trans ((same_upd ha6).trans (same_upd ha7)))))))).same (same_upd hl3 (o := .lst [.ref a3, .ref a4, .ref a7]))
        have nl3 : l3 ≠ d := (dr10.same ((same_upd ha1).trans ((same_upd ha2).trans ((same_upd ha3).trans ((same_upd ha4).trans ((same_upd ha5).trans ((same_upd ha6).trans (same_upd ha7)))))))).ne hl3
        refine ⟨d, l3, n + 224 + 10 * i, _, rfl, nl3, SqL.of upd_same, by simp, by show 3 ≤ 1000; decide, dL.mono (by omega), by omega, fun H11 v hv b11 dr11 => ?_⟩
        have nl11 := dr_nl dL b11
        have bb11 : But d H9 H11 := b10.trans ((But.of ((same_upd ha1).trans ((same_upd ha2).trans ((same_upd ha3).trans ((same_upd ha4).trans ((same_upd ha5).trans ((same_upd ha6).trans ((same_upd ha7).trans (same_upd hl3))))))))).trans b11)
        simp only [List.mem_cons, List.not_mem_nil, or_false] at hv
        rcases hv with rfl | rfl | rfl
        · refine ⟨a3, rfl, ⟨"a", fo, bb, nl11 _ _ (fun _ z => by cases z) (((same_upd ha4).trans ((same_upd ha5).trans ((same_upd ha6).trans ((same_upd ha7).trans (same_upd hl3))))) _ _ upd_same), by decide +kernel, gf⟩, bb11, dr11.mono (by omega)⟩
        · refine ⟨a4, rfl, ⟨s, "b", bb, nl11 _ _ (fun _ z => by cases z) (((same_upd ha5).trans ((same_upd ha6).trans ((same_upd ha7).trans (same_upd hl3)))) _ _ upd_same), gs, by decide +kernel⟩, bb11, dr11.mono (by omega)⟩
        · refine ⟨a7, rfl, ⟨s, fo, !bb, nl11 _ _ (fun _ z => by cases z) ((same_upd hl3) _ _ upd_same), gs, gf⟩, bb11, dr11.mono (by omega)⟩
      · exact ⟨tl, rfl, hL9.same (dr_nl dr9 b10), b10, dr10.mono (by omega)⟩
    · rintro σ' H10 ⟨la, rfl, ⟨s, fo, bb, eL, gs, gf⟩, b10, dr10⟩
      have ef10 := b10 _ _ nf ef9
      have nl10 : NL H6 H10 := nl9.trans (dr_nl dr9 b10)
      have bH10 : But d H H10 := b6.trans (b9'.trans b10)
      -- found.append((number, max(1, across), 1 + draw) + look)
      have e6 : (10 : Int) ^ (6 : Int).toNat = 1000000 := by decide
      refine ⟨_, rfl, .inl ⟨rfl, _, SqL.of ef10⟩, _, rfl, _, rfl, _, _, rfl, _, rfl, _, _, rfl, rfl, ⟨by decide, by decide, by decide⟩, d, _, n + 225 + 10 * i, rfl, by decide, log_tiny (by decide) (by decide), dr10, by omega, fun H11 r11 a11 c11 b11 dr11 => ?_⟩
      refine ⟨_, _, rfl, rfl, (by show 3 ≤ sizeLine; decide), fun t1 ht1 => ?_⟩
      have eL11 := b11 _ _ (fun z => by obtain ⟨_, _, _, z2, _⟩ := dr10; rw [z, z2] at eL; cases eL) eL
      refine ⟨_, rfl, t1, la, _, _, rfl, rfl, .inl (.inl upd_same), .inl (.inl (same_upd ht1 _ _ eL11)), (by show 6 ≤ sizeLine; decide), (fun z => nomatch z), (fun _ z => nomatch z), fun _ _ t2 ht2 => ?_⟩
      have S12 : Same H11 (upd (upd H11 t1 (.tup [.int num, .int (if ac > 1 then ac else 1), .int (1 + r11)])) t2 (.tup (rowVals ⟨num, if ac > 1 then ac else 1, 1 + r11, s, fo, bb⟩))) := (same_upd ht1).trans (same_upd ht2)
      have ef12 := S12 _ _ (b11 _ _ nf ef10)
      refine ⟨f, _, _, rfl, rfl, ef12, ?_, ?_⟩
      · rw [hR.len, lrs]
        exact Nat.lt_of_lt_of_le (show i < 1000 by omega) (by decide)
      have dr12 := (dr11.same S12)
      have dr13 := dr12.upd (o := .lst (acc ++ [.ref t2])) nf
      have hmx : (if ac > 1 then ac else 1 : Int) ≤ 1000000 ∧ 1 ≤ (if ac > 1 then ac else 1 : Int) := by
        split <;> omega
      have gR : GoodRw ⟨num, if ac > 1 then ac else 1, 1 + r11, s, fo, bb⟩ := ⟨good_int hn0 hn1, good_int hmx.2 hmx.1, good_int (a := 1 + r11) (by omega) (by rw [e6] at c11; omega), gs, gf⟩
      have nl12 := (nl10.trans (dr_nl dr10 b11)).trans (NL.of S12)
      have nl13 := nl12.trans (NL.at_ (o := .lst (acc ++ [.ref t2])) ef12)
      have ep13 : (upd (upd (upd H11 t1 (.tup [.int num, .int (if ac > 1 then ac else 1), .int (1 + r11)])) t2 (.tup (rowVals ⟨num, if ac > 1 then ac else 1, 1 + r11, s, fo, bb⟩))) f (.lst (acc ++ [.ref t2]))) p = some (.lst zs) := (upd_ne npf).trans (S12 _ _ (b11 _ _ np (b10 _ _ np (b9' _ _ np ep))))
      have b13 := ((bH10.trans b11).trans (But.of S12)).mut (o := .lst (acc ++ [.ref t2])) hf0
      have tR : RowV K (upd (upd (upd H11 t1 (.tup [.int num, .int (if ac > 1 then ac else 1), .int (1 + r11)])) t2 (.tup (rowVals ⟨num, if ac > 1 then ac else 1, 1 + r11, s, fo, bb⟩))) f (.lst (acc ++ [.ref t2]))) (.ref t2) (some ⟨num, if ac > 1 then ac else 1, 1 + r11, s, fo, bb⟩) := .inr ⟨t2, _, rfl, rfl, .inl (.inl ((NL.at_ (o := .lst (acc ++ [.ref t2])) ef12) _ _ (fun _ z => by cases z) (upd_same (H := upd H11 t1 (.tup [.int num, .int (if ac > 1 then ac else 1), .int (1 + r11)])))))⟩
      -- if draw(well, 9) == 0: found[-1] = None
      refine ⟨_, rfl, d, 9, n + 226 + 10 * i, rfl, by decide, log_tiny (by decide) (by decide), dr13.mono (by omega), by omega, fun H14 r14 _ _ b14 dr14 => ?_⟩
      have nl14 := nl13.trans (dr_nl dr13 b14)
      have ef14 := b14 _ _ nf upd_same
      refine ⟨rfl, _, rfl, ite2 (fun _ => ?_) (fun _ => ?_)⟩
      · have hix : ixN (acc ++ [V.ref t2]).length (-1) = some acc.length := by
          unfold ixN
          rw [if_neg (by decide), if_pos (by rw [List.length_append, List.length_singleton]; omega), List.length_append, List.length_singleton]
          congr 1
          omega
        refine ⟨_, rfl, 1, rfl, f, _, _, _, rfl, rfl, ef14, hix, ?_⟩
        refine ⟨_, _, _, _, _, rs ++ [none], rfl, upd_same, ?_, ?_, ?_, ?_, ?_, ?_, ?_⟩
        · exact ((hR.same nl14).same (NL.at_ ef14)).gap (o := none)
        · intro r hr
          rcases List.mem_append.mp hr with h | h
          · exact hG r h
          · simp at h
        · rw [List.length_append, lrs]
          rfl
        · exact (upd_ne npf).trans (b14 _ _ np ep13)
        · exact (hL.same nl14).same (NL.at_ ef14)
        · exact (b13.trans b14).mut hf0
        · exact (dr14.upd nf).mono (by omega)
      · refine ⟨_, _, _, _, _, rs ++ [some ⟨num, if ac > 1 then ac else 1, 1 + r11, s, fo, bb⟩], rfl, ef14, ?_, ?_, ?_, ?_, ?_, ?_, ?_⟩
        · exact (hR.same nl14).push (tR.same (dr_nl dr13 b14))
        · intro r hr
          rcases List.mem_append.mp hr with h | h
          · exact hG r h
          · have := Option.some.inj (List.mem_singleton.mp h)
            rw [this]
            exact gR
        · rw [List.length_append, lrs]
          rfl
        · exact b14 _ _ np ep13
        · exact hL.same nl14
        · exact b13.trans b14
        · exact dr14.mono (by omega)
  · rintro σ H6 ⟨w5, w6, w7, w8, acc, rs, rfl, ef, hR, hG, lrs, ep, hL, b6, dr6⟩
    exact ⟨_, rfl, q H6 f acc rs ef hf0 nf hR hG (by omega) b6 (dr6.mono (by omega))⟩
def spBeadOf (K : PySem.W.Frag) (C : Addr) : Sp := fun vs H Q _ => ∃ (v : V) (o : Option Rw), vs = [v] ∧ RowV K H v o ∧ (∀ r, o = some r → GoodRw r) ∧ ∀ (H' : Hp) (x : V), Same H H' → BV C H' x o → Q x H'
theorem ok_bead (T : Tx K mg) : FnOk P w K mg base CX0 6 T.A_bead T.fd_bead ["_law_row"] (spBeadOf K T.C_Bead) := by
  refine T.F_bead.ok sc_bead (fun vs H Q E h => ?_) (fun cdv A outer s H vs Q E hr h => ?_)
  · obtain ⟨v, o, rfl, hv, hg, q⟩ := h
    rfl
  obtain ⟨v, o, rfl, hv, hg, q⟩ := h
  refine ⟨_, (pss_cons (ps_if (pt_cmpR op_isN (pv 0) pe_non (nomark _)) (pss_one (ps_ret pe_non)) pss_nil)
      (pss_one (ps_ret (pe_make T.mk_Bead (ok_Bead_init T) (hr.mono (by decide)) (by rfl) T.g_Bead T.b_Bead_init .nil pass0 (pa_cons (pe_ix ix_tup (pv 0) pe_int (fun _ _ => rfl)) (pa_cons (pe_ix ix_tup (pv 0) pe_int (fun _ _ => rfl)) (pa_cons (pe_ix ix_tup (pv 0) pe_int (fun _ _ => rfl)) (pa_cons (pe_ix ix_tup (pv 0) pe_int (fun _ _ => rfl)) (pa_cons (pe_ix ix_tup (pv 0) pe_int (fun _ _ => rfl)) (pa_cons (pe_ix ix_tup (pv 0) pe_int (fun _ _ => rfl)) pa_nil)))))))))), ?_⟩
  refine ⟨_, rfl, rfl, _, rfl, ?_⟩
  rcases hv with ⟨rfl, rfl⟩ | ⟨p, r, rfl, rfl, hp⟩
  · exact iteT (q H _ (Same.refl H) (.inl ⟨rfl, rfl⟩))
  · refine iteF ?_
    refine ⟨_, rfl, p, _, _, _, rfl, rfl, hp, atI_nat (j := 0) rfl, _, rfl, p, _, _, _, rfl, rfl, hp, atI_nat (j := 1) rfl, _, rfl, p, _, _, _, rfl, rfl, hp, atI_nat (j := 2) rfl, _, rfl, p, _, _, _, rfl, rfl, hp, atI_nat (j := 3) rfl, _, rfl, p, _, _, _, rfl, rfl, hp, atI_nat (j := 4) rfl, _, rfl, p, _, _, _, rfl, rfl, hp, atI_nat (j := 5) rfl, ?_⟩
    intro x dx nx ndx nex
    refine ⟨x, dx, r, rfl, upd_same, hg r rfl, fun H1 hB k => ⟨rfl, ?_⟩⟩
    refine q H1 _ (fun b o e => k b o ?_ (ne_of_none e nx)) (.inr ⟨x, r, rfl, rfl, hB⟩)
    rw [upd_ne (ne_of_none e nx), upd_ne (ne_of_none e ndx)]
    exact e
end
end KB
namespace KB
open PySem PySem.Spec PyProof.Rows L2 KA
section
variable {P : Program} {w : World} {K : PySem.W.Frag} {mg : Str → Option Value} {base : Heap}
def spStepR (K : PySem.W.Frag) : Sp := fun vs H Q _ => ∃ (b t : Addr) (i : Nat) (xs : List V) (rs : List (Option Rw)) (r : Rw) (u : Rl), vs = [.ref b, .ref t, .int i] ∧ SqL K H b xs ∧ Rws K H xs rs ∧ SqT K H t (fourVals u) ∧ rs[i]? = some (some r) ∧ rs.length ≤ 1000 ∧
  Q (.bl (stepBars rs u i r)) H
theorem ok_step_bars (T : Tx K mg) : FnOk P w K mg base CX0 1 T.A_step_bars T.fd_step_bars ["_law_rows_here", "_law_rule_here", "_law_at"] (spStepR K) := by
  refine T.F_step_bars.ok sc_step_bars (fun vs H Q E h => ?_) (fun cdv A outer s H vs Q E hr h => ?_)
  · obtain ⟨b, t, i, xs, rs, r, u, rfl, hS, hB, ht, hi, hl, q⟩ := h
    rfl
  obtain ⟨b, t, i, xs, rs, r, u, rfl, hS, hB, ht, hi, hl, q⟩ := h
  refine ⟨_, (pss_cons (ps_if (PW.pt (pw_or (pt_cmpR op_eq (pv 2) pe_int (nomark _)) (pw_or (pt_cmpR op_eq (pe_op op_mul pe_int (pv 2)) (pe_callB call_len_seq (by rfl) T.z_len PySem.boot_len (pa_cons (pv 0) pa_nil)) (nomark _)) (pw_or1 (pt_cmpR op_isN (pe_ix ix_list (pv 0) (pe_op op_sub (pv 2) pe_int) (fun _ _ => rfl)) pe_non (nomark _)))))) (pss_one (ps_ret pe_bl)) pss_nil)
      (pss_cons (ps_set (i := 3) sc_step_bars.nd rfl (Or.inl rfl) (pe_op op_sub (pe_ix ix_tup (pe_ix ix_list (pv 0) (pv 2) (fun _ _ => rfl)) pe_int (fun _ _ => rfl)) (pe_ix ix_tup (pe_ix ix_list (pv 0) (pe_op op_sub (pv 2) pe_int) (fun _ _ => rfl)) pe_int (fun _ _ => rfl))))
      (pss_cons (ps_if (pt_cmpR op_gt (pe_op op_mul pe_int (pv 2)) (pe_callB call_len_seq (by rfl) T.z_len PySem.boot_len (pa_cons (pv 0) pa_nil)) (nomark _)) (pss_one (ps_set (i := 3) sc_step_bars.nd rfl (Or.inl rfl) (pe_op op_sub pe_int (pv 3)))) pss_nil)
      (pss_one (ps_ret (pe_or (pe_cmpR op_lt (pv 3) (pe_ix ix_tup (pv 1) pe_int (fun _ _ => rfl)) (nomark _)) (pe_one (pe_cmpR op_gt (pv 3) (pe_ix ix_tup (pv 1) pe_int (fun _ _ => rfl)) (nomark _))))))))), ?_⟩
  obtain ⟨p, hp, hH⟩ := hB.row hi
  have hil : i < rs.length := (List.getElem?_eq_some_iff.mp hi).1
  have eL := hB.len
  refine ⟨_, rfl, rfl, _, rfl, ?_⟩
  by_cases h0 : i = 0
  · subst h0
    refine iteT (iteT ?_)
    have : stepBars rs u 0 r = false := by
      unfold stepBars
      rw [if_pos (Or.inl rfl)]
    rw [this] at q
    exact q
  · rw [decide_eq_false (show ¬ V.int (i : Int) = V.int 0 from fun e => h0 (by injection e with e; omega))]
    refine iteF ⟨_, rfl, _, _, rfl, rfl, .inl ⟨by decide, by decide⟩, _, rfl, b, xs, rfl, .inl hS, rfl, _, rfl, ?_⟩
    by_cases h1 : 2 * i = rs.length
    · rw [decide_eq_true (show V.int (2 * (i : Int)) = V.int (xs.length : Int) by congr 1; omega)]
      refine iteT (iteT ?_)
      have : stepBars rs u i r = false := by
        unfold stepBars
        rw [if_pos (Or.inr h1)]
      rw [this] at q
      exact q
    · rw [decide_eq_false (show ¬ V.int (2 * (i : Int)) = V.int (xs.length : Int) from fun e => h1 (by injection e with e; omega))]
      obtain ⟨o, ho⟩ : ∃ o, rs[i - 1]? = some o := ⟨_, List.getElem?_eq_getElem (by omega)⟩
      obtain ⟨v, hv, hbv⟩ := hB.get ho
      have hat : atI xs ((i : Int) - 1) = some v := at_of (j := i - 1) (by omega) hv
      refine iteF ⟨_, rfl, _, rfl, _, _, rfl, rfl, b, xs, _, v, rfl, rfl, hS, hat, rfl, _, rfl, ?_⟩
      have hS0 : ∀ x, x = stepBars rs u i r → Q (.bl x) H := fun x e => by rw [e]; exact q
      rcases hbv with ⟨rfl, rfl⟩ | ⟨p', r', rfl, rfl, h'⟩
      · refine iteT ?_
        refine hS0 _ ?_
        unfold stepBars
        rw [if_neg (by omega), ho]
      · refine iteF ?_
        refine ⟨_, rfl, _, rfl, b, xs, _, _, rfl, rfl, hS, atI_nat hp, p, _, _, _, rfl, rfl, hH, atI_nat (j := 1) rfl, ?_⟩
        refine ⟨_, rfl, _, rfl, _, _, rfl, rfl, b, xs, _, _, rfl, rfl, hS, hat, p', _, _, _, rfl, rfl, h', atI_nat (j := 1) rfl, _, _, rfl, rfl, ?_⟩
        have eS : stepBars rs u i r = stepBad u (if rs.length < 2 * i then -(r.ac - r'.ac) else r.ac - r'.ac) := by
          unfold stepBars
          rw [if_neg (by omega), ho]
        refine ⟨_, rfl, _, _, rfl, rfl, .inl ⟨by decide, by decide⟩, _, rfl, b, xs, rfl, .inl hS, _, _, rfl, rfl, _, rfl, ?_⟩
        by_cases h2 : rs.length < 2 * i
        · rw [decide_eq_true (show (xs.length : Int) < 2 * (i : Int) by omega)]
          rw [if_pos h2] at eS
          refine iteT ⟨_, rfl, _, _, rfl, rfl, ?_⟩
          refine ⟨_, rfl, _, rfl, t, _, _, _, rfl, rfl, ht, atI_nat (j := 0) rfl, _, _, rfl, rfl, _, rfl, ?_⟩
          have e0 : 0 - (r.ac - r'.ac) = -(r.ac - r'.ac) := by omega
          show if decide (0 - (r.ac - r'.ac) < u.lo) = true then _ else _
          rw [e0]
          by_cases h3 : -(r.ac - r'.ac) < u.lo
          · rw [decide_eq_true h3]
            refine iteT (hS0 _ ?_)
            rw [eS]
            unfold stepBad
            rw [decide_eq_true h3, Bool.true_or]
          · rw [decide_eq_false h3]
            refine iteF ⟨_, rfl, _, rfl, t, _, _, _, rfl, rfl, ht, atI_nat (j := 1) rfl, _, _, rfl, rfl, hS0 _ ?_⟩
            show decide (u.hi < 0 - (r.ac - r'.ac)) = _
            rw [e0, eS]
            unfold stepBad
            rw [decide_eq_false h3, Bool.false_or]
        · rw [decide_eq_false (show ¬ (xs.length : Int) < 2 * (i : Int) by omega)]
          rw [if_neg h2] at eS
          refine iteF ?_
          refine ⟨_, rfl, _, rfl, t, _, _, _, rfl, rfl, ht, atI_nat (j := 0) rfl, _, _, rfl, rfl, _, rfl, ?_⟩
          show if decide (r.ac - r'.ac < u.lo) = true then _ else _
          by_cases h3 : (r.ac - r'.ac) < u.lo
          · rw [decide_eq_true h3]
            refine iteT (hS0 _ ?_)
            rw [eS]
            unfold stepBad
            rw [decide_eq_true h3, Bool.true_or]
          · rw [decide_eq_false h3]
            refine iteF ⟨_, rfl, _, rfl, t, _, _, _, rfl, rfl, ht, atI_nat (j := 1) rfl, _, _, rfl, rfl, hS0 _ ?_⟩
            show decide (u.hi < r.ac - r'.ac) = _
            rw [eS]
            unfold stepBad
            rw [decide_eq_false h3, Bool.false_or]
end
end KB
namespace KB
open PySem PySem.Spec PyProof.Rows L2 KA
theorem sh_name {z : Str} (h : nm (.str z) = true) : PyData.canLay0 (.str z) = true := by
  have nmE : nm (.str z) = (decide (1 ≤ z.length) && decide (z.length ≤ 8) && z.cps.toList.all lower) := rfl
  rw [nmE] at h
  simp only [Bool.and_eq_true] at h
  show z.cps.all (· < 0x110000) = true
  rw [← Array.all_toList, List.all_eq_true]
  intro c hc
  have := lower_lt (List.all_eq_true.mp h.2 c hc)
  exact decide_eq_true (by omega)
def lookD (r : Rw) : PyData := .tuple [.str r.sh, .str r.fo, .bool r.dr]
theorem lookD_ok {r : Rw} (h : GoodRw r) : SeqAt.shaped (lookD r) = true := by
  have e : PyData.canLay0 (lookD r) = true := by
    show (PyData.canLay0 (.str r.sh) && (PyData.canLay0 (.str r.fo) && (PyData.canLay0 (.bool r.dr) && true))) = true
    rw [sh_name h.2.2.2.1, sh_name h.2.2.2.2]
    rfl
  show (PyData.canLay0 (lookD r) && decide (PyData.depth (lookD r) ≤ 64)) = true
  rw [e]
  rfl
theorem lookD_eqv (p r : Rw) : PyData.eqv (lookD p) (lookD r) = look r p := by
  show ((p.sh == r.sh) && ((p.fo == r.fo) && ((p.dr == r.dr) && true))) = (decide (r.sh = p.sh) && (decide (r.fo = p.fo) && decide (r.dr = p.dr)))
  rw [Bool.and_true]
  have e1 : (p.sh == r.sh) = decide (r.sh = p.sh) := by
    rw [Bool.eq_iff_iff, beq_iff_eq, decide_eq_true_eq]
    exact eq_comm
  have e2 : (p.fo == r.fo) = decide (r.fo = p.fo) := by
    rw [Bool.eq_iff_iff, beq_iff_eq, decide_eq_true_eq]
    exact eq_comm
  have e3 : (p.dr == r.dr) = decide (r.dr = p.dr) := by
    rw [Bool.eq_iff_iff, beq_iff_eq, decide_eq_true_eq]
    exact eq_comm
  rw [e1, e2, e3]
def isSm (o : Option Rw) : Bool := match o with
  | some _ => true
  | none => false
def numOf (o : Option Rw) : V := match o with
  | some r => .int r.num
  | none => .non
theorem in_twice (rs : List (Option Rw)) (n : Int) : ∀ i : Nat, i ≤ rs.length → inV (.int n) (((List.range i).filter fun j => isSm (rs.getD j none)).map fun j => numOf (rs.getD j none)) = twice rs i n := by
  intro i hi
  have : rs.take i = (List.range i).map (fun j => rs.getD j none) := by
    refine List.ext_getElem? fun j => ?_
    rw [List.getElem?_map]
    by_cases h : j < i
    · rw [List.getElem?_range h, List.getElem?_take_of_lt h]
      show _ = some (rs.getD j none)
      rw [List.getD_eq_getElem?_getD, List.getElem?_eq_getElem (show j < rs.length by omega)]
      rfl
    · rw [List.getElem?_eq_none (by rw [List.length_take]; omega), List.getElem?_eq_none (by rw [List.length_range]; omega)]
      rfl
  unfold twice inV
  rw [this, List.any_map, List.any_map]
  generalize List.range i = l
  induction l with
  | nil => rfl
  | cons j r ih =>
    rw [List.filter_cons]
    cases h : rs.getD j none with
    | none =>
      rw [List.any_cons]
      show _ = (isNum n (rs.getD j none) || _)
      rw [h]
      show List.any (if isSm none = true then _ else _) _ = _
      exact ih
    | some q =>
      rw [List.any_cons]
      show _ = (isNum n (rs.getD j none) || _)
      rw [h]
      show List.any (j :: _) _ = _
      rw [List.any_cons, ih]
      show (eqV (numOf (rs.getD j none)) (.int n) || _) = _
      rw [h]
      show ((q.num == n) || _) = (decide (q.num = n) || _)
      rfl
theorem flat_nums (rs : List (Option Rw)) (l : List Nat) : ((l.filter fun j => isSm (rs.getD j none)).map fun j => numOf (rs.getD j none)).all flatV = true := by
  rw [List.all_eq_true]
  intro v hv
  obtain ⟨j, _, rfl⟩ := List.mem_map.mp hv
  cases rs.getD j none <;> rfl
section
variable {P : Program} {w : World} {K : PySem.W.Frag} {mg : Str → Option Value} {base : Heap}
def spWhy (K : PySem.W.Frag) : Sp := fun vs H Q _ => ∃ (b t : Addr) (xs : List V) (rs : List (Option Rw)) (u : Rl), vs = [.ref b, .ref t] ∧ SqL K H b xs ∧ Rws K H xs rs ∧ SqT K H t (fourVals u) ∧ AllGood rs ∧ rs.length ≤ 1000 ∧
  ∀ H' v, Same H H' → OutV H' (bar rs u) v → Q v H'
theorem ok_why (T : Tx K mg) : FnOk P w K mg base CX0 2 T.A_why T.fd_why ["_law_rows_here", "_law_rule_here"] (spWhy K) := by
  refine T.F_why.ok sc_why (fun vs H Q E h => ?_) (fun cdv A outer s H vs Q E hr h => ?_)
  · obtain ⟨b, t, xs, rs, u, rfl, hS, hB, ht, hG, hl, q⟩ := h
    rfl
  obtain ⟨b, t, xs, rs, u, rfl, hS, hB, ht, hG, hl, q⟩ := h
  refine ⟨_, (pss_cons (ps_for PassesOwn.never rfl (pi_range1 (by rfl) T.z_range (pa_cons (pe_callB call_len_seq (by rfl) T.z_len PySem.boot_len (pa_cons (pv 0) pa_nil)) pa_nil)) (pg_name (i := 2) sc_why.nd rfl (Or.inl rfl))
        (pss_one (ps_if (pt_cmpR op_notN (pe_ix ix_list (pv 0) (pv 2) (fun _ _ => rfl)) pe_non (nomark _)) (pss_cons (ps_set (i := 3) sc_why.nd rfl (Or.inl rfl) pe_non)
      (pss_cutJ (ps_if (pt_cmpR op_ge (pe_op op_mul pe_int (pv 2)) (pe_callB call_len_seq (by rfl) T.z_len PySem.boot_len (pa_cons (pv 0) pa_nil)) (nomark _)) (pss_one (ps_set (i := 3) sc_why.nd rfl (Or.inl rfl) (pe_ix ix_list (pv 0) (pe_op op_sub (pe_op op_sub (pe_callB call_len_seq (by rfl) T.z_len PySem.boot_len (pa_cons (pv 0) pa_nil)) pe_int) (pv 2)) (fun _ _ => rfl)))) pss_nil)
      (pss_cons (ps_if (pt_cmpR op_in_seq (pe_ix ix_tup (pe_ix ix_list (pv 0) (pv 2) (fun _ _ => rfl)) pe_int (fun _ _ => rfl)) (pe_lc (own := [("_law_row", 4)]) (g := gName 4) (tt := _) rfl sc_why.nd (pi_list (pe_slice sl_list (pv 0) po_none (po_some (pv 2)))) (blkOk_by (N := ["_law_rows_here", "_law_rule_here", "_law_at", "_law_partner", "_law_row"]) (sc := defScope s_why) (by decide +kernel)) (fun _ _ _ _ _ => (pg_name (i := 4) sc_why.nd rfl (Or.inl rfl))) (fun _ _ _ _ _ => (pts_one (pt_cmpR op_notN (pv 4) pe_non (nomark _)))) (fun _ _ _ _ _ => (pe_ix (ix_tupK (K' := K) rfl) (pv 4) pe_int (fun _ _ => rfl)))) (by rfl)) (pss_one (ps_ret (pe_tup (pa_cons (pv 2) (pa_cons pe_str pa_nil))))) pss_nil)
      (pss_cons (ps_if (pt_val (pe_call (ok_step_bars T) (hr.mono (by decide)) (by rfl) T.g_step_bars T.F_step_bars.kp T.b_step_bars .nil pass0 (pa_cons (pv 0) (pa_cons (pv 1) (pa_cons (pv 2) pa_nil))))) (pss_one (ps_ret (pe_tup (pa_cons (pv 2) (pa_cons pe_str pa_nil))))) pss_nil)
      (pss_cons (ps_if (PW.pt (pw_and (pt_cmpR op_notN (pv 3) pe_non (nomark _)) (pw_and1 (pt_cmpR op_gt (pe_callB call_abs (by rfl) T.z_abs (by decide +kernel) (pa_cons (pe_op op_sub (pe_ix ix_tup (pv 3) pe_int (fun _ _ => rfl)) (pe_ix ix_tup (pe_ix ix_list (pv 0) (pv 2) (fun _ _ => rfl)) pe_int (fun _ _ => rfl))) pa_nil)) (pe_ix ix_tup (pv 1) pe_int (fun _ _ => rfl)) (nomark _))))) (pss_one (ps_ret (pe_tup (pa_cons (pv 2) (pa_cons pe_str pa_nil))))) pss_nil)
      (pss_one (ps_if (PW.pt (pw_and (pt_cmpR op_notN (pv 3) pe_non (nomark _)) (pw_and (pt_val (pe_ix ix_tup (pv 1) pe_int (fun _ _ => rfl))) (pw_and1 (pt_cmpR (op_neD hr.units) (pe_slice sl_tupA (pv 3) (po_some pe_int) po_none) (pe_slice sl_tupA (pe_ix ix_list (pv 0) (pv 2) (fun _ _ => rfl)) (po_some pe_int) po_none) (nomark _)))))) (pss_one (ps_ret (pe_tup (pa_cons (pv 2) (pa_cons pe_str pa_nil))))) pss_nil))))))) pss_nil)))
      (pss_one (ps_ret pe_non))), ?_⟩
  have eL := hB.len
  refine ⟨_, rfl, b, xs, rfl, .inl hS, _, rfl, by omega, by omega, ?_⟩
  refine for_range (lo := 0) (n := ((xs.length : Nat) : Int).toNat) (fun i σ H' => ∃ w2 w3 w4, σ = [some (.ref b), some (.ref t), w2, w3, w4] ∧ Same H H' ∧ bar rs u = barFrom rs u (rs.length - i) i) ⟨_, _, _, rfl, Same.refl H, rfl⟩ ?_ ?_
  · rintro i σ H1 hi ⟨w2, w3, w4, rfl, s1, hbar⟩
    have hil : i < xs.length := by omega
    have e0 : (0 : Int) + (i : Int) = (i : Int) := by omega
    rw [e0]
    obtain ⟨x2, e2⟩ : ∃ v, xs[i]? = some v := ⟨_, List.getElem?_eq_getElem hil⟩
    obtain ⟨o, ho, hv⟩ := (hB.same (NL.of s1)).at_ i x2 e2
    have hS1 := s1.seq hS
    have hB1 := hB.same (NL.of s1)
    have ht1 := nl_tup (NL.of s1) ht
    obtain ⟨k, hk⟩ : ∃ k, rs.length - i = k + 1 := ⟨rs.length - i - 1, by omega⟩
    have hk' : rs.length - (i + 1) = k := by omega
    rw [hk] at hbar
    refine ⟨_, rfl, _, rfl, b, xs, _, _, rfl, rfl, hS1, atI_nat e2, rfl, _, rfl, ?_⟩
    rcases hv with ⟨rfl, rfl⟩ | ⟨p, r, rfl, rfl, hp⟩
    · refine iteF ⟨_, _, _, rfl, s1, ?_⟩
      rw [hbar, hk', barFrom_gap ho]
    · have gr : GoodRw r := hG r (List.mem_of_getElem? ho)
      refine iteT ?_
      refine ⟨fun σ' H' => ∃ pv, σ' = [some (.ref b), some (.ref t), some (.int (i : Int)), some pv, w4] ∧ H1 = H' ∧ RowV K H1 pv (partner rs i), ?_, ?_⟩
      · refine ⟨_, rfl, _, _, rfl, rfl, .inl ⟨by decide, by decide⟩, _, rfl, b, xs, rfl, .inl hS1, _, _, rfl, rfl, _, rfl, ?_⟩
        by_cases h : 2 * i < rs.length
        · rw [decide_eq_false (show ¬ (xs.length : Int) ≤ 2 * (i : Int) by omega)]
          refine iteF ⟨_, rfl, rfl, .inl ⟨rfl, ?_⟩⟩
          unfold partner
          rw [if_pos h]
        · rw [decide_eq_true (show (xs.length : Int) ≤ 2 * (i : Int) by omega)]
          obtain ⟨o', ho'⟩ : ∃ o, rs[rs.length - 1 - i]? = some o := ⟨_, List.getElem?_eq_getElem (by omega)⟩
          obtain ⟨v, hv, hbv⟩ := hB1.get ho'
          refine iteT ⟨_, rfl, _, rfl, b, xs, rfl, .inl hS1, _, _, rfl, rfl, _, rfl, _, _, rfl, rfl, b, xs, _, v, rfl, rfl, hS1, at_of (j := rs.length - 1 - i) (by omega) hv, v, rfl, rfl, ?_⟩
          have : partner rs i = o' := by
            unfold partner
            rw [if_neg h, ho']
            cases o' <;> rfl
          rw [this]
          exact hbv
      · rintro σ' _ ⟨pv, rfl, rfl, hpv⟩
        -- a return
        have ret : ∀ (H2 : Hp) (x : V), Same H H2 → reason rs u i r = x → ¬ x = .non → 2 ≤ sizeLine ∧ ∀ t2, H2 t2 = none → Q (.ref t2) (upd H2 t2 (.tup [.int (i : Int), x])) := fun H2 x s e hx => by
          refine ⟨by decide, fun t2 ht2 => q _ _ (s.trans (same_upd ht2)) ?_⟩
          rw [hbar, barFrom_bad ho (by rw [e]; exact hx), e]
          exact ⟨t2, rfl, upd_same⟩
        have eR : reason rs u i r = if twice rs i r.num = true then .str "twice" else if stepBars rs u i r = true then .str "step" else match partner rs i with
          | none => .non
          | some p => if u.far < apart r.ac p.ac then .str "match" else if (u.shd && !look r p) = true then .str "shade" else .non := rfl
        refine ⟨_, rfl, _, rfl, b, xs, _, _, rfl, rfl, hS1, atI_nat e2, p, _, _, _, rfl, rfl, hp, atI_nat (j := 0) rfl, ?_⟩
        refine ⟨_, rfl, _, rfl, _, rfl, b, xs, rfl, hS1, fun c hc => ?_⟩
        have s2 : Same H1 (upd H1 c (.lst (cutV xs none (some (i : Int))))) := same_upd hc
        have hcut := cut_to xs i
        refine ⟨c, rfl, ⟨_, SqL.of upd_same⟩, fun D hD => ?_⟩
        have hlen : (cutV xs none (some (i : Int))).length = i := by
          rw [hcut, List.length_take]
          omega
        refine lc_someI (K := K) (a := c) hD (SqL.of upd_same) (by omega) (fun j => isSm (rs.getD j none)) (fun j => numOf (rs.getD j none)) ?_ ?_
        · intro j x H2 R C hx s3 h1 h2
          rw [hcut] at hx
          have hji : j < i := by
            have := (List.getElem?_eq_some_iff.mp hx).1
            rw [List.length_take] at this
            omega
          rw [List.getElem?_take_of_lt hji] at hx
          obtain ⟨o', ho', hv'⟩ := hB1.at_ j x hx
          have hv' := hv'.same (NL.of (s2.trans s3))
          have eo : rs.getD j none = o' := by rw [List.getD_eq_getElem?_getD, ho']; rfl
          rw [eo] at h1 h2
          refine ⟨rfl, ⟨_, rfl, rfl, _, rfl, ?_⟩⟩
          rcases hv' with ⟨rfl, rfl⟩ | ⟨p', r', rfl, rfl, h'⟩
          · exact iteF (h2 rfl)
          · exact iteT ⟨_, rfl, p', _, _, _, rfl, rfl, h', atI_nat (j := 0) rfl, h1 rfl⟩
        · intro H2 s3 e3
          rw [hlen] at e3
          have s4 := s2.trans s3
          refine ⟨D, _, rfl, .inl (SqL.of e3), rfl, flat_nums rs _, _, rfl, ?_⟩
          show if inV (.int r.num) (((List.range i).filter fun j => isSm (rs.getD j none)).map fun j => numOf (rs.getD j none)) = true then _ else _
          rw [in_twice rs r.num i (by omega)]
          have hS2 := s4.seq hS1
          have hB2 := hB1.same (NL.of s4)
          have ht2 := nl_tup (NL.of s4) ht1
          have hp2 := nl_tup (NL.of s4) hp
          have hpv2 := hpv.same (NL.of s4)
          have s5 := s1.trans s4
          by_cases h1 : twice rs i r.num = true
          · rw [h1]
            rw [if_pos h1] at eR
            exact iteT ⟨_, rfl, ret H2 _ s5 eR (fun z => nomatch z)⟩
          · rw [if_neg h1] at eR
            rw [Bool.not_eq_true] at h1
            rw [h1]
            refine iteF ⟨_, rfl, _, rfl, _, rfl, b, t, i, xs, rs, r, u, rfl, hS2, hB2, ht2, ho, hl, _, rfl, ?_⟩
            by_cases h2 : stepBars rs u i r = true
            · rw [h2]
              rw [if_pos h2] at eR
              exact iteT ⟨_, rfl, ret H2 _ s5 eR (fun z => nomatch z)⟩
            · rw [if_neg h2] at eR
              rw [Bool.not_eq_true] at h2
              rw [h2]
              refine iteF ⟨_, rfl, rfl, _, rfl, ?_⟩
              have none_ : reason rs u i r = .non → ∀ (σ3 : L2.St) (H3 : Hp), Same H H3 → (∃ w2 w3 w4, σ3 = [some (.ref b), some (.ref t), w2, w3, w4]) → ∃ w2 w3 w4, σ3 = [some (.ref b), some (.ref t), w2, w3, w4] ∧ Same H H3 ∧ bar rs u = barFrom rs u (rs.length - (i + 1)) (i + 1) := fun e σ3 H3 s ⟨w2, w3, w4, eσ⟩ => ⟨w2, w3, w4, eσ, s, by rw [hbar, hk', barFrom_ok ho e]⟩
              rcases hpv2 with ⟨rfl, ep⟩ | ⟨p', r', rfl, ep, hp'⟩
              · rw [ep] at eR
                refine iteF (iteF ?_)
                refine ⟨_, rfl, rfl, _, rfl, ?_⟩
                exact iteF (iteF (none_ eR _ _ s5 ⟨_, _, _, rfl⟩))
              · rw [ep] at eR
                have eR : reason rs u i r = if u.far < apart r.ac r'.ac then .str "match" else if (u.shd && !look r r') = true then .str "shade" else .non := eR
                have gr' : GoodRw r' := by
                  unfold partner at ep
                  split at ep
                  · cases ep
                  · rename_i hh
                    cases e : rs[rs.length - 1 - i]? with
                    | none => rw [e] at ep; cases ep
                    | some o =>
                      rw [e] at ep
                      cases o with
                      | none => cases ep
                      | some q' =>
                        have : q' = r' := Option.some.inj ep
                        subst this
                        exact hG q' (List.mem_of_getElem? e)
                refine iteT ⟨_, rfl, p', _, _, _, rfl, rfl, hp', atI_nat (j := 1) rfl, _, rfl, _, rfl, b, xs, _, _, rfl, rfl, hS2, atI_nat e2, p, _, _, _, rfl, rfl, hp2, atI_nat (j := 1) rfl, _, _, rfl, rfl, _, rfl, ?_⟩
                refine ⟨_, rfl, t, _, _, _, rfl, rfl, ht2, atI_nat (j := 2) rfl, _, _, rfl, rfl, _, rfl, ?_⟩
                have eap : apart r'.ac r.ac = apart r.ac r'.ac := by
                  unfold apart
                  split <;> split <;> omega
                show if decide (u.far < apart r'.ac r.ac) = true then _ else _
                rw [eap]
                by_cases h3 : u.far < apart r.ac r'.ac
                · rw [decide_eq_true h3]
                  rw [if_pos h3] at eR
                  exact iteT ⟨_, rfl, ret H2 _ s5 eR (fun z => nomatch z)⟩
                · rw [decide_eq_false h3]
                  rw [if_neg h3] at eR
                  refine iteF ⟨_, rfl, rfl, _, rfl, ?_⟩
                  refine iteT ⟨_, rfl, t, _, _, _, rfl, rfl, ht2, atI_nat (j := 3) rfl, _, rfl, ?_⟩
                  by_cases h4 : u.shd = true
                  · rw [h4, Bool.true_and] at eR
                    rw [h4]
                    refine iteT ⟨_, rfl, _, rfl, p', _, rfl, hp', (fun z => absurd z (by show ¬ (HT.sIx 6 0 (some 3) = 0 ∧ HT.sIx 6 6 none = 6); decide)), fun _ k1 hk1 => ?_⟩
                    have s6 := same_upd hk1 (o := .tup [.str r'.sh, .str r'.fo, .bl r'.dr])
                    refine ⟨_, rfl, _, rfl, b, xs, _, _, rfl, rfl, s6.seq hS2, atI_nat e2, _, rfl, p, _, rfl, nl_tup (NL.of s6) hp2, (fun z => absurd z (by show ¬ (HT.sIx 6 0 (some 3) = 0 ∧ HT.sIx 6 6 none = 6); decide)), fun _ k2 hk2 => ?_⟩
                    have s7 := same_upd hk2 (o := .tup [.str r.sh, .str r.fo, .bl r.dr])
                    refine ⟨lookD r', lookD r, .tup (.inl (.inl (s7 _ _ upd_same))) (.cons (.str _) (.cons (.str _) (.cons (.bl _) .nil))), .tup (.inl (.inl upd_same)) (.cons (.str _) (.cons (.str _) (.cons (.bl _) .nil))), lookD_ok gr', lookD_ok gr, _, rfl, ?_⟩
                    rw [lookD_eqv]
                    by_cases h5 : (!look r r') = true
                    · rw [if_pos h5] at eR
                      rw [h5]
                      exact iteT ⟨_, rfl, ret _ _ (s5.trans (s6.trans s7)) eR (fun z => nomatch z)⟩
                    · rw [if_neg h5] at eR
                      rw [Bool.not_eq_true] at h5
                      rw [h5]
                      exact iteF (none_ eR _ _ (s5.trans (s6.trans s7)) ⟨_, _, _, rfl⟩)
                  · rw [Bool.not_eq_true] at h4
                    rw [h4] at eR ⊢
                    exact iteF (iteF (none_ eR _ _ s5 ⟨_, _, _, rfl⟩))
  · rintro σ H1 ⟨w2, w3, w4, rfl, s1, hbar⟩
    refine q _ _ s1 ?_
    rw [hbar, show rs.length - ((xs.length : Nat) : Int).toNat = 0 by omega]
    rfl
end
end KB
namespace KB
open PySem PySem.Spec PyProof.Rows L2 KA
section
variable {P : Program} {w : World} {K : PySem.W.Frag} {mg : Str → Option Value} {base : Heap}
theorem ok_PearlError_init (T : Tx K mg) : FnOk P w K mg base CX0 1 T.A_PearlError_init T.fd_PearlError_init ["self", "why"] (spPearl K "why") := by
  refine okD T.F_PearlError_init sc_PearlError_init (fun vs H Q E h => ?_) (fun cdv A outer s H vs Q E hr h => ?_)
  · obtain ⟨a, C, v, rfl, T1, hno, ha, q⟩ := h
    rfl
  obtain ⟨a, C, v, rfl, T1, hno, ha, q⟩ := h
  refine ⟨_, (pss_cons (ps_expr (pe_veinit (by rfl) T.z_ValueError T.vV (pa_cons (pv 0) (pa_cons (pv 1) pa_nil))))
      (pss_one (ps_ost (pv 0) (pv 1)))), ?_⟩
  refine ⟨_, rfl, _, rfl, a, C, [v], rfl, (by show 1 ≤ 1000; decide), T1, ha, ?_⟩
  exact ⟨_, rfl, _, rfl, a, C, rfl, T1, hno, .inl ⟨ha, q⟩⟩
def spNotLet (K : PySem.W.Frag) : Sp := fun vs H Q _ => ∃ (a C : Addr) (v1 v2 : V), vs = [.ref a, v1, v2] ∧ OexC K C ∧ PySem.W.findIn K (.ref C) "at" = some none ∧ PySem.W.findIn K (.ref C) "why" = some none ∧ H a = some (exo a C none) ∧
  ∀ dx, H dx = none → dx ≠ a → Q .non (upd (upd (upd H dx (exd dx [("why", v2)])) a (exo a C (some dx))) dx (exd dx [("at", v1), ("why", v2)]))
theorem ok_NotLet_init (T : Tx K mg) : FnOk P w K mg base CX0 2 T.A_NotLet_init T.fd_NotLet_init ["self", "at", "why"] (spNotLet K) := by
  refine T.F_NotLet_init.ok sc_NotLet_init (fun vs H Q E h => ?_) (fun cdv A outer s H vs Q E hr h => ?_)
  · obtain ⟨a, C, v1, v2, rfl, T1, n1, n2, ha, q⟩ := h
    rfl
  obtain ⟨a, C, v1, v2, rfl, T1, n1, n2, ha, q⟩ := h
  refine ⟨_, (pss_cons (ps_expr (pe_cfn T.cf_PearlError (ok_PearlError_init T) (hr.mono (by decide)) (by rfl) T.g_PearlError T.b_PearlError_init .nil pass0 (pa_cons (pv 0) (pa_cons (pv 2) pa_nil))))
      (pss_one (ps_ost (pv 0) (pv 1)))), ?_⟩
  refine ⟨_, rfl, _, rfl, a, C, v2, rfl, T1, n2, ha, fun dx hd hne => ?_⟩
  refine ⟨_, rfl, _, rfl, a, C, rfl, T1, n1, .inr ⟨dx, [("why", v2)], upd_same, ?_, (by show 1 ≤ 900; decide), q dx hd hne⟩⟩
  rw [upd_ne hne]
  exact upd_same
/-- a string: its row at t, its rule at m -/
def sf (t m : Addr) : List (Str × V) := putF "rule" (.ref m) (putF "held" (.ref t) [])
theorem sf_held (t m : Addr) : (sf t m).lookup ("held" : Str) = some (.ref t) := by
  unfold sf
  rw [lookup_putF, if_neg (by decide +kernel), lookup_putF, if_pos rfl]
theorem sf_rule (t m : Addr) : (sf t m).lookup ("rule" : Str) = some (.ref m) := by
  unfold sf
  rw [lookup_putF, if_pos rfl]
theorem sf_no (t m : Addr) {x : Str} (h1 : ¬ x = "rule") (h2 : ¬ x = "held") : (sf t m).lookup x = none := by
  unfold sf
  rw [lookup_putF, if_neg h1, lookup_putF, if_neg h2]
  rfl
def StrAt (C : Addr) (H : Hp) (s t m : Addr) : Prop := ∃ dx, H s = some (.ins C dx (sf t m))
/-- the string at s has the places rs and the rule u -/
structure SV (CB CR C : Addr) (H : Hp) (s : Addr) (rs : List (Option Rw)) (u : Rl) : Prop where
  ex : ∃ (t m : Addr) (xs : List V), StrAt C H s t m ∧ H t = some (.tup xs) ∧ Bds CB H xs rs ∧ RuleAt CR H m u
theorem SV.same {CB CR C : Addr} {H H' : Hp} {s : Addr} {rs : List (Option Rw)} {u : Rl} (h : SV CB CR C H s rs u) (z : Same H H') : SV CB CR C H' s rs u := by
  obtain ⟨t, m, xs, ⟨dx, h1⟩, h2, h3, dm, h4⟩ := h.ex
  exact ⟨t, m, xs, ⟨dx, z _ _ h1⟩, z _ _ h2, h3.same (NL.of z), dm, z _ _ h4⟩
def notLetD (j : Nat) (z : V) : List (Str × V) := [("at", .int j), ("why", z)]
def spStringX (K : PySem.W.Frag) (CB CR C CN : Addr) : Sp := fun vs H Q E => ∃ (s dx b m : Addr) (xs : List V) (rs : List (Option Rw)) (u : Rl), vs = [.ref s, .ref b, .ref m] ∧ H s = some (.ins C dx []) ∧ SqL K H b xs ∧ Bds CB H xs rs ∧ RuleAt CR H m u ∧ rs.length ≤ 1000 ∧
  (bar rs u = none → ∀ (H' : Hp) (t : Addr), StrAt C H' s t m → H' t = some (.tup xs) → (∀ b o, H b = some o → b ≠ s → H' b = some o) → Q .non H') ∧
  (∀ j z, bar rs u = some (j, z) → ∀ H' dd, Same H H' → H' dd = some (.xd (notLetD j z)) → E (.ref CN) (some dd) H')
theorem ok_String_init (T : Tx K mg) : FnOk P w K mg base (L2.CX P w) 4 T.A_String_init T.fd_String_init ["self", "beads", "rule"] (spStringX K T.C_Bead T.C_Rule T.C_String T.C_NotLet) := by
  refine T.F_String_init.okX sc_String_init (fun vs H Q E h => ?_) (fun cdv A outer s H vs Q E hr h => ?_)
  · obtain ⟨s, dx, b, m, xs, rs, u, rfl, hs, hS, hB, hM, hl, qy, qn⟩ := h
    rfl
  obtain ⟨s, dx, b, m, xs, rs, u, rfl, hs, hS, hB, hM, hl, qy, qn⟩ := h
  refine ⟨_, (pss_cons (ps_set (i := 3) sc_String_init.nd rfl (Or.inl rfl) (pe_call (ok_barred T) (hr.mono (by decide)) (by rfl) T.g_barred T.F_barred.kp T.b_barred .nil pass0 (pa_cons (pv 1) (pa_cons (pv 2) pa_nil))))
      (pss_cons (ps_if (pt_cmpR op_notN (pv 3) pe_non (nomark _)) (pss_one (ps_raise rfl (takes_of rfl rfl rfl rfl) (pmk_oex T.ox_NotLet T.in_NotLet T.ti_NotLet (ok_NotLet_init T) (hr.mono (by decide)) T.b_NotLet_init .nil pass0 (by rfl) T.g_NotLet (pa_cons (pe_ix ix_tup (pv 3) pe_int (fun _ _ => rfl)) (pa_cons (pe_ix ix_tup (pv 3) pe_int (fun _ _ => rfl)) pa_nil))))) pss_nil)
      (pss_cons (ps_fld (pv 0) (pe_callTy call_tuple_of (by rfl) T.z_tuple (by decide +kernel) (pa_cons (pv 1) pa_nil)) rfl)
      (pss_one (ps_fld (pv 0) (pv 2) rfl))))), ?_⟩
  refine ⟨_, rfl, _, rfl, b, m, xs, rs, u, rfl, hS, hB, hM, hl, fun H1 v s1 hv => ?_⟩
  cases hbar : bar rs u with
  | none =>
    rw [hbar] at hv
    have hv : v = .non := hv
    subst hv
    refine ⟨_, rfl, rfl, _, rfl, iteF ?_⟩
    refine ⟨_, rfl, b, xs, rfl, .inl ⟨s1.seq hS, fun t ht => ?_⟩⟩
    have z := same_upd ht (o := .tup xs)
    have nts : t ≠ s := fun e => by
      have := s1 _ _ hs
      rw [← e, ht] at this
      cases this
    refine ⟨_, rfl, s, _, dx, _, rfl, z _ _ (s1 _ _ hs), T.cl_String, T.n_String_held, by decide, ?_⟩
    refine ⟨_, rfl, _, rfl, s, _, dx, _, rfl, upd_same, T.cl_String, T.n_String_rule, Nat.lt_of_le_of_lt (few few0) (by decide), ?_⟩
    refine qy hbar _ t ⟨dx, upd_same⟩ ?_ fun b o e hb => ?_
    · rw [upd_ne nts, upd_ne nts]
      exact upd_same
    · rw [upd_ne hb, upd_ne hb]
      exact z _ _ (s1 _ _ e)
  | some jz =>
    obtain ⟨j, z⟩ := jz
    rw [hbar] at hv
    obtain ⟨t, rfl, ht⟩ := (show ∃ t, v = .ref t ∧ H1 t = some (.tup [.int j, z]) from hv)
    refine ⟨_, rfl, rfl, _, rfl, iteT ?_⟩
    refine ⟨_, rfl, t, _, _, _, rfl, rfl, .inl (.inl ht), atI_nat (j := 0) rfl, _, rfl, t, _, _, _, rfl, rfl, .inl (.inl ht), atI_nat (j := 1) rfl, (by show 2 ≤ 1000; decide), fun a ha => ?_⟩
    refine ⟨a, T.C_NotLet, .int j, z, rfl, T.ox_NotLet, T.nf_NotLet_at, T.nf_NotLet_why, upd_same, fun d hd hne => ⟨rfl, d, notLetD j z, ?_, upd_same, ?_, qn j z hbar _ d ?_ upd_same⟩⟩
    · rw [upd_ne hne.symm]
      exact upd_same
    · rwa [upd_ne hne] at hd
    · have hd' : H1 d = none := by rwa [upd_ne hne] at hd
      intro b o e
      have e1 := s1 _ _ e
      rw [upd_ne (ne_of_none e1 hd'), del_ne (ne_of_none e1 ha), upd_ne (ne_of_none e1 hd'), upd_ne (ne_of_none e1 ha), upd_ne (ne_of_none e1 hd'), upd_ne (ne_of_none e1 ha)]
      exact e1
def spSBeads (K : PySem.W.Frag) (CB C : Addr) : Sp := fun vs H Q _ => ∃ (s t m : Addr) (xs : List V), vs = [.ref s] ∧ StrAt C H s t m ∧ H t = some (.tup xs) ∧ ∀ l, H l = none → Q (.ref l) (upd H l (.lst xs))
theorem ok_String_beads (T : Tx K mg) : FnOk P w K mg base CX0 1 T.A_String_beads T.fd_String_beads ["self"] (spSBeads K T.C_Bead T.C_String) := by
  refine T.F_String_beads.ok sc_String_beads (fun vs H Q E h => ?_) (fun cdv A outer s H vs Q E hr h => ?_)
  · obtain ⟨s, t, m, xs, rfl, ⟨dx, hs⟩, ht, q⟩ := h
    rfl
  obtain ⟨s, t, m, xs, rfl, ⟨dx, hs⟩, ht, q⟩ := h
  refine ⟨_, (pss_one (ps_ret (pe_callTy call_list_of (by rfl) T.z_list (by decide +kernel) (pa_cons (pe_fld (pv 0) rfl) pa_nil)))), ?_⟩
  exact ⟨_, rfl, s, _, dx, _, _, rfl, hs, T.cl_String, T.n_String_held, sf_held t m, t, xs, rfl, .inr (.inl (.inl ht)), fun l hl => q l hl⟩
theorem ix_nat {n i : Nat} (h : i < n) : ixN n ((i : Nat) : Int) = some i := by
  unfold ixN
  simp
  omega
def gapsOf (rs : List (Option Rw)) : List Nat := (List.range rs.length).filter fun j => (rs.getD j none).isNone
def spGaps (K : PySem.W.Frag) (CB CR C : Addr) : Sp := fun vs H Q _ => ∃ (s : Addr) (rs : List (Option Rw)) (u : Rl), vs = [.ref s] ∧ SV CB CR C H s rs u ∧ rs.length ≤ 1000 ∧ ∀ H' l, Same H H' → H l = none → H' l = some (.lst ((gapsOf rs).map fun j => V.int (j : Nat))) → Q (.ref l) H'
theorem ok_String_gaps (T : Tx K mg) : FnOk P w K mg base CX0 1 T.A_String_gaps T.fd_String_gaps ["self"] (spGaps K T.C_Bead T.C_Rule T.C_String) := by
  refine T.F_String_gaps.ok sc_String_gaps (fun vs H Q E h => ?_) (fun cdv A outer s H vs Q E hr h => ?_)
  · obtain ⟨s, rs, u, rfl, hs, hl, q⟩ := h
    rfl
  obtain ⟨s, rs, u, rfl, hs, hl, q⟩ := h
  refine ⟨_, (pss_one (ps_ret (pe_lc (own := [("at", 1), ("bead", 2)]) (g := gTup K 2 (gCons (gName 1) (gCons (gName 2) gNil))) (tt := _) rfl sc_String_gaps.nd (pi_enumT (by rfl) T.z_enumerate (pa_cons (pe_fld (pv 0) rfl) pa_nil)) (blkOk_by (N := ["self", "at", "bead"]) (sc := defScope s_String_gaps) (by decide +kernel)) (fun _ _ _ _ _ => (pg_tupK (K' := K) rfl (by rfl) (pgs_cons (pg_name (i := 1) sc_String_gaps.nd rfl (Or.inl rfl)) (pgs_cons (pg_name (i := 2) sc_String_gaps.nd rfl (Or.inl rfl)) pgs_nil)))) (fun _ _ _ _ _ => (pts_one (pt_cmpR op_isN (pv 2) pe_non (nomark _)))) (fun _ _ _ _ _ => (pv 1))))), ?_⟩
  obtain ⟨t, m, xs, ⟨dx, h1⟩, h2, h3, dm, h4⟩ := hs.ex
  refine ⟨_, rfl, s, _, dx, _, _, rfl, h1, T.cl_String, T.n_String_held, sf_held t m, t, xs, rfl, .inl (.inl h2), fun D hD => lc_enumT (K := K) hD h2 (by rw [h3.len]; omega) (fun j => (rs.getD j none).isNone) (fun j => V.int (j : Nat)) ?_ ?_⟩
  · intro i x T2 H2 R C hx s2 hT yes no
    refine ⟨T2, _, rfl, .inl (.inl hT), rfl, _, _, rfl, _, _, rfl, rfl, rfl, _, rfl, rfl, _, rfl, ?_⟩
    obtain ⟨o, ho, hb⟩ := h3.at_ i x hx
    have hg : rs.getD i none = o := by
      rw [List.getD_eq_getElem?_getD, ho]
      rfl
    rw [hg] at yes no
    rcases hb with ⟨rfl, rfl⟩ | ⟨p, r, rfl, rfl, _⟩
    · exact iteT ⟨_, rfl, yes rfl⟩
    · exact iteF (no rfl)
  · intro H' s' e
    rw [h3.len] at e
    exact q H' D s' hD e
def spLen (C : Addr) (CB CR : Addr) : Sp := fun vs H Q _ => ∃ (s : Addr) (rs : List (Option Rw)) (u : Rl), vs = [.ref s] ∧ SV CB CR C H s rs u ∧ rs.length ≤ 1000 ∧ Q (.int (rs.length : Nat)) H
theorem ok_String_len (T : Tx K mg) : FnOk P w K mg base CX0 1 T.A_String_len T.fd_String_len ["self"] (spLen T.C_String T.C_Bead T.C_Rule) := by
  refine T.F_String_len.ok sc_String_len (fun vs H Q E h => ?_) (fun cdv A outer s H vs Q E hr h => ?_)
  · obtain ⟨s, rs, u, rfl, hs, hl, q⟩ := h
    rfl
  obtain ⟨s, rs, u, rfl, hs, hl, q⟩ := h
  refine ⟨_, (pss_one (ps_ret (pe_callB call_len_seq (by rfl) T.z_len PySem.boot_len (pa_cons (pe_fld (pv 0) rfl) pa_nil)))), ?_⟩
  obtain ⟨t, m, xs, ⟨dx, h1⟩, h2, h3, dm, h4⟩ := hs.ex
  refine ⟨_, rfl, s, _, dx, _, _, rfl, h1, T.cl_String, T.n_String_held, sf_held t m, t, xs, rfl, .inr (.inl (.inl h2)), ?_⟩
  rw [h3.len]
  exact q
end
end KB
namespace KB
open PySem PySem.Spec PyProof.Rows L2 KA
section
variable {P : Program} {w : World} {K : PySem.W.Frag} {mg : Str → Option Value} {base : Heap}
def spClean (K : PySem.W.Frag) : Sp := fun vs H Q _ => ∃ (d t : Addr) (m : Int) (n : Nat) (u : Rl), vs = [.ref d, .int m, .ref t] ∧ 0 ≤ m ∧ m ≤ 60 ∧ H t = some (.tup (fourVals u)) ∧ GoodU u ∧ Dr PT d n H ∧ n ≤ 20000 ∧
  ∀ (H' : Hp) (p : Addr) (xs : List V) (rs : List (Option Rw)), H' p = some (.lst xs) → H p = none → p ≠ d → Rws K H' xs rs → AllGood rs → rs.length ≤ 200 → But d H H' → Dr PT d (n + 3000) H' → Q (.ref p) H'
theorem ok_clean (T : Tx K mg) : FnOk P w K mg base CX0 3 T.A_clean T.fd_clean ["_law_well_here", "_law_places", "_law_four"] (spClean K) := by
  refine T.F_clean.ok sc_clean (fun vs H Q E h => ?_) (fun cdv A outer s H vs Q E hr h => ?_)
  · obtain ⟨d, t, m, n, u, rfl, hm0, hm1, ht, hU, dr, hn, q⟩ := h
    rfl
  obtain ⟨d, t, m, n, u, rfl, hm0, hm1, ht, hU, dr, hn, q⟩ := h
  refine ⟨_, (pss_cons (ps_set (i := 3) sc_clean.nd rfl (Or.inl rfl) (pe_tup (pa_cons (pe_call (ok_word T) (hr.mono (by decide)) (by rfl) T.g_word T.F_word.kp T.b_word .nil pass0 (pa_cons (pv 0) pa_nil)) (pa_cons (pe_call (ok_word T) (hr.mono (by decide)) (by rfl) T.g_word T.F_word.kp T.b_word .nil pass0 (pa_cons (pv 0) pa_nil)) (pa_cons (pe_cmpR op_eq (pe_call (ok_draw T) (hr.mono (by decide)) (by rfl) T.g_draw T.F_draw.kp T.b_draw .nil pass0 (pa_cons (pv 0) (pa_cons pe_int pa_nil))) pe_int (nomark _)) pa_nil)))))
      (pss_cons (ps_set (i := 4) sc_clean.nd rfl (Or.inl rfl) (pe_lst pa_nil))
      (pss_cons (ps_for PassesOwn.never rfl (pi_range1 (by rfl) T.z_range (pa_cons (pv 1) pa_nil)) (pg_name (i := 5) sc_clean.nd rfl (Or.inl rfl))
        (pss_cons (ps_set (i := 6) sc_clean.nd rfl (Or.inl rfl) (pe_op op_add pe_int (pe_op op_mul (pe_callB (call_min2 rfl) (by rfl) T.z_min (by decide +kernel) (pa_cons (pv 5) (pa_cons (pe_op op_sub (pe_op op_sub (pv 1) pe_int) (pv 5)) pa_nil))) (pe_ix ix_tup (pv 2) pe_int (fun _ _ => rfl)))))
      (pss_cons (ps_expr (pe_bm PySem.F.plainAttrs_list PySem.F.slot_list_append PySem.F.type_list_append mt_append (pv 4) (pa_cons (pe_op op_catA (pe_tup (pa_cons (pe_op op_add (pe_op op_add (pe_op op_mul pe_int (pv 5)) pe_int) (pe_call (ok_draw T) (hr.mono (by decide)) (by rfl) T.g_draw T.F_draw.kp T.b_draw .nil pass0 (pa_cons (pv 0) (pa_cons pe_int pa_nil)))) (pa_cons (pv 6) (pa_cons (pe_op op_add pe_int (pe_call (ok_draw T) (hr.mono (by decide)) (by rfl) T.g_draw T.F_draw.kp T.b_draw .nil pass0 (pa_cons (pv 0) (pa_cons (pe_op op_pow pe_int pe_int) pa_nil)))) pa_nil)))) (pv 3)) pa_nil)))
      (pss_one (ps_if (pt_cmpR op_eq (pe_call (ok_draw T) (hr.mono (by decide)) (by rfl) T.g_draw T.F_draw.kp T.b_draw .nil pass0 (pa_cons (pv 0) (pa_cons pe_int pa_nil))) pe_int (nomark _)) (pss_one (ps_asg pe_non (pg_sub (pv 4) (pe_un un_neg pe_int) set_list))) pss_nil)))))
      (pss_one (ps_ret (pv 4)))))), ?_⟩
  have ntd : t ≠ d := by
    obtain ⟨_, _, _, e, _⟩ := dr
    exact fun z => by rw [z, e] at ht; cases ht
  obtain ⟨⟨u1, u2, u3⟩, u4, u5⟩ := hU
  refine ⟨_, rfl, d, n, rfl, dr, by omega, fun H1 z1 g1 b1 dr1 => ?_⟩
  refine ⟨_, rfl, d, n + 10, rfl, dr1, by omega, fun H2 z2 g2 b2 dr2 => ?_⟩
  refine ⟨_, rfl, d, 2, n + 20, rfl, by decide, log_tiny (by decide) (by decide), dr2, by omega, fun H3 r3 _ _ b3 dr3 => ?_⟩
  refine ⟨rfl, (by show 3 ≤ sizeLine; decide), fun tl htl => ?_⟩
  have ntl := dr3.ne htl
  refine ⟨Nat.zero_le _, fun f hf => ?_⟩
  have drl := dr3.upd (o := .tup [.str z1, .str z2, .bl (decide (V.int r3 = V.int 0))]) ntl
  have nf := drl.ne hf
  have ntf : tl ≠ f := fun z => by rw [← z, upd_same] at hf; cases hf
  have dr4 := drl.upd (o := .lst []) nf
  have b13 : But d H (upd H3 tl (.tup [.str z1, .str z2, .bl (decide (V.int r3 = V.int 0))])) := ((b1.trans b2).trans b3).trans (But.new htl)
  have b4 : But d H (upd (upd H3 tl (.tup [.str z1, .str z2, .bl (decide (V.int r3 = V.int 0))])) f (.lst [])) := b13.trans (But.new hf)
  have hf0 : H f = none := b13.free nf hf
  refine ⟨_, rfl, _, rfl, by omega, by omega, ?_⟩
  refine for_range (lo := 0) (n := m.toNat) (fun i σ H' => ∃ (w5 w6 : Option V) (acc : List V) (rs : List (Option Rw)), σ = [some (.ref d), some (.int m), some (.ref t), some (.ref tl), some (.ref f), w5, w6] ∧ H' f = some (.lst acc) ∧ Rws K H' acc rs ∧ AllGood rs ∧ rs.length = i ∧ LookT H' tl ∧ H' t = some (.tup (fourVals u)) ∧ But d H H' ∧ Dr PT d (n + 221 + 10 * i) H')
    ⟨_, _, [], [], rfl, upd_same, ⟨rfl, fun i v h => by simp at h⟩, (fun _ h => nomatch h), rfl, ⟨z1, z2, _, by rw [upd_ne ntf]; exact upd_same, g1, g2⟩, b4 _ _ ntd ht, b4, dr4.mono (by omega)⟩ ?_ ?_
  · rintro i σ H6 hi ⟨w5, w6, acc, rs, rfl, ef, hR, hG, lrs, hL, et, b6, dr6⟩
    have hi : (i : Int) < m := by omega
    have e64 : (2 : Int) ^ 64 = 18446744073709551616 := by decide
    refine ⟨_, rfl, _, rfl, _, _, rfl, rfl, _, rfl, _, _, rfl, rfl, _, _, rfl, _, rfl, t, _, _, _, rfl, rfl, .inl (.inl et), atI_nat (j := 0) rfl, _, _, rfl, rfl, .inr ⟨by rw [e64]; omega, by rw [e64]; omega⟩, _, _, rfl, rfl, ?_⟩
    obtain ⟨mn, hmn⟩ : ∃ mn : Int, mn = (if m - 1 - (0 + (i : Int)) < 0 + (i : Int) then m - 1 - (0 + (i : Int)) else 0 + (i : Int)) := ⟨_, rfl⟩
    have hmn0 : 0 ≤ mn := by rw [hmn]; split <;> omega
    have hmn1 : mn ≤ 60 := by rw [hmn]; split <;> omega
    rw [← hmn]
    have hp0 : 0 ≤ mn * u.lo := Int.mul_nonneg hmn0 u1
    have hp1 : mn * u.lo ≤ 60 * 100 := Int.mul_le_mul hmn1 (by omega) u1 (by decide)
    dsimp only
    generalize hac : 400 + mn * u.lo = ac
    have hac0 : 1 ≤ ac := by omega
    have hac1 : ac ≤ 100000 := by omega
    refine ⟨_, rfl, .inl ⟨rfl, _, SqL.of ef⟩, _, rfl, _, _, rfl, rfl, .inl ⟨by decide, by decide⟩, _, _, rfl, rfl, _, rfl, d, 9, _, rfl, by decide, log_tiny (by decide) (by decide), dr6, by omega, fun H7 r7 a7 c7 b7 dr7 => ⟨_, _, rfl, rfl, ?_⟩⟩
    refine ⟨_, rfl, _, rfl, _, _, rfl, rfl, ⟨by decide, by decide, by decide⟩, d, _, _, rfl, by decide, log_tiny (by decide) (by decide), dr7, by omega, fun H8 r8 a8 c8 b8 dr8 => ⟨_, _, rfl, rfl, (by show 3 ≤ sizeLine; decide), fun t1 ht1 => ?_⟩⟩
    have e6 : (10 : Int) ^ (6 : Int).toNat = 1000000 := by decide
    rw [e6] at c8
    have b68 := b7.trans b8
    obtain ⟨s, fo, bb, eL, gs, gf⟩ := id hL
    have eL8 := b68 _ _ ntl eL
    refine ⟨_, rfl, t1, tl, _, _, rfl, rfl, .inl (.inl upd_same), .inl (.inl (same_upd ht1 _ _ eL8)), (by show 6 ≤ sizeLine; decide), (fun z => nomatch z), (fun _ z => nomatch z), fun _ _ t2 ht2 => ?_⟩
    obtain ⟨num, hnum⟩ : ∃ num : Int, num = 10 * (0 + (i : Int)) + 1 + r7 := ⟨_, rfl⟩
    have S12 : Same H8 (upd (upd H8 t1 (.tup [.int (10 * (0 + (i : Int)) + 1 + r7), .int ac, .int (1 + r8)])) t2 (.tup (rowVals ⟨10 * (0 + (i : Int)) + 1 + r7, ac, 1 + r8, s, fo, bb⟩))) := (same_upd ht1).trans (same_upd ht2)
    have ef12 := S12 _ _ (b68 _ _ nf ef)
    refine ⟨f, _, _, rfl, rfl, ef12, ?_, ?_⟩
    · rw [hR.len, lrs]
      exact Nat.lt_of_lt_of_le (show i < 1000 by omega) (by decide)
    have dr12 := dr8.same S12
    have dr13 := dr12.upd (o := .lst (acc ++ [.ref t2])) nf
    have gR : GoodRw ⟨10 * (0 + (i : Int)) + 1 + r7, ac, 1 + r8, s, fo, bb⟩ := ⟨good_int (a := 10 * (0 + (i : Int)) + 1 + r7) (by omega) (by omega), good_int (a := ac) hac0 (by omega), good_int (a := 1 + r8) (by omega) (by omega), gs, gf⟩
    have nl12 : NL H6 _ := (dr_nl dr6 b68).trans (NL.of S12)
    have nl13 := nl12.trans (NL.at_ (o := .lst (acc ++ [.ref t2])) ef12)
    have bH13 := ((b6.trans b68).trans (But.of S12)).mut (o := .lst (acc ++ [.ref t2])) hf0
    have ntf2 : t ≠ f := fun z => by rw [z, ef] at et; cases et
    have et13 : (upd (upd (upd H8 t1 (.tup [.int (10 * (0 + (i : Int)) + 1 + r7), .int ac, .int (1 + r8)])) t2 (.tup (rowVals ⟨10 * (0 + (i : Int)) + 1 + r7, ac, 1 + r8, s, fo, bb⟩))) f (.lst (acc ++ [.ref t2]))) t = some (.tup (fourVals u)) := (upd_ne ntf2).trans (S12 _ _ (b68 _ _ ntd et))
    have tR : RowV K (upd (upd (upd H8 t1 (.tup [.int (10 * (0 + (i : Int)) + 1 + r7), .int ac, .int (1 + r8)])) t2 (.tup (rowVals ⟨10 * (0 + (i : Int)) + 1 + r7, ac, 1 + r8, s, fo, bb⟩))) f (.lst (acc ++ [.ref t2]))) (.ref t2) (some ⟨10 * (0 + (i : Int)) + 1 + r7, ac, 1 + r8, s, fo, bb⟩) := .inr ⟨t2, _, rfl, rfl, .inl (.inl ((NL.at_ (o := .lst (acc ++ [.ref t2])) ef12) _ _ (fun _ z => by cases z) (upd_same (H := upd H8 t1 (.tup [.int (10 * (0 + (i : Int)) + 1 + r7), .int ac, .int (1 + r8)])))))⟩
    refine ⟨_, rfl, d, 12, _, rfl, by decide, log_tiny (by decide) (by decide), dr13, by omega, fun H14 r14 _ _ b14 dr14 => ?_⟩
    have nl14 := nl13.trans (dr_nl dr13 b14)
    have ef14 := b14 _ _ nf upd_same
    refine ⟨rfl, _, rfl, ite2 (fun _ => ?_) (fun _ => ?_)⟩
    · have hix : ixN (acc ++ [V.ref t2]).length (-1) = some acc.length := by
        unfold ixN
        rw [if_neg (by decide), if_pos (by rw [List.length_append, List.length_singleton]; omega), List.length_append, List.length_singleton]
        congr 1
        omega
      refine ⟨_, rfl, 1, rfl, f, _, _, _, rfl, rfl, ef14, hix, ?_⟩
      refine ⟨_, _, _, rs ++ [none], rfl, upd_same, ?_, ?_, ?_, ?_, ?_, ?_, ?_⟩
      · exact ((hR.same nl14).same (NL.at_ ef14)).gap (o := none)
      · intro r hr
        rcases List.mem_append.mp hr with h | h
        · exact hG r h
        · simp at h
      · rw [List.length_append, lrs]
        rfl
      · exact (hL.same nl14).same (NL.at_ ef14)
      · exact (upd_ne ntf2).trans (b14 _ _ ntd et13)
      · exact (bH13.trans b14).mut hf0
      · exact (dr14.upd nf).mono (by omega)
    · refine ⟨_, _, _, rs ++ [some ⟨10 * (0 + (i : Int)) + 1 + r7, ac, 1 + r8, s, fo, bb⟩], rfl, ef14, ?_, ?_, ?_, ?_, ?_, ?_, ?_⟩
      · exact (hR.same nl14).push (tR.same (dr_nl dr13 b14))
      · intro r hr
        rcases List.mem_append.mp hr with h | h
        · exact hG r h
        · have := Option.some.inj (List.mem_singleton.mp h)
          rw [this]
          exact gR
      · rw [List.length_append, lrs]
        rfl
      · exact hL.same nl14
      · exact b14 _ _ ntd et13
      · exact bH13.trans b14
      · exact dr14.mono (by omega)
  · rintro σ H6 ⟨w5, w6, acc, rs, rfl, ef, hR, hG, lrs, hL, et, b6, dr6⟩
    exact ⟨_, rfl, q H6 f acc rs ef hf0 nf hR hG (by omega) b6 (dr6.mono (by omega))⟩
end
end KB
namespace KB
open PySem PySem.Spec PyProof.Rows L2 KA
section
variable {P : Program} {w : World} {K : PySem.W.Frag} {mg : Str → Option Value} {base : Heap}
theorem dec_str6 (a b : Str) : decide (V.str a = V.str b) = decide (a = b) := by
  rw [decide_eq_decide]
  exact ⟨fun e => by injection e, fun e => by rw [e]⟩
/-! ### how a bead is shown -/
theorem lower_print {c : Nat} (h : lower c = true) (q : Nat) (hq : q = 39) : Builtin.Str.reprChar q c = [c] := by
  have all : (List.range 128).all (fun c => !lower c || (Builtin.Str.reprChar 39 c == [c])) = true := by decide +kernel
  have hl : c < 128 := by
    have := lower_lt h
    omega
  have := List.all_eq_true.mp all c (List.mem_range.mpr hl)
  rw [h] at this
  rw [hq]
  simpa using this
theorem repr_fold (q : Nat) (hq : q = 39) : ∀ (l : List Nat) (acc : Array Nat), (∀ c ∈ l, lower c = true) → (l.foldl (fun out c => out ++ (Builtin.Str.reprChar q c).toArray) acc).toList = acc.toList ++ l
  | [], acc, _ => by simp
  | c :: r, acc, h => by
    rw [List.foldl_cons, repr_fold q hq r _ (fun d hd => h d (List.mem_cons_of_mem _ hd)), lower_print (h c (List.mem_cons_self ..)) q hq]
    simp
theorem nm_low {z : Str} (h : nm (.str z) = true) : z.length ≤ 8 ∧ ∀ c ∈ z.cps.toList, lower c = true := by
  have nmE : nm (.str z) = (decide (1 ≤ z.length) && decide (z.length ≤ 8) && z.cps.toList.all lower) := rfl
  rw [nmE] at h
  simp only [Bool.and_eq_true, decide_eq_true_eq] at h
  exact ⟨h.1.2, fun c hc => List.all_eq_true.mp h.2 c hc⟩
theorem repr_name {z : Str} (h : nm (.str z) = true) : TL.tl (PySem.reprText z) = 39 :: (TL.tl z ++ [39]) := by
  obtain ⟨_, h⟩ := nm_low h
  have hq : PySem.reprQuote z = 39 := by
    unfold PySem.reprQuote
    have : z.cps.contains 39 = false := by
      rw [Bool.eq_false_iff]
      intro hc
      have := h 39 (by simpa using hc)
      exact absurd this (by decide)
    rw [this]
    rfl
  unfold PySem.reprText
  show (Array.push _ _).toList = _
  rw [Array.toList_push, ← Array.foldl_toList, repr_fold _ hq _ _ h, hq]
  rfl
def spShow (C : Addr) (f : Rw → List Nat) : Sp := fun vs H Q _ => ∃ (p : Addr) (r : Rw), vs = [.ref p] ∧ BeadAt C H p r ∧ GoodRw r ∧ ∀ (H' : Hp) (z : Str), TL.tl z = f r → z.length ≤ 1000 → Same H H' → Q (.str z) H'
def nL (i : Int) : List Nat := TL.tl (Str.ofString (toString i))
def strL (r : Rw) : List Nat := nL r.num ++ (TL.tl " " ++ (nL r.ac ++ (TL.tl "/" ++ (nL r.we ++ (TL.tl " " ++ (TL.tl r.sh ++ (TL.tl " " ++ (TL.tl r.fo ++ (if r.dr then TL.tl " drilled" else [])))))))))
def reprL (r : Rw) : List Nat := TL.tl "Bead(" ++ (nL r.num ++ (TL.tl ", " ++ (nL r.ac ++ (TL.tl ", " ++ (nL r.we ++ (TL.tl ", " ++ ([39] ++ (TL.tl r.sh ++ ([39] ++ ((if r.fo = "round" then [] else TL.tl ", form=" ++ ([39] ++ (TL.tl r.fo ++ [39]))) ++ ((if r.dr then TL.tl ", drilled=True" else []) ++ [41])))))))))))
theorem app_le {x y : Str} {m n : Nat} (hx : x.length ≤ m) (hy : y.length ≤ n) : (x ++ y).length ≤ m + n := by
  rw [Str.length_append]
  omega
theorem fit {x : Str} {m : Nat} (h : x.length ≤ m) (hm : m ≤ 100000 := by decide) : x.length ≤ sizeLine := sz _ (Nat.le_trans h hm)
theorem num_le {n : Int} (h0 : 0 ≤ n) (h1 : n ≤ 1000000000) : (Str.ofString (toString n)).length ≤ 59 := toString_length_le h0 (by decide) (by
  have e : (10 : Int) ^ 59 = 100000000000000000000000000000000000000000000000000000000000 := by decide
  rw [e]
  omega)
theorem num_log {n : Int} (h0 : 1 ≤ n) (h1 : n ≤ 1000000000) : n.natAbs.log2 < 1920 := by
  exact Nat.lt_of_lt_of_le (PySem.Flt.log2_lt_of (k := 200) (by omega) (by
      have e2 : (2 : Nat) ^ 200 = 1606938044258990275541962092341162602522202993782792835301376 := by decide
      rw [e2]
      omega)) (by decide)
theorem whl_of {i lo hi : Int} (h : whl (.int i) lo hi = true) : lo ≤ i ∧ i ≤ hi := by
  have e : whl (.int i) lo hi = (decide (lo ≤ i) && decide (i ≤ hi)) := rfl
  rw [e] at h
  simpa using h
theorem c_emp : Str.empty.length ≤ 0 := by decide +kernel
theorem emp_app (x : Str) : TL.tl (Str.empty ++ x) = TL.tl x := by
  rw [TL.tl_append]
  rfl
theorem ok_Bead_str (T : Tx K mg) : FnOk P w K mg base CX0 1 T.A_Bead_str T.fd_Bead_str ["self"] (spShow T.C_Bead strL) := by
  refine T.F_Bead_str.ok sc_Bead_str (fun vs H Q E h => ?_) (fun cdv A outer s H vs Q E hr h => ?_)
  · obtain ⟨p, r, rfl, ⟨dx, hp⟩, ⟨g1, g2, g3, g4, g5⟩, q⟩ := h
    rfl
  obtain ⟨p, r, rfl, ⟨dx, hp⟩, ⟨g1, g2, g3, g4, g5⟩, q⟩ := h
  refine ⟨_, (pss_cons (ps_if (pt_val (pe_fld (pv 0) rfl)) (pss_one (ps_ret (pe_joined (PJ.cons (pe_fmtB (pe_fld (pv 0) rfl)) (PJ.cons pe_str (PJ.cons (pe_fmtB (pe_fld (pv 0) rfl)) (PJ.cons pe_str (PJ.cons (pe_fmtB (pe_fld (pv 0) rfl)) (PJ.cons pe_str (PJ.cons (pe_fmtB (pe_fld (pv 0) rfl)) (PJ.cons pe_str (PJ.cons (pe_fmtB (pe_fld (pv 0) rfl)) (PJ.cons pe_str PJ.nil))))))))))))) pss_nil)
      (pss_one (ps_ret (pe_joined (PJ.cons (pe_fmtB (pe_fld (pv 0) rfl)) (PJ.cons pe_str (PJ.cons (pe_fmtB (pe_fld (pv 0) rfl)) (PJ.cons pe_str (PJ.cons (pe_fmtB (pe_fld (pv 0) rfl)) (PJ.cons pe_str (PJ.cons (pe_fmtB (pe_fld (pv 0) rfl)) (PJ.cons pe_str (PJ.cons (pe_fmtB (pe_fld (pv 0) rfl)) PJ.nil))))))))))))), ?_⟩
  obtain ⟨a1, a2⟩ := whl_of g1
  obtain ⟨a3, a4⟩ := whl_of g2
  obtain ⟨a5, a6⟩ := whl_of g3
  have l1 := num_le (n := r.num) (by omega) a2
  have l2 := num_le (n := r.ac) (by omega) (by omega)
  have l3 := num_le (n := r.we) (by omega) (by omega)
  have l4 := (nm_low g4).1
  have l5 := (nm_low g5).1
  have b1 : (" " : Str).length ≤ 1 := by decide +kernel
  have b2 : ("/" : Str).length ≤ 1 := by decide +kernel
  have b3 : (" drilled" : Str).length ≤ 8 := by decide +kernel
  have c1 := app_le c_emp l1
  have c2 := app_le c1 b1
  have c3 := app_le c2 l2
  have c4 := app_le c3 b2
  have c5 := app_le c4 l3
  have c6 := app_le c5 b1
  have c7 := app_le c6 l4
  have c8 := app_le c7 b1
  have c9 := app_le c8 l5
  have c10 := app_le c9 b3
  refine ⟨_, rfl, p, _, dx, _, _, rfl, hp, T.cl_Bead, T.n_Bead_drilled, bf_drilled r, _, rfl, ?_⟩
  refine ite2 (fun e => ?_) (fun e => ?_)
  · refine ⟨_, rfl, p, _, dx, _, _, rfl, hp, T.cl_Bead, T.n_Bead_number, bf_number r, .inr (.inl ⟨_, rfl, num_log a1 a2, _, rfl, fit c1, _, rfl, fit c2, ?_⟩)⟩
    refine ⟨_, rfl, p, _, dx, _, _, rfl, hp, T.cl_Bead, T.n_Bead_across, bf_across r, .inr (.inl ⟨_, rfl, num_log a3 (by omega), _, rfl, fit c3, _, rfl, fit c4, ?_⟩)⟩
    refine ⟨_, rfl, p, _, dx, _, _, rfl, hp, T.cl_Bead, T.n_Bead_weight, bf_weight r, .inr (.inl ⟨_, rfl, num_log a5 (by omega), _, rfl, fit c5, _, rfl, fit c6, ?_⟩)⟩
    refine ⟨_, rfl, p, _, dx, _, _, rfl, hp, T.cl_Bead, T.n_Bead_shade, bf_shade r, .inl ⟨_, rfl, fit l4, _, rfl, fit c7, _, rfl, fit c8, ?_⟩⟩
    refine ⟨_, rfl, p, _, dx, _, _, rfl, hp, T.cl_Bead, T.n_Bead_form, bf_form r, .inl ⟨_, rfl, fit l5, _, rfl, fit c9, _, rfl, fit c10, ?_⟩⟩
    refine q _ _ ?_ (Nat.le_trans c10 (by decide)) (fun _ _ h => h)
    unfold strL nL
    rw [e, if_pos rfl]
    simp only [TL.tl_append, List.append_assoc]
    rfl
  · refine ⟨_, rfl, p, _, dx, _, _, rfl, hp, T.cl_Bead, T.n_Bead_number, bf_number r, .inr (.inl ⟨_, rfl, num_log a1 a2, _, rfl, fit c1, _, rfl, fit c2, ?_⟩)⟩
    refine ⟨_, rfl, p, _, dx, _, _, rfl, hp, T.cl_Bead, T.n_Bead_across, bf_across r, .inr (.inl ⟨_, rfl, num_log a3 (by omega), _, rfl, fit c3, _, rfl, fit c4, ?_⟩)⟩
    refine ⟨_, rfl, p, _, dx, _, _, rfl, hp, T.cl_Bead, T.n_Bead_weight, bf_weight r, .inr (.inl ⟨_, rfl, num_log a5 (by omega), _, rfl, fit c5, _, rfl, fit c6, ?_⟩)⟩
    refine ⟨_, rfl, p, _, dx, _, _, rfl, hp, T.cl_Bead, T.n_Bead_shade, bf_shade r, .inl ⟨_, rfl, fit l4, _, rfl, fit c7, _, rfl, fit c8, ?_⟩⟩
    refine ⟨_, rfl, p, _, dx, _, _, rfl, hp, T.cl_Bead, T.n_Bead_form, bf_form r, .inl ⟨_, rfl, fit l5, _, rfl, fit c9, ?_⟩⟩
    refine q _ _ ?_ (Nat.le_trans c9 (by decide)) (fun _ _ h => h)
    unfold strL nL
    rw [if_neg e]
    simp only [TL.tl_append, List.append_assoc, List.append_nil]
    rfl
theorem repr_le {z : Str} (h : nm (.str z) = true) : (PySem.reprText z).length ≤ 10 := by
  rw [TL.len_tl, repr_name h, List.length_cons, List.length_append, ← TL.len_tl]
  have := (nm_low h).1
  show z.length + 1 + 1 ≤ 10
  omega
theorem dec_ne (a b : Str) : (!decide (V.str a = V.str b)) = !decide (a = b) := by rw [dec_str6]
theorem join_le {xs : List Str} {m : Nat} (h : xs.length ≤ 3) (hx : ∀ x ∈ xs, x.length ≤ m) : (xs.map (·.length)).sum + xs.length * (", " : Str).length ≤ 3 * m + 6 := by
  have e : (", " : Str).length = 2 := by decide +kernel
  rw [e]
  match xs, h with
  | [], _ => simp
  | [a], _ =>
    have := hx a (by simp)
    simp
    omega
  | [a, b], _ =>
    have := hx a (by simp)
    have := hx b (by simp)
    simp
    omega
  | [a, b, c], _ =>
    have := hx a (by simp)
    have := hx b (by simp)
    have := hx c (by simp)
    simp
    omega
theorem jn_le {xs : List Str} {m : Nat} (h : (xs.map (·.length)).sum + xs.length * (", " : Str).length ≤ m) : (Txt.join ", " xs).length ≤ m := by
  refine Nat.le_trans ?_ h
  rw [TL.len_tl, TL.join_eq, TL.tl_join]
  generalize hL : (", " : Str).length = k
  have hk : (TL.tl (", " : Str)).length = k := by rw [← TL.len_tl]; exact hL
  clear h hL
  induction xs with
  | nil => exact Nat.zero_le _
  | cons a r ih =>
    cases r with
    | nil =>
      simp only [List.map_cons, List.map_nil, TL.joinL, List.sum_cons, List.sum_nil, List.length_cons, List.length_nil]
      rw [← TL.len_tl]
      omega
    | cons b r =>
      have e : TL.joinL (TL.tl ", ") ((a :: b :: r).map TL.tl) = TL.tl a ++ (TL.tl ", " ++ TL.joinL (TL.tl ", ") ((b :: r).map TL.tl)) := rfl
      have e2 : ((a :: b :: r).map (·.length)).sum = a.length + ((b :: r).map (·.length)).sum := List.sum_cons
      have e3 : (a :: b :: r).length * k = (b :: r).length * k + k := by rw [List.length_cons, Nat.add_mul, Nat.one_mul]
      rw [e, List.length_append, List.length_append, hk, e2, e3, ← TL.len_tl]
      omega
theorem ok_Bead_repr (T : Tx K mg) : FnOk P w K mg base CX0 1 T.A_Bead_repr T.fd_Bead_repr ["self"] (spShow T.C_Bead reprL) := by
  refine T.F_Bead_repr.ok sc_Bead_repr (fun vs H Q E h => ?_) (fun cdv A outer s H vs Q E hr h => ?_)
  · obtain ⟨p, r, rfl, ⟨dx, hp⟩, ⟨g1, g2, g3, g4, g5⟩, q⟩ := h
    rfl
  obtain ⟨p, r, rfl, ⟨dx, hp⟩, ⟨g1, g2, g3, g4, g5⟩, q⟩ := h
  refine ⟨_, (pss_cons (ps_set (i := 1) sc_Bead_repr.nd rfl (Or.inl rfl) (pe_lst (pa_cons (pe_joined (PJ.cons (pe_fmtB (pe_fld (pv 0) rfl)) (PJ.cons pe_str (PJ.cons (pe_fmtB (pe_fld (pv 0) rfl)) (PJ.cons pe_str (PJ.cons (pe_fmtB (pe_fld (pv 0) rfl)) (PJ.cons pe_str (PJ.cons (pe_fmtR (pe_fld (pv 0) rfl)) PJ.nil)))))))) pa_nil)))
      (pss_cons (ps_if (pt_cmpR op_ne (pe_fld (pv 0) rfl) pe_str (nomark _)) (pss_one (ps_expr (pe_bm PySem.F.plainAttrs_list PySem.F.slot_list_append PySem.F.type_list_append mt_append (pv 1) (pa_cons (pe_joined (PJ.cons pe_str (PJ.cons (pe_fmtR (pe_fld (pv 0) rfl)) PJ.nil))) pa_nil)))) pss_nil)
      (pss_cons (ps_if (pt_val (pe_fld (pv 0) rfl)) (pss_one (ps_expr (pe_bm PySem.F.plainAttrs_list PySem.F.slot_list_append PySem.F.type_list_append mt_append (pv 1) (pa_cons pe_str pa_nil)))) pss_nil)
      (pss_one (ps_ret (pe_joined (PJ.cons pe_str (PJ.cons (pe_fmtB (pe_bm PySem.F.plainAttrs_str PySem.F.slot_str_join PySem.F.type_str_join mt_join pe_str (pa_cons (pv 1) pa_nil))) (PJ.cons pe_str PJ.nil))))))))), ?_⟩
  obtain ⟨a1, a2⟩ := whl_of g1
  obtain ⟨a3, a4⟩ := whl_of g2
  obtain ⟨a5, a6⟩ := whl_of g3
  have l1 := num_le (n := r.num) (by omega) a2
  have l2 := num_le (n := r.ac) (by omega) (by omega)
  have l3 := num_le (n := r.we) (by omega) (by omega)
  have l4 := repr_le g4
  have l5 := repr_le g5
  have b1 : (", " : Str).length ≤ 2 := by decide +kernel
  have b2 : ("form=" : Str).length ≤ 5 := by decide +kernel
  have c1 := app_le c_emp l1
  have c2 := app_le c1 b1
  have c3 := app_le c2 l2
  have c4 := app_le c3 b1
  have c5 := app_le c4 l3
  have c6 := app_le c5 b1
  have c7 := app_le c6 l4
  refine ⟨_, rfl, p, _, dx, _, _, rfl, hp, T.cl_Bead, T.n_Bead_number, bf_number r, .inr (.inl ⟨_, rfl, num_log a1 a2, _, rfl, fit c1, _, rfl, fit c2, ?_⟩)⟩
  refine ⟨_, rfl, p, _, dx, _, _, rfl, hp, T.cl_Bead, T.n_Bead_across, bf_across r, .inr (.inl ⟨_, rfl, num_log a3 (by omega), _, rfl, fit c3, _, rfl, fit c4, ?_⟩)⟩
  refine ⟨_, rfl, p, _, dx, _, _, rfl, hp, T.cl_Bead, T.n_Bead_weight, bf_weight r, .inr (.inl ⟨_, rfl, num_log a5 (by omega), _, rfl, fit c5, _, rfl, fit c6, ?_⟩)⟩
  refine ⟨_, rfl, p, _, dx, _, _, rfl, hp, T.cl_Bead, T.n_Bead_shade, bf_shade r, .inl ⟨_, rfl, fit l4, _, rfl, fit c7, ?_⟩⟩
  refine ⟨(by show 1 ≤ sizeLine; decide), fun l hl => ?_⟩
  have c8 := app_le (app_le c_emp b2) l5
  have b3 : ("drilled=True" : Str).length ≤ 12 := by decide +kernel
  have d1 := app_le c_emp (show ("Bead(" : Str).length ≤ 5 by decide +kernel)
  have bb : (")" : Str).length ≤ 1 := by decide +kernel
  have e0 : (upd H l (.lst [V.str (Str.empty ++ Str.ofString (toString r.num) ++ ", " ++ Str.ofString (toString r.ac) ++ ", " ++ Str.ofString (toString r.we) ++ ", " ++ PySem.reprText r.sh)])) p = some (.ins T.C_Bead dx (bf r)) := by rw [upd_ne (ne_of_none hp hl)]; exact hp
  have t0 : TL.tl (Str.empty ++ Str.ofString (toString r.num) ++ ", " ++ Str.ofString (toString r.ac) ++ ", " ++ Str.ofString (toString r.we) ++ ", " ++ PySem.reprText r.sh) = nL r.num ++ (TL.tl ", " ++ (nL r.ac ++ (TL.tl ", " ++ (nL r.we ++ (TL.tl ", " ++ ([39] ++ (TL.tl r.sh ++ [39]))))))) := by
    unfold nL
    simp only [TL.tl_append, List.append_assoc, repr_name g4]
    rfl
  have t1 : TL.tl (Str.empty ++ "form=" ++ PySem.reprText r.fo) = TL.tl "form=" ++ ([39] ++ (TL.tl r.fo ++ [39])) := by
    simp only [TL.tl_append, List.append_assoc, repr_name g5]
    rfl
  generalize Str.empty ++ Str.ofString (toString r.num) ++ ", " ++ Str.ofString (toString r.ac) ++ ", " ++ Str.ofString (toString r.we) ++ ", " ++ PySem.reprText r.sh = S0 at c7 e0 t0 ⊢
  generalize hS1 : Str.empty ++ "form=" ++ PySem.reprText r.fo = S1 at c8 t1
  have sl := same_upd hl (o := .lst [V.str S0])
  refine ⟨_, rfl, p, _, dx, _, _, rfl, e0, T.cl_Bead, T.n_Bead_form, bf_form r, rfl, _, rfl, ?_⟩
  rw [show decide (V.str r.fo = V.str "round") = decide (r.fo = "round") from dec_str6 _ _]
  have fe : (if r.fo = "round" then ([] : List Nat) else TL.tl ", form=" ++ ([39] ++ (TL.tl r.fo ++ [39]))) = if decide (r.fo = "round") then [] else TL.tl ", form=" ++ ([39] ++ (TL.tl r.fo ++ [39])) := by
    by_cases h : r.fo = "round"
    · rw [if_pos h, if_pos (decide_eq_true h)]
    · rw [if_neg h, if_neg (by simpa using h)]
  have tf : TL.tl (", form=" : Str) = TL.tl ", " ++ TL.tl "form=" := by decide +kernel
  have td : TL.tl (", drilled=True" : Str) = TL.tl ", " ++ TL.tl "drilled=True" := by decide +kernel
  unfold reprL at q
  rw [fe, tf, td] at q
  generalize decide (r.fo = "round") = rd at q ⊢
  cases rd with
  | true =>
    refine iteF ⟨_, rfl, p, _, dx, _, _, rfl, e0, T.cl_Bead, T.n_Bead_drilled, bf_drilled r, _, rfl, ite2 (fun e => ?_) (fun e => ?_)⟩
    · rw [e] at q
      refine ⟨_, rfl, .inl ⟨rfl, _, SqL.of upd_same⟩, l, _, _, rfl, rfl, upd_same, (by show 1 < sizeLine; decide), ?_⟩
      have jl := join_le (xs := [S0, "drilled=True"]) (m := 300) (by simp) (fun x hx => by
        simp only [List.mem_cons, List.not_mem_nil, or_false] at hx
        rcases hx with rfl | rfl
        · exact Nat.le_trans c7 (by decide)
        · exact Nat.le_trans b3 (by decide))
      have jt := jn_le jl
      refine ⟨_, rfl, fit d1, rfl, _, rfl, _, l, [S0, "drilled=True"], rfl, rfl, .inl (SqL.of upd_same), Nat.le_trans jl (by decide), .inl ⟨_, rfl, fit jt, _, rfl, fit (app_le d1 jt), _, rfl, fit (app_le (app_le d1 jt) bb), ?_⟩⟩
      refine q _ _ ?_ (Nat.le_trans (app_le (app_le d1 jt) bb) (by decide)) (fun b o h => by have nb := ne_of_none h hl; simp only [upd_ne nb]; exact h)
      rw [TL.tl_append, TL.tl_append, TL.join_eq, TL.tl_join]
      simp only [List.map_cons, List.map_nil, TL.joinL, t0, t1, List.append_assoc, if_true, if_false, Bool.false_eq_true, List.nil_append, List.append_nil, emp_app]
      rfl
    · rw [Bool.not_eq_true] at e
      rw [e] at q
      have jl := join_le (xs := [S0]) (m := 300) (by simp) (fun x hx => by
        simp only [List.mem_cons, List.not_mem_nil, or_false] at hx
        rcases hx with rfl
        · exact Nat.le_trans c7 (by decide))
      have jt := jn_le jl
      refine ⟨_, rfl, fit d1, rfl, _, rfl, _, l, [S0], rfl, rfl, .inl (SqL.of upd_same), Nat.le_trans jl (by decide), .inl ⟨_, rfl, fit jt, _, rfl, fit (app_le d1 jt), _, rfl, fit (app_le (app_le d1 jt) bb), ?_⟩⟩
      refine q _ _ ?_ (Nat.le_trans (app_le (app_le d1 jt) bb) (by decide)) (fun b o h => by have nb := ne_of_none h hl; simp only [upd_ne nb]; exact h)
      rw [TL.tl_append, TL.tl_append, TL.join_eq, TL.tl_join]
      simp only [List.map_cons, List.map_nil, TL.joinL, t0, t1, List.append_assoc, if_true, if_false, Bool.false_eq_true, List.nil_append, List.append_nil, emp_app]
      rfl
  | false =>
    refine iteT ⟨_, rfl, .inl ⟨rfl, _, SqL.of upd_same⟩, _, rfl, fit (app_le c_emp b2), _, rfl, p, _, dx, _, _, rfl, e0, T.cl_Bead, T.n_Bead_form, bf_form r, .inl ⟨_, rfl, fit l5, _, rfl, (by rw [hS1]; exact fit c8), l, _, _, rfl, rfl, upd_same, (by show 1 < sizeLine; decide), ?_⟩⟩
    rw [hS1]
    have e1 : (upd (upd H l (.lst [V.str S0])) l (.lst ([V.str S0] ++ [V.str S1]))) p = some (.ins T.C_Bead dx (bf r)) := by rw [upd_ne (ne_of_none hp hl)]; exact e0
    refine ⟨_, rfl, p, _, dx, _, _, rfl, e1, T.cl_Bead, T.n_Bead_drilled, bf_drilled r, _, rfl, ite2 (fun e => ?_) (fun e => ?_)⟩
    · rw [e] at q
      refine ⟨_, rfl, .inl ⟨rfl, _, SqL.of upd_same⟩, l, _, _, rfl, rfl, upd_same, (by show 2 < sizeLine; decide), ?_⟩
      have jl := join_le (xs := [S0, S1, "drilled=True"]) (m := 300) (by simp) (fun x hx => by
        simp only [List.mem_cons, List.not_mem_nil, or_false] at hx
        rcases hx with rfl | rfl | rfl
        · exact Nat.le_trans c7 (by decide)
        · exact Nat.le_trans c8 (by decide)
        · exact Nat.le_trans b3 (by decide))
      have jt := jn_le jl
      refine ⟨_, rfl, fit d1, rfl, _, rfl, _, l, [S0, S1, "drilled=True"], rfl, rfl, .inl (SqL.of upd_same), Nat.le_trans jl (by decide), .inl ⟨_, rfl, fit jt, _, rfl, fit (app_le d1 jt), _, rfl, fit (app_le (app_le d1 jt) bb), ?_⟩⟩
      refine q _ _ ?_ (Nat.le_trans (app_le (app_le d1 jt) bb) (by decide)) (fun b o h => by have nb := ne_of_none h hl; simp only [upd_ne nb]; exact h)
      rw [TL.tl_append, TL.tl_append, TL.join_eq, TL.tl_join]
      simp only [List.map_cons, List.map_nil, TL.joinL, t0, t1, List.append_assoc, if_true, if_false, Bool.false_eq_true, List.nil_append, List.append_nil, emp_app]
      rfl
    · rw [Bool.not_eq_true] at e
      rw [e] at q
      have jl := join_le (xs := [S0, S1]) (m := 300) (by simp) (fun x hx => by
        simp only [List.mem_cons, List.not_mem_nil, or_false] at hx
        rcases hx with rfl | rfl
        · exact Nat.le_trans c7 (by decide)
        · exact Nat.le_trans c8 (by decide))
      have jt := jn_le jl
      refine ⟨_, rfl, fit d1, rfl, _, rfl, _, l, [S0, S1], rfl, rfl, .inl (SqL.of upd_same), Nat.le_trans jl (by decide), .inl ⟨_, rfl, fit jt, _, rfl, fit (app_le d1 jt), _, rfl, fit (app_le (app_le d1 jt) bb), ?_⟩⟩
      refine q _ _ ?_ (Nat.le_trans (app_le (app_le d1 jt) bb) (by decide)) (fun b o h => by have nb := ne_of_none h hl; simp only [upd_ne nb]; exact h)
      rw [TL.tl_append, TL.tl_append, TL.join_eq, TL.tl_join]
      simp only [List.map_cons, List.map_nil, TL.joinL, t0, t1, List.append_assoc, if_true, if_false, Bool.false_eq_true, List.nil_append, List.append_nil, emp_app]
      rfl
end
end KB
namespace KB
open PySem PySem.Spec PyProof.Rows L2 KA
section
variable {P : Program} {w : World} {K : PySem.W.Frag} {mg : Str → Option Value} {base : Heap}
def spFig : Sp := fun vs H Q _ => ∃ n : Int, vs = [.int n] ∧ 0 ≤ n ∧ n < 10 ^ 59 ∧ ∀ H', Same H H' → Q (.str (toString n)) H'
theorem ok_figures (T : Tx K mg) : FnOk P w K mg base CX0 1 T.A_figures T.fd_figures ["number"] (spFig) := by
  refine T.F_figures.ok sc_figures (fun vs H Q E h => ?_) (fun cdv A outer s H vs Q E hr h => ?_)
  · obtain ⟨n, rfl, h0, h1, q⟩ := h
    rfl
  obtain ⟨n, rfl, h0, h1, q⟩ := h
  refine ⟨_, (pss_cons (ps_set (i := 1) sc_figures.nd rfl (Or.inl rfl) (pe_lst pa_nil))
      (pss_cons (ps_set (i := 2) sc_figures.nd rfl (Or.inl rfl) (pe_callB call_abs (by rfl) T.z_abs (by decide +kernel) (pa_cons (pv 0) pa_nil)))
      (pss_cons (ps_while PassesOwn.never (pt_cmpR op_ge (pv 2) (pe_glob (v := .int 1000000000000000000000000000000000000000000000000000000000000) (by rfl) T.g_GROUP ⟨_, rfl⟩) (nomark _)) (pss_cons (ps_asg (pe_callB call_divmodW (by rfl) T.z_divmod (by decide +kernel) (pa_cons (pv 2) (pa_cons (pe_glob (v := .int 1000000000000000000000000000000000000000000000000000000000000) (by rfl) T.g_GROUP ⟨_, rfl⟩) pa_nil))) (pg_tup (by rfl) (pgs_cons (pg_name (i := 2) sc_figures.nd rfl (Or.inl rfl)) (pgs_cons (pg_name (i := 3) sc_figures.nd rfl (Or.inl rfl)) pgs_nil))))
      (pss_one (ps_expr (pe_bm PySem.F.plainAttrs_list PySem.F.slot_list_append PySem.F.type_list_append mt_append (pv 1) (pa_cons (pe_bm PySem.F.plainAttrs_str PySem.F.slot_str_zfill PySem.F.type_str_zfill mt_zfill (pe_callTy call_str_int (by rfl) T.z_str (by decide +kernel) (pa_cons (pv 3) pa_nil)) (pa_cons (pe_glob (v := .int 60) (by rfl) T.g_GROUP_FIGURES ⟨_, rfl⟩) pa_nil)) pa_nil))))))
      (pss_cons (ps_expr (pe_bm PySem.F.plainAttrs_list PySem.F.slot_list_append PySem.F.type_list_append mt_append (pv 1) (pa_cons (pe_callTy call_str_int (by rfl) T.z_str (by decide +kernel) (pa_cons (pv 2) pa_nil)) pa_nil)))
      (pss_cons (ps_if (pt_cmpR op_lt (pv 0) pe_int (nomark _)) (pss_one (ps_expr (pe_bm PySem.F.plainAttrs_list PySem.F.slot_list_append PySem.F.type_list_append mt_append (pv 1) (pa_cons pe_str pa_nil)))) pss_nil)
      (pss_one (ps_ret (pe_bm PySem.F.plainAttrs_str PySem.F.slot_str_join PySem.F.type_str_join mt_join pe_str (pa_cons (pe_revL (pv 1)) pa_nil))))))))), ?_⟩
  have hlog : n.natAbs.log2 < 1920 := by
    rcases Nat.eq_zero_or_pos n.natAbs with z | z
    · rw [z]; decide
    · exact Nat.lt_of_lt_of_le (PySem.Flt.log2_lt_of (k := 200) (by omega) (by
        have e : (10 : Int) ^ 59 = 100000000000000000000000000000000000000000000000000000000000 := by decide
        have e2 : (2 : Nat) ^ 200 = 1606938044258990275541962092341162602522202993782792835301376 := by decide
        rw [e] at h1
        rw [e2]
        omega)) (by decide)
  refine ⟨(by show 0 ≤ sizeLine; decide), fun g hg => ?_⟩
  refine ⟨_, rfl, _, rfl, ?_⟩
  refine while_by (fun σ H' => ∃ w3, σ = [some (.int n), some (.ref g), some (.int n), w3] ∧ H' = upd H g (.lst [])) (fun _ _ => 0) ⟨none, ?_, rfl⟩ ?_ ?_
  · show [some (V.int n), some (V.ref g), some (V.int (if n < 0 then -n else n)), none] = _
    rw [if_neg (by omega)]
  · rintro σ H' ⟨w3, rfl, rfl⟩
    refine ⟨_, rfl, _, _, rfl, rfl, _, rfl, ?_⟩
    rw [decide_eq_false (show ¬ (1000000000000000000000000000000000000000000000000000000000000 : Int) ≤ n by
      have e : (10 : Int) ^ 59 = 100000000000000000000000000000000000000000000000000000000000 := by decide
      rw [e] at h1
      omega)]
    refine iteF ?_
    have fits : (Str.ofString (toString n)).length ≤ 16777216 := by
      have := int_text_fits hlog
      rw [sizeLine_eq] at this
      exact this
    refine ⟨_, rfl, .inl ⟨rfl, _, SqL.of upd_same⟩, _, rfl, _, rfl, hlog, g, _, _, rfl, rfl, upd_same, (by decide), ?_⟩
    refine ⟨_, rfl, _, _, rfl, rfl, _, rfl, ?_⟩
    rw [decide_eq_false (show ¬ n < 0 by omega)]
    refine iteF ⟨rfl, _, rfl, g, _, rfl, SqL.of upd_same, fun r hr => ?_⟩
    refine ⟨_, r, [Str.ofString (toString n)], rfl, rfl, .inl (SqL.of upd_same), ?_, ?_⟩
    · show (Str.ofString (toString n)).length + 0 + 1 * 0 ≤ 16777216
      omega
    · refine q _ fun b o e => ?_
      rw [upd_ne (ne_of_none (by rw [upd_ne (ne_of_none e hg), upd_ne (ne_of_none e hg)]; exact e) hr), upd_ne (ne_of_none e hg), upd_ne (ne_of_none e hg)]
      exact e
  · rintro σ H' Q1 Q2 hQ ⟨v, e1, i, j, e2, e3, k, e4, z⟩
    exact ⟨v, e1, i, j, e2, e3, k, e4, hQ _ _ z⟩
def shB (b : Bool) : Str := if b then "True" else "False"
def ruleText (u : Rl) : Str := Str.empty ++ "Rule(least=" ++ Str.ofString (toString u.lo) ++ ", most=" ++ Str.ofString (toString u.hi) ++ ", match=" ++ Str.ofString (toString u.far) ++ ", shades=" ++ shB u.shd ++ ")"
def SmallRl (u : Rl) : Prop := GoodRl u ∧ u.hi < 10 ^ 59 ∧ u.far < 10 ^ 59
theorem num_le9 {n : Int} (h0 : 0 ≤ n) (h1 : n < 10 ^ 59) : (Str.ofString (toString n)).length ≤ 59 := toString_length_le h0 (by decide) h1
theorem num_log9 {n : Int} (h0 : 0 ≤ n) (h1 : n < 10 ^ 59) : n.natAbs.log2 < 1920 := by
  rcases Nat.eq_zero_or_pos n.natAbs with z | z
  · rw [z]; decide
  · exact Nat.lt_of_lt_of_le (PySem.Flt.log2_lt_of (k := 200) (by omega) (by
      have e : (10 : Int) ^ 59 = 100000000000000000000000000000000000000000000000000000000000 := by decide
      have e2 : (2 : Nat) ^ 200 = 1606938044258990275541962092341162602522202993782792835301376 := by decide
      rw [e] at h1
      rw [e2]
      omega)) (by decide)
theorem shB_le (b : Bool) : (shB b).length ≤ 5 := by cases b <;> decide +kernel
def spRRepr (C : Addr) : Sp := fun vs H Q _ => ∃ (a : Addr) (u : Rl), vs = [.ref a] ∧ RuleAt C H a u ∧ SmallRl u ∧ ∀ H', Same H H' → Q (.str (ruleText u)) H'
theorem ok_Rule_repr (T : Tx K mg) : FnOk P w K mg base CX0 2 T.A_Rule_repr T.fd_Rule_repr ["self"] (spRRepr T.C_Rule) := by
  refine T.F_Rule_repr.ok sc_Rule_repr (fun vs H Q E h => ?_) (fun cdv A outer s H vs Q E hr h => ?_)
  · obtain ⟨a, u, rfl, ⟨dx, ha⟩, ⟨⟨g1, g2, g3⟩, g4, g5⟩, q⟩ := h
    rfl
  obtain ⟨a, u, rfl, ⟨dx, ha⟩, ⟨⟨g1, g2, g3⟩, g4, g5⟩, q⟩ := h
  refine ⟨_, (pss_cons (ps_set (i := 1) sc_Rule_repr.nd rfl (Or.inl rfl) (pe_lst (pa_cons (pe_call (ok_figures T) (hr.mono (by decide)) (by rfl) T.g_figures T.F_figures.kp T.b_figures .nil pass0 (pa_cons (pe_fld (pv 0) rfl) pa_nil)) (pa_cons (pe_call (ok_figures T) (hr.mono (by decide)) (by rfl) T.g_figures T.F_figures.kp T.b_figures .nil pass0 (pa_cons (pe_fld (pv 0) rfl) pa_nil)) (pa_cons (pe_call (ok_figures T) (hr.mono (by decide)) (by rfl) T.g_figures T.F_figures.kp T.b_figures .nil pass0 (pa_cons (pe_fld (pv 0) rfl) pa_nil)) pa_nil)))))
      (pss_one (ps_ret (pe_joined (PJ.cons pe_str (PJ.cons (pe_fmtB (pe_ix ix_list (pv 1) pe_int (fun _ _ => rfl))) (PJ.cons pe_str (PJ.cons (pe_fmtB (pe_ix ix_list (pv 1) pe_int (fun _ _ => rfl))) (PJ.cons pe_str (PJ.cons (pe_fmtB (pe_ix ix_list (pv 1) pe_int (fun _ _ => rfl))) (PJ.cons pe_str (PJ.cons (pe_fmtB (pe_fld (pv 0) rfl)) (PJ.cons pe_str PJ.nil))))))))))))), ?_⟩
  refine ⟨_, rfl, a, _, dx, _, _, rfl, ha, T.cl_Rule, T.n_Rule_least, uf_least u, u.lo, rfl, g1, by omega, fun H1 s1 => ?_⟩
  refine ⟨_, rfl, a, _, dx, _, _, rfl, s1 _ _ ha, T.cl_Rule, T.n_Rule_most, uf_most u, u.hi, rfl, by omega, by omega, fun H2 s2 => ?_⟩
  refine ⟨_, rfl, a, _, dx, _, _, rfl, s2 _ _ (s1 _ _ ha), T.cl_Rule, T.n_Rule_match, uf_match u, u.far, rfl, g3, g5, fun H3 s3 => ?_⟩
  refine ⟨(by show 3 ≤ sizeLine; decide), fun l hl => ?_⟩
  have n1 := num_le9 g1 (by omega)
  have n2 := num_le9 (n := u.hi) (by omega) g4
  have n3 := num_le9 g3 g5
  have c0 : Str.empty.length ≤ 0 := by decide +kernel
  have c1 := app_le c0 (show ("Rule(least=" : Str).length ≤ 20 by decide +kernel)
  have c2 := app_le c1 n1
  have c3 := app_le c2 (show (", most=" : Str).length ≤ 20 by decide +kernel)
  have c4 := app_le c3 n2
  have c5 := app_le c4 (show (", match=" : Str).length ≤ 20 by decide +kernel)
  have c6 := app_le c5 n3
  have c7 := app_le c6 (show (", shades=" : Str).length ≤ 20 by decide +kernel)
  have c8 := app_le c7 (shB_le u.shd)
  have c9 := app_le c8 (show (")" : Str).length ≤ 20 by decide +kernel)
  have sl := same_upd hl (o := .lst [V.str (Str.ofString (toString u.lo)), V.str (Str.ofString (toString u.hi)), V.str (Str.ofString (toString u.far))])
  have hS : SqL K (upd H3 l (.lst [V.str (Str.ofString (toString u.lo)), V.str (Str.ofString (toString u.hi)), V.str (Str.ofString (toString u.far))])) l [V.str (Str.ofString (toString u.lo)), V.str (Str.ofString (toString u.hi)), V.str (Str.ofString (toString u.far))] := SqL.of upd_same
  refine ⟨_, rfl, fit c1, _, rfl, l, _, _, _, rfl, rfl, hS, atI_nat (j := 0) rfl, .inl ⟨_, rfl, fit n1, _, rfl, fit c2, ?_⟩⟩
  refine ⟨_, rfl, fit c3, _, rfl, l, _, _, _, rfl, rfl, hS, atI_nat (j := 1) rfl, .inl ⟨_, rfl, fit n2, _, rfl, fit c4, ?_⟩⟩
  refine ⟨_, rfl, fit c5, _, rfl, l, _, _, _, rfl, rfl, hS, atI_nat (j := 2) rfl, .inl ⟨_, rfl, fit n3, _, rfl, fit c6, ?_⟩⟩
  refine ⟨_, rfl, fit c7, _, rfl, a, _, dx, _, _, rfl, sl _ _ (s3 _ _ (s2 _ _ (s1 _ _ ha))), T.cl_Rule, T.n_Rule_shades, uf_shades u, .inr (.inr ⟨_, rfl, _, rfl, fit c8, ?_⟩)⟩
  exact ⟨_, rfl, fit c9, q _ (((s1.trans s2).trans s3).trans sl)⟩
end
end KB
namespace KB
open PySem PySem.Spec PyProof.Rows L2 KA
section
variable {P : Program} {w : World} {K : PySem.W.Frag} {mg : Str → Option Value} {base : Heap}
/-- [.. for x in a tuple] -/
theorem lc_genT {K : PySem.W.Frag} {a : Addr} {xs : List V} {H : Hp} {D : Addr} (hD : H D = none) (hS : H a = some (.tup xs)) (hl : xs.length ≤ 10000) (G : Nat → V → Hp → Prop) (hG : ∀ j v H1 H2, NL H1 H2 → G j v H1 → G j v H2)
    {g : TG} {tt : TT} {te : TE} {vs : List Nat} {σ : L2.St} {Qd : Hp → Prop}
    (turn : ∀ (i : Nat) (x : V) (H2 : Hp) (R : V → Hp → Prop) (C : Hp → Prop), xs[i]? = some x → Same H H2 → (∀ v H3, Same H2 H3 → G i v H3 → R v H3) → g x (wipe σ vs) H2 fun σ2 H2 => wipe σ2 vs = wipe σ vs ∧ tt σ2 H2 fun b H3 => if b = true then te σ2 H3 R else C H3)
    (fin : ∀ H' acc, Same H H' → H' D = some (.lst acc) → acc.length = xs.length → (∀ j v, acc[j]? = some v → G j v H') → Qd H') :
    ∃ W : Nat → Nat → Hp → Prop, (∃ m, W 0 m (upd H D (.lst []))) ∧ ∀ i m H, W i m H →
      ((Itt K a).stop i H ∧ Qd H) ∨ ((Itt K a).go i H ∧ ∃ Nx : Hp → Prop, (∀ H', Nx H' → ∃ m', m' < m ∧ W (i + 1) m' H') ∧ ∀ x H', (Itt K a).yld i H x H' → g x (wipe σ vs) H' fun σ2 H2 => wipe σ2 vs = wipe σ vs ∧ tt σ2 H2 fun b H3 =>
        if b = true then te σ2 H3 fun y H4 => ∃ acc, H4 D = some (.lst acc) ∧ acc.length < sizeLine ∧ Nx (upd H4 D (.lst (acc ++ [y]))) else Nx H3) := by
  refine lc_tup (K := K) (a := a) (xs := xs) (fun i H' => Same H H' ∧ ∃ acc, H' D = some (.lst acc) ∧ acc.length = i ∧ ∀ j v, acc[j]? = some v → G j v H') ⟨same_upd hD, [], upd_same, rfl, fun j v h => by simp at h⟩ (fun i H' _ h => .inl (.inl (h.1 _ _ hS))) ?_ ?_
  · rintro i x H2 hi ⟨s2, acc, e2, l2, g2⟩
    have hil : i < xs.length := (List.getElem?_eq_some_iff.mp hi).1
    refine turn i x H2 _ _ hi s2 fun v H3 s3 hv => ?_
    have e3 := s3 _ _ e2
    refine ⟨acc, e3, ?_, fun b o h => ?_, acc ++ [v], upd_same, ?_, fun j w hj => ?_⟩
    · rw [l2]
      exact Nat.lt_of_lt_of_le (show i < 10000 by omega) (by decide)
    · rw [upd_ne (ne_of_none h hD)]
      exact s3 _ _ (s2 _ _ h)
    · rw [List.length_append, l2]
      rfl
    · refine hG j w H3 _ (NL.at_ e3) ?_
      by_cases h : j < acc.length
      · rw [List.getElem?_append_left h] at hj
        exact hG j w H2 H3 (NL.of s3) (g2 j w hj)
      · rw [List.getElem?_append_right (by omega)] at hj
        have : j = i := by
          have := (List.getElem?_eq_some_iff.mp hj).1
          rw [List.length_singleton] at this
          omega
        subst this
        rw [l2, Nat.sub_self] at hj
        have : v = w := Option.some.inj hj
        subst this
        exact hv
  · rintro H' ⟨s, acc, e, l, g⟩
    exact fin H' acc s e l g
def strS (r : Rw) : Str := ⟨(strL r).toArray⟩
theorem strS_of {r : Rw} {z : Str} (h : TL.tl z = strL r) : z = strS r := TL.ext_tl (by rw [h]; rfl)
theorem strS_len {r : Rw} (h : GoodRw r) : (strS r).length ≤ 1000 := by
  obtain ⟨g1, g2, g3, g4, g5⟩ := h
  obtain ⟨a1, a2⟩ := whl_of g1
  obtain ⟨a3, a4⟩ := whl_of g2
  obtain ⟨a5, a6⟩ := whl_of g3
  have l1 := num_le (n := r.num) (by omega) a2
  have l2 := num_le (n := r.ac) (by omega) (by omega)
  have l3 := num_le (n := r.we) (by omega) (by omega)
  have l4 := (nm_low g4).1
  have l5 := (nm_low g5).1
  rw [TL.len_tl] at l1 l2 l3 l4 l5
  show ((strL r).toArray).size ≤ 1000
  have c1 : (TL.tl " ").length ≤ 10 := by decide +kernel
  have c2 : (TL.tl "/").length ≤ 10 := by decide +kernel
  have c4 : (TL.tl " drilled").length ≤ 20 := by decide +kernel
  rw [List.size_toArray]
  unfold strL nL
  have c6 : (if r.dr = true then TL.tl " drilled" else []).length ≤ 30 := by
    split
    · omega
    · exact Nat.zero_le _
  simp only [List.length_append]
  omega
def beadS : Option Rw → Str
  | none => "-"
  | some r => strS r
def stringText (rs : List (Option Rw)) : Str := Txt.join " | " (rs.map beadS)
theorem beadS_len {o : Option Rw} (h : ∀ r, o = some r → GoodRw r) : (beadS o).length ≤ 1000 := by
  cases o with
  | none => exact Nat.le_trans (show ("-" : Str).length ≤ 10 by decide +kernel) (by decide)
  | some r => exact strS_len (h r rfl)
theorem sum_le {m : Nat} : ∀ {xs : List Str}, (∀ x ∈ xs, x.length ≤ m) → (xs.map (·.length)).sum ≤ xs.length * m
  | [], _ => by simp
  | x :: xs, h => by
    have := sum_le (xs := xs) fun y hy => h y (List.mem_cons_of_mem _ hy)
    have := h x (List.mem_cons_self ..)
    rw [List.map_cons, List.sum_cons, List.length_cons, Nat.add_mul, Nat.one_mul]
    omega
def spSStr (CB CR C : Addr) : Sp := fun vs H Q _ => ∃ (s : Addr) (rs : List (Option Rw)) (u : Rl), vs = [.ref s] ∧ SV CB CR C H s rs u ∧ rs.length ≤ 200 ∧ (∀ r, some r ∈ rs → GoodRw r) ∧ ∀ H', Same H H' → Q (.str (stringText rs)) H'
theorem ok_String_str (T : Tx K mg) : FnOk P w K mg base CX0 4 T.A_String_str T.fd_String_str ["self"] (spSStr T.C_Bead T.C_Rule T.C_String) := by
  refine T.F_String_str.ok sc_String_str (fun vs H Q E h => ?_) (fun cdv A outer s H vs Q E hr h => ?_)
  · obtain ⟨s, rs, u, rfl, hs, hl, hG, q⟩ := h
    rfl
  obtain ⟨s, rs, u, rfl, hs, hl, hG, q⟩ := h
  refine ⟨_, (pss_one (ps_ret (pe_bm PySem.F.plainAttrs_str PySem.F.slot_str_join PySem.F.type_str_join mt_join pe_str (pa_cons (pe_lc (own := [("bead", 1)]) (g := gName 1) (tt := tYes) rfl sc_String_str.nd (pi_tup (pe_fld (pv 0) rfl)) (blkOk_by (N := ["self", "bead"]) (sc := defScope s_String_str) (by decide +kernel)) (fun _ _ _ _ _ => (pg_name (i := 1) sc_String_str.nd rfl (Or.inl rfl))) (fun _ _ _ _ _ => pts_nil) (fun _ _ _ _ _ => (pe_ifExp (pt_cmpR op_isN (pv 1) pe_non (nomark _)) pe_str (pe_callTy (call_strO (E := E0) (ok_Bead_str T) T.m_Bead_str.at_ T.m_Bead_str.fn T.b_Bead_str pass0 (hr.mono (by decide))) (by rfl) T.z_str (by decide +kernel) (pa_cons (pv 1) pa_nil))))) pa_nil)))), ?_⟩
  obtain ⟨t, m, xs, ⟨dx, h1⟩, h2, h3, dm, h4⟩ := hs.ex
  refine ⟨rfl, _, rfl, s, _, dx, _, _, rfl, h1, T.cl_String, T.n_String_held, sf_held t m, t, rfl, ⟨_, .inl (.inl h2)⟩, fun D hD => ?_⟩
  refine lc_genT (K := K) hD h2 (by rw [h3.len]; omega) (fun j v _ => ∀ o, rs[j]? = some o → v = .str (beadS o)) (fun j v H1 H2 s h => h) ?_ ?_
  · intro i x H2 R C hi s2 hRv
    obtain ⟨o, ho, hv⟩ := (h3.same (NL.of s2)).at_ i x hi
    refine ⟨rfl, yesT ?_⟩
    rcases hv with ⟨rfl, rfl⟩ | ⟨p, r, rfl, rfl, hp⟩
    · refine ⟨_, rfl, rfl, _, rfl, iteT ?_⟩
      exact hRv _ _ (Same.refl _) fun o' ho' => by
        rw [ho] at ho'
        cases ho'
        rfl
    · obtain ⟨dp, hp'⟩ := id hp
      refine ⟨_, rfl, rfl, _, rfl, iteF ?_⟩
      refine ⟨_, rfl, p, dp, _, rfl, hp', p, r, rfl, hp, hG r (List.mem_of_getElem? ho), fun H3 z hz _ s3 => ⟨⟨z, rfl⟩, ?_⟩⟩
      exact hRv _ _ s3 fun o' ho' => by
        rw [ho] at ho'
        cases ho'
        rw [strS_of hz]
        rfl
  · intro H' acc sH e l g
    have hacc : acc = (rs.map beadS).map V.str := by
      refine List.ext_getElem? fun i => ?_
      by_cases hi : i < acc.length
      · have hi2 : i < rs.length := by rw [← h3.len, ← l]; exact hi
        have := g i _ (List.getElem?_eq_getElem hi) _ (List.getElem?_eq_getElem hi2)
        rw [List.getElem?_eq_getElem hi, this, List.getElem?_map, List.getElem?_map, List.getElem?_eq_getElem hi2]
        rfl
      · have hi2 : ¬ i < rs.length := by rw [← h3.len, ← l]; exact hi
        rw [List.getElem?_eq_none (by omega), List.getElem?_eq_none (by rw [List.length_map, List.length_map]; omega)]
    rw [hacc] at e
    refine ⟨_, D, rs.map beadS, rfl, rfl, .inl (SqL.of e), ?_, q H' sH⟩
    have a := sum_le (m := 1000) (xs := rs.map beadS) fun z hz => by
      obtain ⟨o, ho, rfl⟩ := List.mem_map.mp hz
      exact beadS_len fun r hr => hG r (by rw [← hr]; exact ho)
    have e3 : (" | " : Str).length = 3 := by decide +kernel
    rw [e3]
    rw [List.length_map] at a ⊢
    omega
end
end KB
namespace KB
open PySem PySem.Spec PyProof.Rows L2 KA
section
variable {P : Program} {w : World} {K : PySem.W.Frag} {mg : Str → Option Value} {base : Heap}
theorem nopart {σ : L2.St} {H : Hp} {R : Option Int → Hp → Prop} (h : R none H) : tNoPart σ H R := h
def reprS (r : Rw) : Str := ⟨(reprL r).toArray⟩
theorem reprS_of {r : Rw} {z : Str} (h : TL.tl z = reprL r) : z = reprS r := TL.ext_tl (by rw [h]; rfl)
def beadR : Option Rw → Str
  | none => "None"
  | some r => reprS r
def rowV (K : PySem.W.Frag) (H : Hp) (v : V) (o : Option Rw) : Prop := (v = .non ∧ o = none) ∨ ∃ t r, v = .ref t ∧ o = some r ∧ SqT K H t (rowVals r) ∧ GoodRw r
def spShown (K : PySem.W.Frag) : Sp := fun vs H Q _ => ∃ (v : V) (o : Option Rw), vs = [v] ∧ rowV K H v o ∧ ∀ (H' : Hp) (t : Addr), Same H H' → H' t = some (.tup [.str (beadS o), .str (beadR o)]) → Q (.ref t) H'
theorem ok_shown (T : Tx K mg) : FnOk P w K mg base CX0 1 T.A_shown T.fd_shown ["_law_row"] (spShown K) := by
  refine T.F_shown.ok sc_shown (fun vs H Q E h => ?_) (fun cdv A outer s H vs Q E hr h => ?_)
  · obtain ⟨v, o, rfl, hv, q⟩ := h
    rfl
  obtain ⟨v, o, rfl, hv, q⟩ := h
  refine ⟨_, (pss_cons (ps_if (pt_cmpR op_isN (pv 0) pe_non (nomark _)) (pss_one (ps_ret (pe_tup (pa_cons pe_str (pa_cons pe_str pa_nil))))) pss_nil)
      (pss_cons (ps_asg (pe_slice sl_tupA (pv 0) po_none (po_some pe_int)) (pg_tup (by rfl) (pgs_cons (pg_name (i := 1) sc_shown.nd rfl (Or.inl rfl)) (pgs_cons (pg_name (i := 2) sc_shown.nd rfl (Or.inl rfl)) (pgs_cons (pg_name (i := 3) sc_shown.nd rfl (Or.inl rfl)) pgs_nil)))))
      (pss_cons (ps_set (i := 4) sc_shown.nd rfl (Or.inl rfl) (pe_joined (PJ.cons (pe_fmtB (pv 1)) (PJ.cons pe_str (PJ.cons (pe_fmtB (pv 2)) (PJ.cons pe_str (PJ.cons (pe_fmtB (pv 3)) (PJ.cons pe_str (PJ.cons (pe_fmtB (pe_ix ix_tup (pv 0) pe_int (fun _ _ => rfl))) (PJ.cons pe_str (PJ.cons (pe_fmtB (pe_ix ix_tup (pv 0) pe_int (fun _ _ => rfl))) PJ.nil)))))))))))
      (pss_cons (ps_set (i := 4) sc_shown.nd rfl (Or.inl rfl) (pe_op op_add_str (pv 4) (pe_op op_mul01 pe_str (pe_callTy call_int1 (by rfl) T.z_int (by decide +kernel) (pa_cons (pe_ix ix_tup (pv 0) pe_int (fun _ _ => rfl)) pa_nil)))))
      (pss_cons (ps_set (i := 5) sc_shown.nd rfl (Or.inl rfl) (pe_op op_mul01 (pe_joined (PJ.cons pe_str (PJ.cons (pe_fmtB (pe_ix ix_tup (pv 0) pe_int (fun _ _ => rfl))) (PJ.cons pe_str PJ.nil)))) (pe_callTy call_int1 (by rfl) T.z_int (by decide +kernel) (pa_cons (pe_cmpR op_ne (pe_ix ix_tup (pv 0) pe_int (fun _ _ => rfl)) pe_str (nomark _)) pa_nil))))
      (pss_cons (ps_set (i := 5) sc_shown.nd rfl (Or.inl rfl) (pe_op op_add_str (pv 5) (pe_op op_mul01 pe_str (pe_callTy call_int1 (by rfl) T.z_int (by decide +kernel) (pa_cons (pe_ix ix_tup (pv 0) pe_int (fun _ _ => rfl)) pa_nil)))))
      (pss_one (ps_ret (pe_tup (pa_cons (pv 4) (pa_cons (pe_joined (PJ.cons pe_str (PJ.cons (pe_fmtB (pv 1)) (PJ.cons pe_str (PJ.cons (pe_fmtB (pv 2)) (PJ.cons pe_str (PJ.cons (pe_fmtB (pv 3)) (PJ.cons pe_str (PJ.cons (pe_fmtB (pe_ix ix_tup (pv 0) pe_int (fun _ _ => rfl))) (PJ.cons pe_str (PJ.cons (pe_fmtB (pv 5)) (PJ.cons pe_str PJ.nil)))))))))))) pa_nil))))))))))), ?_⟩
  rcases hv with ⟨rfl, rfl⟩ | ⟨t, r, rfl, rfl, ht, g1, g2, g3, g4, g5⟩
  · refine ⟨_, rfl, rfl, _, rfl, iteT ⟨(by show 2 ≤ sizeLine; decide), fun p hp => q _ p (same_upd hp) upd_same⟩⟩
  · obtain ⟨a1, a2⟩ := whl_of g1
    obtain ⟨a3, a4⟩ := whl_of g2
    obtain ⟨a5, a6⟩ := whl_of g3
    have l1 := num_le (n := r.num) (by omega) a2
    have l2 := num_le (n := r.ac) (by omega) (by omega)
    have l3 := num_le (n := r.we) (by omega) (by omega)
    have l4 := (nm_low g4).1
    have l5 := (nm_low g5).1
    have b1 : (" " : Str).length ≤ 1 := by decide +kernel
    have b2 : ("/" : Str).length ≤ 1 := by decide +kernel
    have b3 : (" drilled" : Str).length ≤ 8 := by decide +kernel
    have c1 := app_le c_emp l1
    have c2 := app_le c1 b1
    have c3 := app_le c2 l2
    have c4 := app_le c3 b2
    have c5 := app_le c4 l3
    have c6 := app_le c5 b1
    have c7 := app_le c6 l4
    have c8 := app_le c7 b1
    have c9 := app_le c8 l5
    refine ⟨_, rfl, rfl, _, rfl, iteF ?_⟩
    refine ⟨_, rfl, nopart ⟨3, rfl, sla_T ht fun H1 p1 s1 e1 => ?_⟩⟩
    refine ⟨p1, _, rfl, e1, rfl, _, [_, _], rfl, _, [_], rfl, _, [], rfl, rfl, ?_⟩
    have ht1 := SqT.ext ht s1
    refine ⟨_, rfl, .inr (.inl ⟨_, rfl, num_log a1 a2, _, rfl, fit c1, _, rfl, fit c2, ?_⟩)⟩
    refine ⟨_, rfl, .inr (.inl ⟨_, rfl, num_log a3 (by omega), _, rfl, fit c3, _, rfl, fit c4, ?_⟩)⟩
    refine ⟨_, rfl, .inr (.inl ⟨_, rfl, num_log a5 (by omega), _, rfl, fit c5, _, rfl, fit c6, ?_⟩)⟩
    refine ⟨_, rfl, t, _, _, _, rfl, rfl, ht1, atI_nat (j := 3) rfl, .inl ⟨_, rfl, fit l4, _, rfl, fit c7, _, rfl, fit c8, ?_⟩⟩
    refine ⟨_, rfl, t, _, _, _, rfl, rfl, ht1, atI_nat (j := 4) rfl, .inl ⟨_, rfl, fit l5, _, rfl, fit c9, ?_⟩⟩
    generalize hS0 : Str.empty ++ Str.ofString (toString r.num) ++ " " ++ Str.ofString (toString r.ac) ++ "/" ++ Str.ofString (toString r.we) ++ " " ++ r.sh ++ " " ++ r.fo = S0 at c9
    refine ⟨_, rfl, _, rfl, t, _, _, _, rfl, rfl, ht1, atI_nat (j := 5) rfl, .inr ⟨_, rfl, ?_⟩⟩
    have d1 : (if r.dr = true then (" drilled" : Str) else Str.empty).length ≤ 8 := by
      split
      · exact b3
      · exact Nat.zero_le _
    have c10 := app_le c9 d1
    refine ⟨_, r.dr, rfl, rfl, fit b3, _, _, rfl, rfl, Nat.le_trans (Nat.add_le_add c9 d1) (by decide), ?_⟩
    have hD : TL.tl (if r.dr = true then (" drilled" : Str) else Str.empty) = if r.dr then TL.tl " drilled" else [] := by
      cases r.dr <;> rfl
    have hT : S0 ++ (if r.dr = true then (" drilled" : Str) else Str.empty) = strS r := strS_of (by
      rw [← hS0]
      unfold strL nL
      simp only [TL.tl_append, List.append_assoc, hD]
      rfl)
    have f1 : (", form='" : Str).length ≤ 8 := by decide +kernel
    have f2 : ("'" : Str).length ≤ 1 := by decide +kernel
    have k1 := app_le c_emp f1
    have k2 := app_le k1 l5
    have k3 := app_le k2 f2
    refine ⟨_, rfl, fit k1, _, rfl, t, _, _, _, rfl, rfl, ht1, atI_nat (j := 4) rfl, .inl ⟨_, rfl, fit l5, _, rfl, fit k2, _, rfl, fit k3, ?_⟩⟩
    generalize hF0 : Str.empty ++ ", form='" ++ r.fo ++ "'" = F0 at k3
    refine ⟨_, rfl, t, _, _, _, rfl, rfl, ht1, atI_nat (j := 4) rfl, rfl, .inr ⟨_, rfl, _, (!decide (V.str r.fo = V.str "round")), rfl, rfl, fit k3, ?_⟩⟩
    have b4 : (", drilled=True" : Str).length ≤ 20 := by decide +kernel
    have d2 : (if (!decide (V.str r.fo = V.str "round")) = true then F0 else Str.empty).length ≤ 17 := by
      split
      · omega
      · exact Nat.zero_le _
    have d3 : (if r.dr = true then (", drilled=True" : Str) else Str.empty).length ≤ 20 := by
      split
      · exact b4
      · exact Nat.zero_le _
    refine ⟨_, rfl, _, rfl, t, _, _, _, rfl, rfl, ht1, atI_nat (j := 5) rfl, .inr ⟨_, rfl, _, r.dr, rfl, rfl, fit b4, _, _, rfl, rfl, Nat.le_trans (Nat.add_le_add d2 d3) (by decide), ?_⟩⟩
    have d4 := app_le d2 d3
    generalize hM : (if (!decide (V.str r.fo = V.str "round")) = true then F0 else Str.empty) ++ (if r.dr = true then (", drilled=True" : Str) else Str.empty) = M at d4
    have e1' := app_le c_emp (show ("Bead(" : Str).length ≤ 5 by decide +kernel)
    have bc : (", " : Str).length ≤ 2 := by decide +kernel
    have bq : (", '" : Str).length ≤ 3 := by decide +kernel
    have bp : (")" : Str).length ≤ 1 := by decide +kernel
    have e2 := app_le e1' l1
    have e3 := app_le e2 bc
    have e4 := app_le e3 l2
    have e5 := app_le e4 bc
    have e6 := app_le e5 l3
    have e7 := app_le e6 bq
    have e8 := app_le e7 l4
    have e9 := app_le e8 f2
    have e10 := app_le e9 d4
    have e11 := app_le e10 bp
    refine ⟨_, rfl, _, rfl, fit e1', _, rfl, .inr (.inl ⟨_, rfl, num_log a1 a2, _, rfl, fit e2, _, rfl, fit e3, ?_⟩)⟩
    refine ⟨_, rfl, .inr (.inl ⟨_, rfl, num_log a3 (by omega), _, rfl, fit e4, _, rfl, fit e5, ?_⟩)⟩
    refine ⟨_, rfl, .inr (.inl ⟨_, rfl, num_log a5 (by omega), _, rfl, fit e6, _, rfl, fit e7, ?_⟩)⟩
    refine ⟨_, rfl, t, _, _, _, rfl, rfl, ht1, atI_nat (j := 3) rfl, .inl ⟨_, rfl, fit l4, _, rfl, fit e8, _, rfl, fit e9, ?_⟩⟩
    refine ⟨_, rfl, .inl ⟨_, rfl, fit d4, _, rfl, fit e10, _, rfl, fit e11, ?_⟩⟩
    refine ⟨(by show 2 ≤ sizeLine; decide), fun p hp => q _ p (s1.trans (same_upd hp)) ?_⟩
    have hMl : TL.tl M = (if r.fo = "round" then [] else TL.tl ", form=" ++ ([39] ++ (TL.tl r.fo ++ [39]))) ++ (if r.dr then TL.tl ", drilled=True" else []) := by
      rw [← hM, TL.tl_append]
      congr 1
      · rw [dec_str6, ← hF0]
        by_cases e : r.fo = "round"
        · rw [if_pos e, decide_eq_true e]
          rfl
        · rw [if_neg e, decide_eq_false e]
          simp only [Bool.not_false, if_true, TL.tl_append, List.append_assoc]
          rfl
      · cases r.dr <;> rfl
    have hR := reprS_of (r := r) (z := Str.empty ++ "Bead(" ++ Str.ofString (toString r.num) ++ ", " ++ Str.ofString (toString r.ac) ++ ", " ++ Str.ofString (toString r.we) ++ ", '" ++ r.sh ++ "'" ++ M ++ ")") (by
      unfold reprL nL
      simp only [TL.tl_append, List.append_assoc, hMl]
      rfl)
    show _ = some (HO.tup [V.str (strS r), V.str (reprS r)])
    rw [← hT, ← hR]
    exact upd_same
end
end KB
namespace KB
open PySem PySem.Spec PyProof.Rows L2 KA
section
variable {P : Program} {w : World} {K : PySem.W.Frag} {mg : Str → Option Value} {base : Heap}
/-- all but the numbers is alike -/
def likeRw (r p : Rw) : Bool := decide (r.ac = p.ac) && (decide (r.we = p.we) && (decide (r.sh = p.sh) && (decide (r.fo = p.fo) && decide (r.dr = p.dr))))
theorem like_refl (r : Rw) : likeRw r r = true := by
  unfold likeRw
  simp
theorem dec_int (a b : Int) : decide (V.int a = V.int b) = decide (a = b) := by
  rw [decide_eq_decide]
  exact ⟨fun e => by injection e, fun e => by rw [e]⟩
def RB (C : Addr) : Addr → V → Bool → Hp → Prop := fun a y b H => ∃ r, BeadAt C H a r ∧ ((∃ p r', y = .ref p ∧ BeadAt C H p r' ∧ b = likeRw r r') ∨ (y = .non ∧ b = false))
theorem ok_Bead_eq (T : Tx K mg) : FnOk P w K mg base CX0 1 T.A_Bead_eq T.fd_Bead_eq ["self", "other"] (spEqO (RB T.C_Bead)) := by
  refine T.F_Bead_eq.ok sc_Bead_eq (fun vs H Q E h => ?_) (fun cdv A outer s H vs Q E hr h => ?_)
  · obtain ⟨p, y, b, rfl, ⟨r, ⟨dx, hp⟩, hy⟩, q⟩ := h
    rfl
  obtain ⟨p, y, b, rfl, ⟨r, ⟨dx, hp⟩, hy⟩, q⟩ := h
  refine ⟨_, (pss_one (ps_ret (pe_and (pe_callB call_isi (by rfl) T.z_isinstance (by decide +kernel) (pa_cons (pv 1) (pa_cons (pe_glob (v := .ref T.C_Bead) (by rfl) T.g_Bead rfl) pa_nil))) (pe_and (pe_cmpR op_eq (pe_fld (pv 0) rfl) (pe_fld (pv 1) rfl) (nomark _)) (pe_and (pe_cmpR op_eq (pe_fld (pv 0) rfl) (pe_fld (pv 1) rfl) (nomark _)) (pe_and (pe_cmpR op_eq (pe_fld (pv 0) rfl) (pe_fld (pv 1) rfl) (nomark _)) (pe_and (pe_cmpR op_eq (pe_fld (pv 0) rfl) (pe_fld (pv 1) rfl) (nomark _)) (pe_one (pe_cmpR op_eq (pe_fld (pv 0) rfl) (pe_fld (pv 1) rfl) (nomark _)))))))))), ?_⟩
  have q := q H Ext.rfl'
  rcases hy with ⟨p', r', rfl, ⟨dx', hp'⟩, rfl⟩ | ⟨rfl, rfl⟩
  · refine ⟨_, rfl, .ref p', .ref T.C_Bead, .ref T.C_Bead, .ref T.C_Bead, true, rfl, .own _, T.ic_Bead.ty T.cl_Bead hp', T.i_Bead, _, rfl, iteT ?_⟩
    have e : likeRw r r' = (decide (r.ac = r'.ac) && (decide (r.we = r'.we) && (decide (r.sh = r'.sh) && (decide (r.fo = r'.fo) && decide (r.dr = r'.dr))))) := rfl
    refine ⟨_, rfl, p, _, dx, _, _, rfl, hp, T.cl_Bead, T.n_Bead_across, bf_across r, _, rfl, p', _, dx', _, _, rfl, hp', T.cl_Bead, T.n_Bead_across, bf_across r', rfl, _, rfl, ?_⟩
    rw [dec_int]
    refine ite2 (fun h1 => ?_) (fun h1 => ?_)
    · rw [h1, Bool.true_and] at e
      refine ⟨_, rfl, p, _, dx, _, _, rfl, hp, T.cl_Bead, T.n_Bead_weight, bf_weight r, _, rfl, p', _, dx', _, _, rfl, hp', T.cl_Bead, T.n_Bead_weight, bf_weight r', rfl, _, rfl, ?_⟩
      rw [dec_int]
      refine ite2 (fun h2 => ?_) (fun h2 => ?_)
      · rw [h2, Bool.true_and] at e
        refine ⟨_, rfl, p, _, dx, _, _, rfl, hp, T.cl_Bead, T.n_Bead_shade, bf_shade r, _, rfl, p', _, dx', _, _, rfl, hp', T.cl_Bead, T.n_Bead_shade, bf_shade r', rfl, _, rfl, ?_⟩
        rw [dec_str]
        refine ite2 (fun h3 => ?_) (fun h3 => ?_)
        · rw [h3, Bool.true_and] at e
          refine ⟨_, rfl, p, _, dx, _, _, rfl, hp, T.cl_Bead, T.n_Bead_form, bf_form r, _, rfl, p', _, dx', _, _, rfl, hp', T.cl_Bead, T.n_Bead_form, bf_form r', rfl, _, rfl, ?_⟩
          rw [dec_str]
          refine ite2 (fun h4 => ?_) (fun h4 => ?_)
          · rw [h4, Bool.true_and] at e
            refine ⟨_, rfl, p, _, dx, _, _, rfl, hp, T.cl_Bead, T.n_Bead_drilled, bf_drilled r, _, rfl, p', _, dx', _, _, rfl, hp', T.cl_Bead, T.n_Bead_drilled, bf_drilled r', rfl, ?_⟩
            rw [dec_bl, ← e]
            exact q
          · rw [Bool.not_eq_true] at h4
            rw [h4] at e
            rw [e] at q
            exact q
        · rw [Bool.not_eq_true] at h3
          rw [h3] at e
          rw [e] at q
          exact q
      · rw [Bool.not_eq_true] at h2
        rw [h2] at e
        rw [e] at q
        exact q
    · rw [Bool.not_eq_true] at h1
      rw [h1] at e
      rw [e] at q
      exact q
  · exact ⟨_, rfl, .non, .ref T.C_Bead, .type "NoneType", .ref T.C_Bead, false, rfl, .own _, .base .non, T.no_Bead, _, rfl, iteF q⟩
theorem rl_eq (u v : Rl) : (u = v) ↔ (u.lo = v.lo ∧ u.hi = v.hi ∧ u.far = v.far ∧ u.shd = v.shd) := by
  obtain ⟨a, b, c, d⟩ := u
  obtain ⟨a', b', c', d'⟩ := v
  simp
instance : DecidableEq Rl := fun u v => decidable_of_iff _ (rl_eq u v).symm
def spREq (C : Addr) : Sp := fun vs H Q _ => ∃ (a b : Addr) (u u' : Rl), vs = [.ref a, .ref b] ∧ RuleAt C H a u ∧ RuleAt C H b u' ∧ Q (.bl (decide (u = u'))) H
theorem ok_Rule_eq (T : Tx K mg) : FnOk P w K mg base CX0 1 T.A_Rule_eq T.fd_Rule_eq ["self", "other"] (spREq T.C_Rule) := by
  refine T.F_Rule_eq.ok sc_Rule_eq (fun vs H Q E h => ?_) (fun cdv A outer s H vs Q E hr h => ?_)
  · obtain ⟨a, b, u, u', rfl, ⟨dx, ha⟩, ⟨dy, hb⟩, q⟩ := h
    rfl
  obtain ⟨a, b, u, u', rfl, ⟨dx, ha⟩, ⟨dy, hb⟩, q⟩ := h
  refine ⟨_, (pss_one (ps_ret (pe_and (pe_callB call_isi (by rfl) T.z_isinstance (by decide +kernel) (pa_cons (pv 1) (pa_cons (pe_glob (v := .ref T.C_Rule) (by rfl) T.g_Rule rfl) pa_nil))) (pe_and (pe_cmpR op_eq (pe_fld (pv 0) rfl) (pe_fld (pv 1) rfl) (nomark _)) (pe_and (pe_cmpR op_eq (pe_fld (pv 0) rfl) (pe_fld (pv 1) rfl) (nomark _)) (pe_and (pe_cmpR op_eq (pe_fld (pv 0) rfl) (pe_fld (pv 1) rfl) (nomark _)) (pe_one (pe_cmpR op_eq (pe_fld (pv 0) rfl) (pe_fld (pv 1) rfl) (nomark _))))))))), ?_⟩
  refine ⟨_, rfl, .ref b, .ref T.C_Rule, .ref T.C_Rule, .ref T.C_Rule, true, rfl, .own _, T.ic_Rule.ty T.cl_Rule hb, T.i_Rule, _, rfl, ?_⟩
  refine iteT ⟨_, rfl, a, _, dx, _, _, rfl, ha, T.cl_Rule, T.n_Rule_least, uf_least u, _, rfl, b, _, dy, _, _, rfl, hb, T.cl_Rule, T.n_Rule_least, uf_least u', rfl, _, rfl, ?_⟩
  rw [dec_int]
  by_cases h1 : u.lo = u'.lo
  · rw [decide_eq_true h1]
    refine iteT ⟨_, rfl, a, _, dx, _, _, rfl, ha, T.cl_Rule, T.n_Rule_most, uf_most u, _, rfl, b, _, dy, _, _, rfl, hb, T.cl_Rule, T.n_Rule_most, uf_most u', rfl, _, rfl, ?_⟩
    rw [dec_int]
    by_cases h2 : u.hi = u'.hi
    · rw [decide_eq_true h2]
      refine iteT ⟨_, rfl, a, _, dx, _, _, rfl, ha, T.cl_Rule, T.n_Rule_match, uf_match u, _, rfl, b, _, dy, _, _, rfl, hb, T.cl_Rule, T.n_Rule_match, uf_match u', rfl, _, rfl, ?_⟩
      rw [dec_int]
      by_cases h3 : u.far = u'.far
      · rw [decide_eq_true h3]
        refine iteT ⟨_, rfl, a, _, dx, _, _, rfl, ha, T.cl_Rule, T.n_Rule_shades, uf_shades u, _, rfl, b, _, dy, _, _, rfl, hb, T.cl_Rule, T.n_Rule_shades, uf_shades u', rfl, ?_⟩
        rw [dec_bl]
        have : decide (u = u') = decide (u.shd = u'.shd) := by
          rw [decide_eq_decide, rl_eq]
          exact ⟨fun h => h.2.2.2, fun h => ⟨h1, h2, h3, h⟩⟩
        rw [this] at q
        exact q
      · rw [decide_eq_false h3]
        rw [decide_eq_false (show ¬ u = u' from fun e => h3 (by rw [e]))] at q
        exact iteF q
    · rw [decide_eq_false h2]
      rw [decide_eq_false (show ¬ u = u' from fun e => h2 (by rw [e]))] at q
      exact iteF q
  · rw [decide_eq_false h1]
    rw [decide_eq_false (show ¬ u = u' from fun e => h1 (by rw [e]))] at q
    exact iteF q
end
end KB
namespace KB
open PySem PySem.Spec PyProof.Rows L2 KA
section
variable {P : Program} {w : World} {K : PySem.W.Frag} {mg : Str → Option Value} {base : Heap}
def DHeld (K : PySem.W.Frag) (C : Addr) : BEq2 := fun x y b H => BOwn K C (RB C) x y b H ∨ BFlat x y b H
theorem rb_mon {C : Addr} : ∀ a y b H H', Ext H H' → RB C a y b H → RB C a y b H' := fun a y b H H' e h => by
  obtain ⟨r, ⟨dx, ha⟩, hy⟩ := h
  refine ⟨r, ⟨dx, e _ _ ha⟩, ?_⟩
  rcases hy with ⟨p, r', h1, ⟨dy, h2⟩, h3⟩ | h
  · exact .inl ⟨p, r', h1, ⟨dy, e _ _ h2⟩, h3⟩
  · exact .inr h
theorem monB_held {K : PySem.W.Frag} {C : Addr} : MonB (DHeld K C) := (monB_own rb_mon).or monB_flat
theorem eqB_held {X : Cx} (T : Tx X.K X.mg) : EqB X 1 (DHeld X.K T.C_Bead) :=
  (eqB_own (E := E0) (ok_Bead_eq (P := X.prog) (w := X.w) (base := X.base) T) T.m_Bead_eq.at_ T.m_Bead_eq.fn T.b_Bead_eq pass0 T.sn_Bead).or (eqB_flat.mono (Nat.zero_le _))
/-- two places of rows, side by side -/
def sameO (o o' : Option Rw) : Bool := match o, o' with
  | none, none => true
  | some r, some r' => likeRw r r'
  | _, _ => false
theorem sameO_refl (o : Option Rw) : sameO o o = true := by
  cases o with
  | none => rfl
  | some r => exact like_refl r
theorem held_at {K : PySem.W.Frag} {mg : Str → Option Value} (T : Tx K mg) {H : Hp} {x y : V} {o o' : Option Rw} (hx : BV T.C_Bead H x o) (hy : BV T.C_Bead H y o') : DHeld K T.C_Bead x y (sameO o o') H := by
  rcases hx with ⟨rfl, rfl⟩ | ⟨p, r, rfl, rfl, hp⟩
  · rcases hy with ⟨rfl, rfl⟩ | ⟨p', r', rfl, rfl, hp'⟩
    · exact .inr ⟨rfl, rfl, rfl⟩
    · obtain ⟨dx, h⟩ := id hp'
      exact .inl (.inr ⟨p', dx, _, rfl, rfl, h, r', hp', .inr ⟨rfl, rfl⟩⟩)
  · obtain ⟨dx, h⟩ := id hp
    rcases hy with ⟨rfl, rfl⟩ | ⟨p', r', rfl, rfl, hp'⟩
    · exact .inl (.inl ⟨p, dx, _, _, rfl, h, .base .non, T.nf_Bead, ⟨r, hp, .inr ⟨rfl, rfl⟩⟩, fun e => by cases e⟩)
    · obtain ⟨dx', h'⟩ := id hp'
      have same : V.ref p' = V.ref p → likeRw r r' = true := fun e => by
        injection e with e
        subst e
        have e2 := Option.some.inj (h.symm.trans h')
        injection e2 with _ _ e3
        have a1 := bf_across r
        have a2 := bf_weight r
        have a3 := bf_shade r
        have a4 := bf_form r
        have a5 := bf_drilled r
        rw [e3] at a1 a2 a3 a4 a5
        rw [bf_across] at a1
        rw [bf_weight] at a2
        rw [bf_shade] at a3
        rw [bf_form] at a4
        rw [bf_drilled] at a5
        injection a1 with a1
        injection a1 with a1
        injection a2 with a2
        injection a2 with a2
        injection a3 with a3
        injection a3 with a3
        injection a4 with a4
        injection a4 with a4
        injection a5 with a5
        injection a5 with a5
        unfold likeRw
        rw [a1, a2, a3, a4, a5]
        simp
      exact .inl (.inl ⟨p, dx, _, _, rfl, h, T.ic_Bead.ty T.cl_Bead h', by simp [PySem.W.notFirst], ⟨r, hp, .inl ⟨p', r', rfl, hp', rfl⟩⟩, same⟩)
theorem Bds.rev {C : Addr} {H : Hp} {vs : List V} {rs : List (Option Rw)} (h : Bds C H vs rs) : Bds C H vs.reverse rs.reverse := by
  refine ⟨by rw [List.length_reverse, List.length_reverse]; exact h.len, ?_⟩
  intro i v hv
  have hi : i < vs.length := by
    have := (List.getElem?_eq_some_iff.mp hv).1
    rwa [List.length_reverse] at this
  rw [List.getElem?_reverse hi] at hv
  obtain ⟨o, h1, h2⟩ := h.at_ _ v hv
  refine ⟨o, ?_, h2⟩
  rw [List.getElem?_reverse (by rw [← h.len]; exact hi), ← h.len]
  exact h1
def likeL (rs ss : List (Option Rw)) : Bool := decide (rs.length = ss.length) && allF rs.length fun i => sameO (rs.getD i none) (ss.getD i none)
theorem held_tup {K : PySem.W.Frag} {mg : Str → Option Value} (T : Tx K mg) {H : Hp} {t t' : Addr} {xs ys : List V} {rs ss : List (Option Rw)} (ht : H t = some (.tup xs)) (ht' : H t' = some (.tup ys)) (hx : Bds T.C_Bead H xs rs) (hy : Bds T.C_Bead H ys ss) : BTup K (DHeld K T.C_Bead) (.ref t) (.ref t') (likeL rs ss) H := by
  refine ⟨t, t', xs, ys, fun i => sameO (rs.getD i none) (ss.getD i none), rfl, rfl, .inl (.inl ht), .inl (.inl ht'), fun i x y h1 h2 => ?_, ?_⟩
  · obtain ⟨o, ho, bx⟩ := hx.at_ i x h1
    obtain ⟨o', ho', b_y⟩ := hy.at_ i y h2
    have e1 : rs.getD i none = o := by rw [List.getD_eq_getElem?_getD, ho]; rfl
    have e2 : ss.getD i none = o' := by rw [List.getD_eq_getElem?_getD, ho']; rfl
    show DHeld K T.C_Bead x y (sameO (rs.getD i none) (ss.getD i none)) H
    rw [e1, e2]
    exact held_at T bx b_y
  · unfold likeL
    rw [hx.len, hy.len]
/-- what == answers for two strings -/
def likeSt (rs ss : List (Option Rw)) (u v : Rl) : Bool := decide (u = v) && (likeL rs ss || likeL rs ss.reverse)
def four4 : List String := ["int", "str", "NoneType", "list"]
theorem no4 {K : PySem.W.Frag} {mg : Str → Option Value} (T : Tx K mg) {t : String} (h : t ∈ four4) : PySem.W.kitOne K (.type t) (.ref T.C_String) = some false := by
  unfold four4 at h
  simp only [List.mem_cons, List.not_mem_nil, or_false] at h
  rcases h with rfl | rfl | rfl | rfl
  · exact T.noS_int
  · exact T.noS_str
  · exact T.noS_NoneType
  · exact T.noS_list
theorem nf4 {K : PySem.W.Frag} {mg : Str → Option Value} (T : Tx K mg) {t : String} (h : t ∈ four4) : PySem.W.notFirst K T.C_String (.type t) = true := by
  unfold four4 at h
  simp only [List.mem_cons, List.not_mem_nil, or_false] at h
  rcases h with rfl | rfl | rfl | rfl
  · exact T.nfS_int
  · exact T.nfS_str
  · exact T.nfS_NoneType
  · exact T.nfS_list
def RSt (K : PySem.W.Frag) (CB CR C : Addr) : Addr → V → Bool → Hp → Prop := fun a y b H => ∃ rs u, SV CB CR C H a rs u ∧ ((∃ s2 ss v, y = .ref s2 ∧ SV CB CR C H s2 ss v ∧ b = likeSt rs ss u v) ∨ (∃ t, t ∈ four4 ∧ TyX K H y (.type t) ∧ b = false))
theorem ok_String_eq (T : Tx K mg) : FnOk P w K mg base CX0 4 T.A_String_eq T.fd_String_eq ["self", "other"] (spEqO (RSt K T.C_Bead T.C_Rule T.C_String)) := by
  refine T.F_String_eq.ok sc_String_eq (fun vs H Q E h => ?_) (fun cdv A outer s H vs Q E hr h => ?_)
  · obtain ⟨s1, y, b, rfl, ⟨rs, u, S1, hy⟩, q⟩ := h
    rfl
  obtain ⟨s1, y, b, rfl, ⟨rs, u, S1, hy⟩, q⟩ := h
  refine ⟨_, (pss_one (ps_ret (pe_and (pe_callB call_isi (by rfl) T.z_isinstance (by decide +kernel) (pa_cons (pv 1) (pa_cons (pe_glob (v := .ref T.C_String) (by rfl) T.g_String rfl) pa_nil))) (pe_and (pe_cmpR (op_own (E := E0) (ok_Rule_eq T) T.m_Rule_eq.at_ T.m_Rule_eq.fn T.b_Rule_eq pass0 (hr.mono (by decide))) (pe_fld (pv 0) rfl) (pe_fld (pv 1) rfl) (nomark _)) (pe_one (pe_or (pe_cmpR (op_eqB (rcB_tup false monB_held (eqB_held T)) (hr.mono (by decide))) (pe_fld (pv 0) rfl) (pe_fld (pv 1) rfl) (nomark _)) (pe_one (pe_cmpR (op_eqB (rcB_tup false monB_held (eqB_held T)) (hr.mono (by decide))) (pe_fld (pv 0) rfl) (pe_revT (pe_fld (pv 1) rfl)) (nomark _))))))))), ?_⟩
  rcases hy with ⟨s2, ss, v, rfl, S2, rfl⟩ | ⟨t, ht, ty, rfl⟩
  rotate_left
  · obtain ⟨t1, m1, xs, ⟨d1, h1⟩, _⟩ := S1.ex
    exact ⟨_, rfl, y, .ref T.C_String, .type t, .ref T.C_String, false, rfl, .own _, ty, no4 T ht, _, rfl, iteF (q H Ext.rfl')⟩
  obtain ⟨t1, m1, xs, ⟨d1, h1⟩, ht1, hx, dm1, hm1⟩ := S1.ex
  obtain ⟨t2, m2, ys, ⟨d2, h2⟩, ht2, hy, dm2, hm2⟩ := S2.ex
  refine ⟨_, rfl, .ref s2, .ref T.C_String, .ref T.C_String, .ref T.C_String, true, rfl, .own _, T.ic_String.ty T.cl_String h2, T.i_String, _, rfl, iteT ?_⟩
  refine ⟨_, rfl, s1, _, d1, _, _, rfl, h1, T.cl_String, T.n_String_rule, sf_rule t1 m1, _, rfl, s2, _, d2, _, _, rfl, h2, T.cl_String, T.n_String_rule, sf_rule t2 m2, m1, dm1, _, .ref T.C_Rule, rfl, hm1, T.ic_Rule.ty T.cl_Rule hm2, by simp [PySem.W.notFirst], m1, m2, u, v, rfl, ⟨dm1, hm1⟩, ⟨dm2, hm2⟩, ⟨_, rfl⟩, _, rfl, ?_⟩
  unfold likeSt at q
  by_cases huv : u = v
  · rw [decide_eq_true huv] at q ⊢
    rw [Bool.true_and] at q
    refine iteT ?_
    refine ⟨_, rfl, s1, _, d1, _, _, rfl, h1, T.cl_String, T.n_String_held, sf_held t1 m1, _, rfl, s2, _, d2, _, _, rfl, h2, T.cl_String, T.n_String_held, sf_held t2 m2, _, held_tup T ht1 ht2 hx hy, fun H1 e1 => ⟨_, rfl, ?_⟩⟩
    cases hb : likeL rs ss with
    | true =>
      rw [hb, Bool.true_or] at q
      exact iteT (q H1 e1)
    | false =>
      rw [hb, Bool.false_or] at q
      refine iteF ?_
      refine ⟨_, rfl, s1, _, d1, _, _, rfl, e1 _ _ h1, T.cl_String, T.n_String_held, sf_held t1 m1, _, rfl, s2, _, d2, _, _, rfl, e1 _ _ h2, T.cl_String, T.n_String_held, sf_held t2 m2, t2, ys, rfl, .inl (.inl (e1 _ _ ht2)), fun t3 ht3 => ?_⟩
      have z := same_upd ht3 (o := .tup ys.reverse)
      have z2 : Same H _ := Same.trans e1 z
      refine ⟨_, held_tup T (z2 _ _ ht1) upd_same (hx.same (NL.of z2)) (hy.same (NL.of z2)).rev, fun H3 e3 => ?_⟩
      rw [Bool.false_xor]
      exact q H3 (z2.trans e3)
  · rw [decide_eq_false huv] at q ⊢
    rw [Bool.false_and] at q
    exact iteF (q H Ext.rfl')
end
end KB
namespace KB
open PySem PySem.Spec PyProof.Rows L2 KA
section
variable {P : Program} {w : World} {K : PySem.W.Frag} {mg : Str → Option Value} {base : Heap}
def MadeAt (CB CR C : Addr) (H : Hp) (t : Addr) (rs : List (Option Rw)) (u : Rl) : Prop := match bar rs u with
  | none => ∃ s, H t = some (.tup [.str "made", .ref s]) ∧ SV CB CR C H s rs u
  | some (j, z) => H t = some (.tup [.str "refused", .bl true, .int j, z])
def spMade (K : PySem.W.Frag) (CB CR C : Addr) : Sp := fun vs H Q _ => ∃ (b m : Addr) (xs : List V) (rs : List (Option Rw)) (u : Rl), vs = [.ref b, .ref m] ∧ SqL K H b xs ∧ Bds CB H xs rs ∧ RuleAt CR H m u ∧ rs.length ≤ 1000 ∧
  ∀ (H' : Hp) (t : Addr), Same H H' → MadeAt CB CR C H' t rs u → Q (.ref t) H'
theorem ok_made (T : Tx K mg) : FnOk P w K mg base CX0 6 T.A_made T.fd_made ["_law_beads", "_law_rule_here"] (spMade K T.C_Bead T.C_Rule T.C_String) := by
  refine T.F_made.ok sc_made (fun vs H Q E h => ?_) (fun cdv A outer s H vs Q E hr h => ?_)
  · obtain ⟨b, m, xs, rs, u, rfl, hS, hB, hM, hl, q⟩ := h
    rfl
  obtain ⟨b, m, xs, rs, u, rfl, hS, hB, hM, hl, q⟩ := h
  refine ⟨_, (pss_cons (ps_try_as (i := 3) rfl rfl sc_made.nd rfl rfl ⟨rfl, by decide, .inl T.g_PearlError⟩ L2.takes0 (fun W pn xe tk _ => (pss_one (ps_set (i := 2) sc_made.nd rfl (Or.inl rfl) (pe_makeT T.mk_String (ok_String_init T) (hr.mono (by decide)) (by rfl) T.g_String T.b_String_init .nil (fun σ => passAt tk σ) (pa_cons (pv 0) (pa_cons (pv 1) pa_nil))))))
        (fun a oe cls d pn hz hf => (pss_one (ps_ret (pe_tup (pa_cons pe_str (pa_cons (pe_callB (call_isD hz hf) (by rfl) T.z_isinstance (by decide +kernel) (pa_cons (pv 3) (pa_cons (pe_glob (v := .ref T.C_NotLet) (by rfl) T.g_NotLet rfl) pa_nil))) (pa_cons (pe_xf ⟨T.xc_NotLet.hg, T.xc_NotLet.hk, T.xc_NotLet.hs, T.xc_NotLet.hd⟩ T.nf_NotLet_at hz hf (pv 3)) (pa_cons (pe_xf ⟨T.xc_NotLet.hg, T.xc_NotLet.hk, T.xc_NotLet.hs, T.xc_NotLet.hd⟩ T.nf_NotLet_why hz hf (pv 3)) pa_nil)))))))))
      (pss_one (ps_ret (pe_tup (pa_cons pe_str (pa_cons (pv 2) pa_nil)))))), ?_⟩
  obtain ⟨dm, hm⟩ := id hM
  refine ⟨_, rfl, _, rfl, fun x dx nx ndx ne => ?_⟩
  have z0 : Same H (upd (upd H dx (.own x)) x (.ins T.C_String dx [])) := fun b o e => by
    rw [upd_ne (ne_of_none e nx), upd_ne (ne_of_none e ndx)]
    exact e
  refine ⟨x, dx, b, m, xs, rs, u, rfl, upd_same, z0.seq hS, hB.same (NL.of z0), ⟨dm, z0 _ _ hm⟩, hl, fun hbar H1 t hs ht k => ⟨rfl, ?_⟩, fun j z hbar H1 dd s1 hd => ?_⟩
  · have sH : Same H H1 := fun b o e => k b o (z0 _ _ e) (ne_of_none e nx)
    refine ⟨_, rfl, (by show 2 ≤ sizeLine; decide), fun p hp => q _ p (sH.trans (same_upd hp)) ?_⟩
    unfold MadeAt
    rw [hbar]
    have sv : SV T.C_Bead T.C_Rule T.C_String H1 x rs u := ⟨t, m, xs, hs, ht, hB.same (NL.of sH), dm, sH _ _ hm⟩
    exact ⟨x, upd_same, sv.same (same_upd hp)⟩
  · refine ⟨true, T.em_NotLet_PearlError, fun _ y hy => ?_, fun z => by cases z⟩
    refine ⟨_, rfl, T.C_NotLet, dd, _, _, _, true, rfl, rfl, rfl, hd, T.xc_NotLet, .own _, T.ki_me, ?_⟩
    refine ⟨_, rfl, rfl, rfl, dd, _, _, rfl, hd, rfl, _, rfl, rfl, rfl, dd, _, _, rfl, hd, rfl, (by show 4 ≤ sizeLine; decide), fun p hp => q _ p ((z0.trans s1).trans (same_upd hp)) ?_⟩
    unfold MadeAt
    rw [hbar]
    exact upd_same
end
end KB
namespace KB
open PySem PySem.Spec PyProof.Rows L2 KA
section
variable {P : Program} {w : World} {K : PySem.W.Frag} {mg : Str → Option Value} {base : Heap}
theorem tf_le : ∀ (ts : List Str) (k : Nat) (acc : Str), (textFrom k acc ts).length ≤ acc.length + piled ts
  | [], k, acc => by show acc.length ≤ acc.length + 0; omega
  | t :: ts, k, acc => by
    have h := tf_le ts (k + 1) (acc ++ (if k > 0 then ", " else "" : String) ++ t)
    rw [piled_cons]
    have e : (acc ++ ((if k > 0 then ", " else "" : String) : Str) ++ t).length ≤ acc.length + (t.length + 2) := by
      rw [Str.length_append, Str.length_append]
      have : (((if k > 0 then ", " else "" : String) : Str)).length ≤ 2 := by
        split
        · decide +kernel
        · decide +kernel
      omega
    show (textFrom (k + 1) (acc ++ (if k > 0 then ", " else "" : String) ++ t) ts).length ≤ _
    omega
theorem piled_le {m : Nat} : ∀ {ts : List Str}, (∀ t ∈ ts, t.length ≤ m) → piled ts ≤ ts.length * (m + 2)
  | [], _ => by show 0 ≤ _; omega
  | t :: ts, h => by
    have := piled_le (ts := ts) fun t ht => h t (List.mem_cons_of_mem _ ht)
    have := h t (List.mem_cons_self ..)
    rw [piled_cons, List.length_cons, Nat.add_mul, Nat.one_mul]
    omega
theorem list_le (ts : List Str) : (listText ts).length ≤ piled ts + 2 := by
  unfold listText
  rw [Str.length_append]
  have := tf_le ts 0 "["
  have e1 : ("[" : Str).length = 1 := by decide +kernel
  have e2 : ("]" : Str).length = 1 := by decide +kernel
  omega
theorem reprS_len {r : Rw} (h : GoodRw r) : (reprS r).length ≤ 300 := by
  obtain ⟨g1, g2, g3, g4, g5⟩ := h
  obtain ⟨a1, a2⟩ := whl_of g1
  obtain ⟨a3, a4⟩ := whl_of g2
  obtain ⟨a5, a6⟩ := whl_of g3
  have l1 := num_le (n := r.num) (by omega) a2
  have l2 := num_le (n := r.ac) (by omega) (by omega)
  have l3 := num_le (n := r.we) (by omega) (by omega)
  have l4 := (nm_low g4).1
  have l5 := (nm_low g5).1
  rw [TL.len_tl] at l1 l2 l3 l4 l5
  show ((reprL r).toArray).size ≤ 300
  have c1 : (TL.tl "Bead(").length ≤ 10 := by decide +kernel
  have c2 : (TL.tl ", ").length ≤ 10 := by decide +kernel
  have c3 : (TL.tl ", form=").length ≤ 10 := by decide +kernel
  have c4 : (TL.tl ", drilled=True").length ≤ 20 := by decide +kernel
  rw [List.size_toArray]
  unfold reprL nL
  have c5 : (if r.fo = "round" then [] else TL.tl ", form=" ++ ([39] ++ (TL.tl r.fo ++ [39]))).length ≤ 30 := by
    split
    · exact Nat.zero_le _
    · simp only [List.length_append, List.length_cons, List.length_nil]
      omega
  have c6 : (if r.dr = true then TL.tl ", drilled=True" else []).length ≤ 30 := by
    split
    · omega
    · exact Nat.zero_le _
  simp only [List.length_append, List.length_cons, List.length_nil]
  omega
theorem beadR_len {o : Option Rw} (h : ∀ r, o = some r → GoodRw r) : (beadR o).length ≤ 300 := by
  cases o with
  | none => exact Nat.le_trans (show ("None" : Str).length ≤ 10 by decide +kernel) (by decide)
  | some r => exact reprS_len (h r rfl)
def stringRepr (rs : List (Option Rw)) (u : Rl) : Str := Str.empty ++ "String(" ++ listText (rs.map beadR) ++ ", " ++ ruleText u ++ ")"
def spSRepr (CB CR C : Addr) : Sp := fun vs H Q _ => ∃ (s : Addr) (rs : List (Option Rw)) (u : Rl), vs = [.ref s] ∧ SV CB CR C H s rs u ∧ rs.length ≤ 200 ∧ (∀ r, some r ∈ rs → GoodRw r) ∧ SmallRl u ∧ (ruleText u).length ≤ 1000 ∧ ∀ H', Same H H' → Q (.str (stringRepr rs u)) H'
theorem ok_String_repr (T : Tx K mg) : FnG P w K mg base CX0 9 T.A_String_repr T.fd_String_repr ["self"] (spSRepr T.C_Bead T.C_Rule T.C_String) := by
  refine fun_okG T.F_String_repr sc_String_repr (fun vs H Q E h => ?_) (fun cdv A outer s H vs Q E hr gd h => ?_)
  · obtain ⟨s, rs, u, rfl, hs, hl, hG, hU, hlu, q⟩ := h
    rfl
  obtain ⟨s, rs, u, rfl, hs, hl, hG, hU, hlu, q⟩ := h
  refine ⟨_, (pss_one (ps_ret (pe_joined (PJ.cons pe_str (PJ.cons (pe_fmtRL (n := 1) gd (hr.mono (by decide)) (pe_callTy call_list_of (by rfl) T.z_list (by decide +kernel) (pa_cons (pe_fld (pv 0) rfl) pa_nil))) (PJ.cons pe_str (PJ.cons (pe_fmtRO (E := E0) (ok_Rule_repr T) T.m_Rule_repr.at_ T.m_Rule_repr.fn T.b_Rule_repr pass0 (hr.mono (by decide)) (pe_fld (pv 0) rfl)) (PJ.cons pe_str PJ.nil)))))))), ?_⟩
  obtain ⟨t, m, xs, ⟨dx, h1⟩, h2, h3, dm, h4⟩ := hs.ex
  have pl := piled_le (m := 300) (ts := rs.map beadR) fun z hz => by
    obtain ⟨o, ho, rfl⟩ := List.mem_map.mp hz
    exact beadR_len fun r hr => hG r (by rw [← hr]; exact ho)
  rw [List.length_map] at pl
  have ll : (listText (rs.map beadR)).length ≤ 60600 := by
    have := list_le (rs.map beadR)
    have : rs.length * 302 ≤ 200 * 302 := Nat.mul_le_mul_right _ hl
    omega
  have c1 := app_le c_emp (show ("String(" : Str).length ≤ 7 by decide +kernel)
  have c2 := app_le c1 ll
  have c3 := app_le c2 (show (", " : Str).length ≤ 2 by decide +kernel)
  have c4 := app_le c3 hlu
  have c5 := app_le c4 (show (")" : Str).length ≤ 1 by decide +kernel)
  refine ⟨_, rfl, fit c1, _, rfl, s, _, dx, _, _, rfl, h1, T.cl_String, T.n_String_held, sf_held t m, t, xs, rfl, .inr (.inl (.inl h2)), fun l hl' => ?_⟩
  have z := same_upd hl' (o := .lst xs)
  refine ⟨l, xs, rs.map beadR, rfl, upd_same, by rw [List.length_map, h3.len], fun i x tx hx htx => ?_, fit ll, fun H2 s2 => ?_⟩
  · obtain ⟨o, ho, hv⟩ := h3.at_ i x hx
    rw [List.getElem?_map, ho] at htx
    cases htx
    rcases hv with ⟨rfl, rfl⟩ | ⟨p, r, rfl, rfl, hp⟩
    · exact shows_non
    · obtain ⟨dp, hp'⟩ := id hp
      refine shows_own (E := E0) (ok_Bead_repr T) T.m_Bead_repr.at_ T.m_Bead_repr.fn T.b_Bead_repr pass0 (z _ _ hp') fun H1 Q s1 q => ?_
      refine ⟨p, r, rfl, ⟨dp, s1 _ _ (z _ _ hp')⟩, hG r (List.mem_of_getElem? ho), fun H' y hy _ s2 => ?_⟩
      rw [reprS_of hy]
      exact q H' s2
  · have z2 : Same H H2 := z.trans s2
    refine ⟨_, rfl, fit c2, _, rfl, fit c3, ?_⟩
    refine ⟨_, rfl, s, _, dx, _, _, rfl, z2 _ _ h1, T.cl_String, T.n_String_rule, sf_rule t m, m, dm, _, rfl, z2 _ _ h4, m, u, rfl, ⟨dm, z2 _ _ h4⟩, hU, fun H3 s3 => ⟨⟨_, rfl⟩, ⟨_, rfl, fit hlu⟩, _, rfl, fit c4, _, rfl, fit c5, q _ (z2.trans s3)⟩⟩
end
end KB
namespace KB
open PySem PySem.Spec PyProof.Rows L2 KA
/-! all but the numbers, as data -/
def plainD (o : Option Rw) : PyData := match o with
  | some r => .tuple [.int r.ac, .int r.we, .str r.sh, .str r.fo, .bool r.dr]
  | none => .bool false
theorem eqv_plain (o o' : Option Rw) : PyData.eqv (plainD o) (plainD o') = sameO o o' := by
  cases o with
  | none =>
    cases o' with
    | none => rfl
    | some r' => rfl
  | some r =>
    cases o' with
    | none => rfl
    | some r' =>
      show ((r.ac == r'.ac) && ((r.we == r'.we) && ((r.sh == r'.sh) && ((r.fo == r'.fo) && ((r.dr == r'.dr) && true))))) = likeRw r r'
      unfold likeRw
      rw [Bool.eq_iff_iff]
      simp
theorem sameO_symm (o o' : Option Rw) : sameO o o' = sameO o' o := by
  cases o with
  | none => cases o' <;> rfl
  | some r =>
    cases o' with
    | none => rfl
    | some r' =>
      show likeRw r r' = likeRw r' r
      unfold likeRw
      rw [Bool.eq_iff_iff]
      simp only [Bool.and_eq_true, decide_eq_true_eq]
      constructor
      · rintro ⟨a, b, c, d, e⟩
        exact ⟨a.symm, b.symm, c.symm, d.symm, e.symm⟩
      · rintro ⟨a, b, c, d, e⟩
        exact ⟨a.symm, b.symm, c.symm, d.symm, e.symm⟩
theorem likeL_iff {rs ss : List (Option Rw)} : likeL rs ss = true ↔ rs.length = ss.length ∧ ∀ i, i < rs.length → sameO (rs.getD i none) (ss.getD i none) = true := by
  unfold likeL allF
  rw [Bool.and_eq_true, decide_eq_true_eq, List.all_eq_true]
  exact ⟨fun h => ⟨h.1, fun i hi => h.2 i (List.mem_range.mpr hi)⟩, fun h => ⟨h.1, fun i hi => h.2 i (List.mem_range.mp hi)⟩⟩
theorem likeL_cons (o o' : Option Rw) (rs ss : List (Option Rw)) : likeL (o :: rs) (o' :: ss) = (sameO o o' && likeL rs ss) := by
  rw [Bool.eq_iff_iff, Bool.and_eq_true, likeL_iff, likeL_iff, List.length_cons, List.length_cons]
  constructor
  · rintro ⟨h1, h2⟩
    refine ⟨h2 0 (by omega), by omega, fun i hi => h2 (i + 1) (by omega)⟩
  · rintro ⟨h0, h1, h2⟩
    refine ⟨by omega, fun i hi => ?_⟩
    cases i with
    | zero => exact h0
    | succ i => exact h2 i (by omega)
theorem eqv_plains : ∀ (rs ss : List (Option Rw)), PyData.eqvAll (rs.map plainD) (ss.map plainD) = likeL rs ss
  | [], [] => rfl
  | [], _ :: _ => rfl
  | _ :: _, [] => rfl
  | o :: rs, o' :: ss => by
    rw [likeL_cons, ← eqv_plains rs ss, ← eqv_plain]
    rfl
theorem getD_rev {rs : List (Option Rw)} {i : Nat} (h : i < rs.length) : rs.reverse.getD i none = rs.getD (rs.length - 1 - i) none := by
  rw [List.getD_eq_getElem?_getD, List.getD_eq_getElem?_getD, List.getElem?_reverse h]
theorem likeL_symm (rs ss : List (Option Rw)) : likeL rs ss = likeL ss rs := by
  rw [Bool.eq_iff_iff, likeL_iff, likeL_iff]
  constructor
  · rintro ⟨h1, h2⟩
    exact ⟨h1.symm, fun i hi => by rw [sameO_symm]; exact h2 i (by omega)⟩
  · rintro ⟨h1, h2⟩
    exact ⟨h1.symm, fun i hi => by rw [sameO_symm]; exact h2 i (by omega)⟩
theorem likeL_rev {rs ss : List (Option Rw)} (h : likeL rs ss.reverse = true) : likeL rs.reverse ss = true := by
  obtain ⟨h1, h2⟩ := likeL_iff.mp h
  rw [List.length_reverse] at h1
  refine likeL_iff.mpr ⟨by rw [List.length_reverse]; exact h1, fun i hi => ?_⟩
  rw [List.length_reverse] at hi
  rw [getD_rev hi]
  have := h2 (rs.length - 1 - i) (by omega)
  rw [getD_rev (by omega)] at this
  have e : ss.length - 1 - (rs.length - 1 - i) = i := by omega
  rw [e] at this
  exact this
theorem likeL_turn (rs ss : List (Option Rw)) : likeL rs ss.reverse = likeL ss rs.reverse := by
  rw [Bool.eq_iff_iff, likeL_symm ss]
  constructor
  · exact likeL_rev
  · intro h
    rw [likeL_symm] at h
    have := likeL_rev h
    rw [likeL_symm]
    exact this
theorem likeSt_symm (rs ss : List (Option Rw)) (u v : Rl) : likeSt ss rs v u = likeSt rs ss u v := by
  unfold likeSt
  rw [likeL_symm ss rs, ← likeL_turn rs ss]
  have : decide (v = u) = decide (u = v) := by
    rw [decide_eq_decide]
    exact ⟨fun e => e.symm, fun e => e.symm⟩
  rw [this]
def fourD (u : Rl) : PyData := .tuple [.int u.lo, .int u.hi, .int u.far, .bool u.shd]
theorem eqv_four (u v : Rl) : PyData.eqv (fourD u) (fourD v) = decide (v = u) := by
  show ((u.lo == v.lo) && ((u.hi == v.hi) && ((u.far == v.far) && ((u.shd == v.shd) && true)))) = _
  rw [Bool.eq_iff_iff, decide_eq_true_eq, rl_eq]
  simp only [Bool.and_eq_true, beq_iff_eq, Bool.and_true]
  constructor
  · rintro ⟨a, b, c, d⟩
    exact ⟨a.symm, b.symm, c.symm, d.symm⟩
  · rintro ⟨a, b, c, d⟩
    exact ⟨a.symm, b.symm, c.symm, d.symm⟩
theorem four_dp {K : PySem.W.Frag} {H : Hp} {t : Addr} {u : Rl} (h : SqT K H t (fourVals u)) : Dp K H (.ref t) (fourD u) :=
  .tup h (.cons (.int _) (.cons (.int _) (.cons (.int _) (.cons (.bl _) .nil))))
theorem four_sh (u : Rl) : SeqAt.shaped (fourD u) = true := rfl
/-- a plain row -/
def PlV (K : PySem.W.Frag) (H : Hp) (v : V) (o : Option Rw) : Prop := (v = .bl false ∧ o = none) ∨ ∃ p r, v = .ref p ∧ o = some r ∧ SqT K H p [.int r.ac, .int r.we, .str r.sh, .str r.fo, .bl r.dr]
theorem PlV.same {K : PySem.W.Frag} {H H' : Hp} {v : V} {o : Option Rw} (s : NL H H') (h : PlV K H v o) : PlV K H' v o := by
  rcases h with h | ⟨p, r, h1, h2, h3⟩
  · exact .inl h
  · exact .inr ⟨p, r, h1, h2, nl_tup s h3⟩
theorem PlV.dp {K : PySem.W.Frag} {H : Hp} {v : V} {o : Option Rw} (h : PlV K H v o) : Dp K H v (plainD o) := by
  rcases h with ⟨rfl, rfl⟩ | ⟨p, r, rfl, rfl, hp⟩
  · exact .bl _
  · exact .tup hp (.cons (.int _) (.cons (.int _) (.cons (.str _) (.cons (.str _) (.cons (.bl _) .nil)))))
theorem dpAll_of {K : PySem.W.Frag} {H : Hp} {α : Type} {f : α → PyData} : ∀ {vs : List V} {rs : List α}, vs.length = rs.length → (∀ (j : Nat) (v : V), vs[j]? = some v → ∃ o, rs[j]? = some o ∧ Dp K H v (f o)) → DpAll K H vs (rs.map f)
  | [], [], _, _ => .nil
  | [], _ :: _, l, _ => by simp at l
  | _ :: _, [], l, _ => by simp at l
  | v :: vs, o :: rs, l, h => by
    refine .cons ?_ (dpAll_of (by simpa using l) fun j x hx => ?_)
    · obtain ⟨o', e, hv⟩ := h 0 v rfl
      have : o = o' := Option.some.inj e
      subst this
      exact hv
    · obtain ⟨o', e, hv⟩ := h (j + 1) x hx
      exact ⟨o', e, hv⟩
/-- plain rows -/
structure Pls (K : PySem.W.Frag) (H : Hp) (vs : List V) (rs : List (Option Rw)) : Prop where
  len : vs.length = rs.length
  at_ : ∀ (i : Nat) (v : V), vs[i]? = some v → ∃ o, rs[i]? = some o ∧ PlV K H v o
theorem Pls.same {K : PySem.W.Frag} {H H' : Hp} {vs : List V} {rs : List (Option Rw)} (s : NL H H') (h : Pls K H vs rs) : Pls K H' vs rs :=
  ⟨h.len, fun i v hv => by
    obtain ⟨o, h1, h2⟩ := h.at_ i v hv
    exact ⟨o, h1, h2.same s⟩⟩
theorem Pls.rev {K : PySem.W.Frag} {H : Hp} {vs : List V} {rs : List (Option Rw)} (h : Pls K H vs rs) : Pls K H vs.reverse rs.reverse := by
  refine ⟨by rw [List.length_reverse, List.length_reverse]; exact h.len, ?_⟩
  intro i v hv
  have hi : i < vs.length := by
    have := (List.getElem?_eq_some_iff.mp hv).1
    rwa [List.length_reverse] at this
  rw [List.getElem?_reverse hi] at hv
  obtain ⟨o, h1, h2⟩ := h.at_ _ v hv
  refine ⟨o, ?_, h2⟩
  rw [List.getElem?_reverse (by rw [← h.len]; exact hi), ← h.len]
  exact h1
theorem Pls.dp {K : PySem.W.Frag} {H : Hp} {l : Addr} {vs : List V} {rs : List (Option Rw)} (h : Pls K H vs rs) (hl : H l = some (.lst vs)) : Dp K H (.ref l) (.list (rs.map plainD)) :=
  .lst (SqL.of hl) (dpAll_of h.len fun j v hv => by
    obtain ⟨o, h1, h2⟩ := h.at_ j v hv
    exact ⟨o, h1, h2.dp⟩)
theorem plainD_ok {o : Option Rw} (h : ∀ r, o = some r → GoodRw r) : PyData.canLay0 (plainD o) = true ∧ PyData.depth (plainD o) ≤ 1 := by
  cases o with
  | none => exact ⟨rfl, by decide⟩
  | some r =>
    have g := h r rfl
    constructor
    · show (true && (true && (PyData.canLay0 (.str r.sh) && (PyData.canLay0 (.str r.fo) && (true && true))))) = true
      rw [sh_name g.2.2.2.1, sh_name g.2.2.2.2]
      rfl
    · exact Nat.le_refl _
theorem plains_ok : ∀ {rs : List (Option Rw)}, AllGood rs → PyData.canLayAll0 (rs.map plainD) = true ∧ PyData.depthAll (rs.map plainD) ≤ 1
  | [], _ => ⟨rfl, by decide⟩
  | o :: rs, h => by
    obtain ⟨a, b⟩ := plains_ok (rs := rs) fun r hr => h r (List.mem_cons_of_mem _ hr)
    obtain ⟨c, d⟩ := plainD_ok (o := o) fun r hr => h r (by rw [hr]; exact List.mem_cons_self ..)
    constructor
    · show (PyData.canLay0 (plainD o) && PyData.canLayAll0 (rs.map plainD)) = true
      rw [a, c]
      rfl
    · show max (PyData.depth (plainD o)) (PyData.depthAll (rs.map plainD)) ≤ 1
      omega
theorem plains_sh {rs : List (Option Rw)} (h : AllGood rs) : SeqAt.shaped (.list (rs.map plainD)) = true := by
  obtain ⟨a, b⟩ := plains_ok h
  show (PyData.canLayAll0 (rs.map plainD) && decide (PyData.depthAll (rs.map plainD) + 1 ≤ 64)) = true
  rw [a, decide_eq_true (by omega)]
  rfl
theorem good_rev {rs : List (Option Rw)} (h : AllGood rs) : AllGood rs.reverse := fun r hr => h r (List.mem_reverse.mp hr)
theorem plains2_sh {rs : List (Option Rw)} (h : AllGood rs) : SeqAt.shaped (.tuple [.list (rs.map plainD), .list (rs.reverse.map plainD)]) = true := by
  obtain ⟨a, b⟩ := plains_ok h
  obtain ⟨c, d⟩ := plains_ok (good_rev h)
  show ((PyData.canLayAll0 (rs.map plainD) && (PyData.canLayAll0 (rs.reverse.map plainD) && true)) && decide (max (PyData.depthAll (rs.map plainD) + 1) (max (PyData.depthAll (rs.reverse.map plainD) + 1) 0) + 1 ≤ 64)) = true
  rw [a, c, decide_eq_true (by omega)]
  rfl
section
variable {P : Program} {w : World} {K : PySem.W.Frag} {mg : Str → Option Value} {base : Heap}
def spPlain (K : PySem.W.Frag) : Sp := fun vs H Q _ => ∃ (a : Addr) (xs : List V) (rs : List (Option Rw)), vs = [.ref a] ∧ SqL K H a xs ∧ Rws K H xs rs ∧ rs.length ≤ 1000 ∧ ∀ (H' : Hp) (l : Addr) (ys : List V), Same H H' → H' l = some (.lst ys) → Pls K H' ys rs → Q (.ref l) H'
theorem ok_plain (T : Tx K mg) : FnOk P w K mg base CX0 1 T.A_plain T.fd_plain ["_law_rows_here"] (spPlain K) := by
  refine T.F_plain.ok sc_plain (fun vs H Q E h => ?_) (fun cdv A outer s H vs Q E hr h => ?_)
  · obtain ⟨a, xs, rs, rfl, hS, hR, hl, q⟩ := h
    rfl
  obtain ⟨a, xs, rs, rfl, hS, hR, hl, q⟩ := h
  refine ⟨_, (pss_one (ps_ret (pe_lc (own := [("_law_row", 1)]) (g := gName 1) (tt := tYes) rfl sc_plain.nd (pi_list (pv 0)) (blkOk_by (N := ["_law_rows_here", "_law_row"]) (sc := defScope s_plain) (by decide +kernel)) (fun _ _ _ _ _ => (pg_name (i := 1) sc_plain.nd rfl (Or.inl rfl))) (fun _ _ _ _ _ => pts_nil) (fun _ _ _ _ _ => (pe_and (pe_cmpR op_notN (pv 1) pe_non (nomark _)) (pe_one (pe_slice (sl_tupAK (K' := K) rfl) (pv 1) (po_some pe_int) po_none))))))), ?_⟩
  have hlx := hR.len
  refine ⟨_, rfl, a, rfl, ⟨_, hS⟩, fun D hD => lc_gen (K := K) hD hS (by omega) (fun j v H' => ∃ o, rs[j]? = some o ∧ PlV K H' v o) (fun j v H1 H2 s ⟨o, h1, h2⟩ => ⟨o, h1, h2.same s⟩) ?_ ?_⟩
  · intro j x H2 R C hx s2 hRv
    obtain ⟨o, ho, hv⟩ := hR.at_ j x hx
    have hv := hv.same (NL.of s2)
    refine ⟨rfl, yesT ⟨_, rfl, rfl, _, rfl, ?_⟩⟩
    rcases hv with ⟨rfl, rfl⟩ | ⟨p, r, rfl, rfl, hp⟩
    · exact iteF (hRv _ _ (Same.refl _) ⟨none, ho, .inl ⟨rfl, rfl⟩⟩)
    · refine iteT ⟨_, rfl, 1, rfl, nopart (sla_T hp fun H3 t s3 e3 => hRv _ _ s3 ⟨some r, ho, .inr ⟨t, r, rfl, rfl, e3⟩⟩)⟩
  · intro H' acc s' e l g
    exact q H' D acc s' e ⟨by omega, g⟩
end
end KB
namespace KB
open PySem PySem.Spec PyProof.Rows L2 KA
/-! rows as data -/
def rowD (o : Option Rw) : PyData := match o with
  | some r => .tuple [.int r.num, .int r.ac, .int r.we, .str r.sh, .str r.fo, .bool r.dr]
  | none => .none
theorem RowV.dp {K : PySem.W.Frag} {H : Hp} {v : V} {o : Option Rw} (h : RowV K H v o) : Dp K H v (rowD o) := by
  rcases h with ⟨rfl, rfl⟩ | ⟨p, r, rfl, rfl, hp⟩
  · exact .non
  · exact .tup hp (.cons (.int _) (.cons (.int _) (.cons (.int _) (.cons (.str _) (.cons (.str _) (.cons (.bl _) .nil))))))
theorem rowD_ok {o : Option Rw} (h : ∀ r, o = some r → GoodRw r) : PyData.canLay0 (rowD o) = true ∧ PyData.depth (rowD o) ≤ 1 := by
  cases o with
  | none => exact ⟨rfl, by decide⟩
  | some r =>
    have g := h r rfl
    constructor
    · show (true && (true && (true && (PyData.canLay0 (.str r.sh) && (PyData.canLay0 (.str r.fo) && (true && true)))))) = true
      rw [sh_name g.2.2.2.1, sh_name g.2.2.2.2]
      rfl
    · exact Nat.le_refl _
theorem rowsD_ok : ∀ {rs : List (Option Rw)}, AllGood rs → PyData.canLayAll0 (rs.map rowD) = true ∧ PyData.depthAll (rs.map rowD) ≤ 1
  | [], _ => ⟨rfl, by decide⟩
  | o :: rs, h => by
    obtain ⟨a, b⟩ := rowsD_ok (rs := rs) fun r hr => h r (List.mem_cons_of_mem _ hr)
    obtain ⟨c, d⟩ := rowD_ok (o := o) fun r hr => h r (by rw [hr]; exact List.mem_cons_self ..)
    constructor
    · show (PyData.canLay0 (rowD o) && PyData.canLayAll0 (rs.map rowD)) = true
      rw [a, c]
      rfl
    · show max (PyData.depth (rowD o)) (PyData.depthAll (rs.map rowD)) ≤ 1
      omega
def rowsD (rs : List (Option Rw)) : PyData := .list (rs.map rowD)
theorem rowsD_shaped {rs : List (Option Rw)} (h : AllGood rs) : SeqAt.shaped (rowsD rs) = true := by
  obtain ⟨a, b⟩ := rowsD_ok h
  show (PyData.canLayAll0 (rs.map rowD) && decide (PyData.depthAll (rs.map rowD) + 1 ≤ 64)) = true
  rw [a, decide_eq_true (by omega)]
  rfl
theorem rws_dp {K : PySem.W.Frag} {H : Hp} {l : Addr} {xs : List V} {rs : List (Option Rw)} (h : SqL K H l xs) (hR : Rws K H xs rs) : Dp K H (.ref l) (rowsD rs) :=
  .lst h (dpAll_of hR.len fun j v hv => by
    obtain ⟨o, h1, h2⟩ := hR.at_ j v hv
    exact ⟨o, h1, h2.dp⟩)
theorem eqv_self {d : PyData} (h : SeqAt.shaped d = true) : PyData.eqv d d = true := SeqAt.eqv_refl _ (SeqAt.canLay_of_shaped h)
theorem eqv_nil (rs : List (Option Rw)) : PyData.eqv (rowsD rs) (.list []) = rs.isEmpty := by
  cases rs <;> rfl
/-! parts of rows -/
theorem Rws.rev {K : PySem.W.Frag} {H : Hp} {vs : List V} {rs : List (Option Rw)} (h : Rws K H vs rs) : Rws K H vs.reverse rs.reverse := by
  refine ⟨by rw [List.length_reverse, List.length_reverse]; exact h.len, ?_⟩
  intro i v hv
  have hi : i < vs.length := by
    have := (List.getElem?_eq_some_iff.mp hv).1
    rwa [List.length_reverse] at this
  rw [List.getElem?_reverse hi] at hv
  obtain ⟨o, h1, h2⟩ := h.at_ _ v hv
  refine ⟨o, ?_, h2⟩
  rw [List.getElem?_reverse (by rw [← h.len]; exact hi), ← h.len]
  exact h1
theorem Rws.app {K : PySem.W.Frag} {H : Hp} {xs ys : List V} {rs ss : List (Option Rw)} (h : Rws K H xs rs) (g : Rws K H ys ss) : Rws K H (xs ++ ys) (rs ++ ss) := by
  refine ⟨by rw [List.length_append, List.length_append, h.len, g.len], fun i w hw => ?_⟩
  by_cases hi : i < xs.length
  · rw [List.getElem?_append_left hi] at hw
    obtain ⟨o', h1, h2⟩ := h.at_ i w hw
    exact ⟨o', by rw [List.getElem?_append_left (by rw [← h.len]; exact hi)]; exact h1, h2⟩
  · rw [List.getElem?_append_right (by omega)] at hw
    obtain ⟨o', h1, h2⟩ := g.at_ _ w hw
    exact ⟨o', by rw [List.getElem?_append_right (by rw [← h.len]; omega), ← h.len]; exact h1, h2⟩
theorem Rws.one {K : PySem.W.Frag} {H : Hp} {v : V} {o : Option Rw} (h : RowV K H v o) : Rws K H [v] [o] :=
  ⟨rfl, fun i w hw => by
    cases i with
    | zero =>
      cases hw
      exact ⟨o, rfl, h⟩
    | succ i => simp at hw⟩
theorem Rws.cut {K : PySem.W.Frag} {H : Hp} {xs : List V} {rs : List (Option Rw)} (h : Rws K H xs rs) (lo hi : Option Int) : ∃ ss, Rws K H (cutV xs lo hi) ss ∧ (∀ o ∈ ss, o ∈ rs) ∧ ss.length ≤ rs.length := by
  unfold cutV
  generalize HT.sIx xs.length 0 lo = i
  generalize HT.sIx xs.length xs.length hi - i = j
  refine ⟨(rs.drop i).take j, ⟨by rw [List.length_take, List.length_take, List.length_drop, List.length_drop, h.len], fun k v hk => ?_⟩, fun o ho => List.mem_of_mem_drop (List.mem_of_mem_take ho), by rw [List.length_take, List.length_drop]; omega⟩
  by_cases hkj : k < j
  · rw [List.getElem?_take_of_lt hkj, List.getElem?_drop] at hk
    obtain ⟨o, h1, h2⟩ := h.at_ _ v hk
    exact ⟨o, by rw [List.getElem?_take_of_lt hkj, List.getElem?_drop]; exact h1, h2⟩
  · rw [List.getElem?_eq_none (by rw [List.length_take]; omega)] at hk
    cases hk
theorem good_app {rs ss : List (Option Rw)} (h : AllGood rs) (g : AllGood ss) : AllGood (rs ++ ss) := fun r hr => (List.mem_append.mp hr).elim (h r) (g r)
theorem good_sub {rs ss : List (Option Rw)} (h : AllGood rs) (g : ∀ o ∈ ss, o ∈ rs) : AllGood ss := fun r hr => h r (g _ hr)
theorem good_one {o : Option Rw} (h : ∀ r, o = some r → GoodRw r) : AllGood [o] := fun r hr => h r (List.mem_singleton.mp hr).symm
/-- other rows and a rule -/
def OthV (K : PySem.W.Frag) (d fl : Addr) (H : Hp) (v : V) : Prop := ∃ (p a f : Addr) (ys : List V) (ss : List (Option Rw)) (u : Rl), v = .ref p ∧ H p = some (.tup [.ref a, .ref f]) ∧ H a = some (.lst ys) ∧ a ≠ d ∧ a ≠ fl ∧ Rws K H ys ss ∧ AllGood ss ∧ ss.length ≤ 1000 ∧ SqT K H f (fourVals u) ∧ GoodRl u
theorem OthV.step {K : PySem.W.Frag} {d fl : Addr} {H H' : Hp} {v : V} (h : OthV K d fl H v) (nl : NL H H') (kp : ∀ b o, b ≠ d → b ≠ fl → H b = some o → H' b = some o) : OthV K d fl H' v := by
  obtain ⟨p, a, f, ys, ss, u, h1, h2, h3, h4, h5, h6, h7, h8, h9, h10⟩ := h
  exact ⟨p, a, f, ys, ss, u, h1, nl _ _ (fun _ z => by cases z) h2, kp _ _ h4 h5 h3, h4, h5, h6.same nl, h7, h8, nl_tup nl h9, h10⟩
theorem OthV.same {K : PySem.W.Frag} {d fl : Addr} {H H' : Hp} {v : V} (h : OthV K d fl H v) (z : Same H H') : OthV K d fl H' v := h.step (NL.of z) fun b o _ _ e => z b o e
theorem oth_push {K : PySem.W.Frag} {d fl : Addr} {H : Hp} {acc : List V} {v : V} (e : H fl = some (.lst acc)) (h : ∀ x ∈ acc, OthV K d fl H x) (hv : OthV K d fl H v) : ∀ x ∈ acc ++ [v], OthV K d fl (upd H fl (.lst (acc ++ [v]))) x := fun x hx => by
  have st : ∀ y, OthV K d fl H y → OthV K d fl (upd H fl (.lst (acc ++ [v]))) y := fun y hy => hy.step (NL.at_ e) fun b o _ n z => by rw [upd_ne n]; exact z
  rcases List.mem_append.mp hx with hx | hx
  · exact st x (h x hx)
  · rw [List.mem_singleton.mp hx]
    exact st v hv
theorem defRw_good : GoodRw ⟨7, 400, 5, "a", "b", false⟩ := ⟨by decide, by decide, by decide, by decide +kernel, by decide +kernel⟩
theorem zz_good : nm (.str "zz") = true := by decide +kernel
theorem whl_is {a lo hi : Int} (h : whl (.int a) lo hi = true) : lo ≤ a ∧ a ≤ hi := by
  have h : (decide (lo ≤ a) && decide (a ≤ hi)) = true := h
  simp only [Bool.and_eq_true, decide_eq_true_eq] at h
  exact h
/-- row or .. -/
theorem orRow {K : PySem.W.Frag} {v : V} {o : Option Rw} {H : Hp} {Q : VK} {tb : TE} {σ : L2.St} {r0 : Rw} (h : RowV K H v o) (hG : ∀ r, o = some r → GoodRw r) (g0 : GoodRw r0) (htb : ∀ (H : Hp) (Q : VK), (∀ p, H p = none → Q (.ref p) (upd H p (.tup (rowVals r0)))) → tb σ H Q)
    (q : ∀ (H2 : Hp) (p : Addr) (r : Rw), Same H H2 → SqT K H2 p (rowVals r) → GoodRw r → Q (.ref p) H2) : ∃ k, TruW K v H k ∧ if k = true then Q v H else tb σ H Q := by
  rcases h with ⟨rfl, rfl⟩ | ⟨p, r, rfl, rfl, hp⟩
  · exact ⟨false, .inl rfl, iteF (htb _ _ fun p hp => q _ p r0 (same_upd hp) (.inl (.inl upd_same)) g0)⟩
  · exact ⟨true, .inl (.inr (.inl ⟨_, hp, rfl⟩)), iteT (q H p r (Same.refl _) hp (hG r rfl))⟩
def ItV (K : PySem.W.Frag) (H : Hp) (v : V) : Prop := ∃ o, RowV K H v o ∧ ∀ r, o = some r → GoodRw r
theorem ItV.same {K : PySem.W.Frag} {H H' : Hp} {v : V} (h : ItV K H v) (s : NL H H') : ItV K H' v := by
  obtain ⟨o, h1, h2⟩ := h
  exact ⟨o, h1.same s, h2⟩
section
variable {P : Program} {w : World} {K : PySem.W.Frag} {mg : Str → Option Value} {base : Heap}
def spOthers (K : PySem.W.Frag) : Sp := fun vs H Q _ => ∃ (d a t : Addr) (xs : List V) (rs : List (Option Rw)) (u : Rl) (n : Nat), vs = [.ref d, .ref a, .ref t] ∧ H a = some (.lst xs) ∧ a ≠ d ∧ Rws K H xs rs ∧ AllGood rs ∧ rs.length ≤ 200 ∧ H t = some (.tup (fourVals u)) ∧ GoodU u ∧ Dr PT d n H ∧ n ≤ 500000 ∧
  ∀ (H' : Hp) (l fl : Addr) (zs : List V), But d H H' → H' l = some (.lst zs) → zs.length ≤ 100 → (∀ v ∈ zs, OthV K d fl H' v) → Q (.ref l) H'
theorem ok_others (T : Tx K mg) : FnOk P w K mg base CX0 2 T.A_others T.fd_others ["_law_well_here", "_law_rows_here", "_law_four"] (spOthers K) := by
  refine T.F_others.ok sc_others (fun vs H Q E h => ?_) (fun cdv A outer s H vs Q E hr h => ?_)
  · obtain ⟨d, a, t, xs, rs, u, n, rfl, ha, nad, hR, hG, hl, ht, hU, dr, hn, q⟩ := h
    rfl
  obtain ⟨d, a, t, xs, rs, u, n, rfl, ha, nad, hR, hG, hl, ht, hU, dr, hn, q⟩ := h
  refine ⟨_, (pss_cons (ps_set (i := 3) sc_others.nd rfl (Or.inl rfl) (pe_lst (pa_cons (pe_tup (pa_cons (pe_revL (pv 1)) (pa_cons (pv 2) pa_nil))) (pa_cons (pe_tup (pa_cons (pv 1) (pa_cons (pe_op op_catA (pe_slice sl_tupA (pv 2) po_none (po_some pe_int)) (pe_tup (pa_cons (pe_op op_add (pe_ix ix_tup (pv 2) pe_int (fun _ _ => rfl)) pe_int) (pa_cons (pe_ix ix_tup (pv 2) pe_int (fun _ _ => rfl)) pa_nil)))) pa_nil))) pa_nil))))
      (pss_cons (ps_expr (pe_bm PySem.F.plainAttrs_list PySem.F.slot_list_append PySem.F.type_list_append mt_append (pv 3) (pa_cons (pe_tup (pa_cons (pv 1) (pa_cons (pe_op op_catA (pe_tup (pa_cons (pe_ix ix_tup (pv 2) pe_int (fun _ _ => rfl)) (pa_cons (pe_op op_add (pe_ix ix_tup (pv 2) pe_int (fun _ _ => rfl)) pe_int) pa_nil))) (pe_slice sl_tupA (pv 2) (po_some pe_int) po_none)) pa_nil))) pa_nil)))
      (pss_cons (ps_if (pt_cmpR (op_eqD hr.units) (pv 1) (pe_lst pa_nil) (nomark _)) (pss_one (ps_ret (pe_op op_cat (pv 3) (pe_lst (pa_cons (pe_tup (pa_cons (pe_lst (pa_cons pe_non pa_nil)) (pa_cons (pv 2) pa_nil))) pa_nil))))) pss_nil)
      (pss_cons (ps_set (i := 4) sc_others.nd rfl (Or.inl rfl) (pe_call (ok_draw T) (hr.mono (by decide)) (by rfl) T.g_draw T.F_draw.kp T.b_draw .nil pass0 (pa_cons (pv 0) (pa_cons (pe_callB call_len_seq (by rfl) T.z_len PySem.boot_len (pa_cons (pv 1) pa_nil)) pa_nil))))
      (pss_cons (ps_set (i := 5) sc_others.nd rfl (Or.inl rfl) (pe_orW (K' := K) rfl (pe_ix ix_list (pv 1) (pv 4) (fun _ _ => rfl)) (pe_one (pe_tup (pa_cons pe_int (pa_cons pe_int (pa_cons pe_int (pa_cons pe_str (pa_cons pe_str (pa_cons pe_bl pa_nil))))))))))
      (pss_cons (ps_set (i := 6) sc_others.nd rfl (Or.inl rfl) (pe_lst (pa_cons (pe_op op_catA (pe_tup (pa_cons (pe_op op_add (pe_op op_mod (pe_ix ix_tup (pv 5) pe_int (fun _ _ => rfl)) (pe_op op_pow pe_int pe_int)) pe_int) pa_nil)) (pe_slice sl_tupA (pv 5) (po_some pe_int) po_none)) (pa_cons (pe_op op_catA (pe_op op_catA (pe_slice sl_tupA (pv 5) po_none (po_some pe_int)) (pe_tup (pa_cons (pe_op op_add (pe_op op_mod (pe_ix ix_tup (pv 5) pe_int (fun _ _ => rfl)) (pe_op op_pow pe_int pe_int)) pe_int) pa_nil))) (pe_slice sl_tupA (pv 5) (po_some pe_int) po_none)) pa_nil))))
      (pss_cons (ps_for PassesOwn.never rfl (pi_list (pe_op op_cat (pv 6) (pe_lst (pa_cons (pe_op op_catA (pe_op op_catA (pe_slice sl_tupA (pv 5) po_none (po_some pe_int)) (pe_tup (pa_cons pe_str pa_nil))) (pe_slice sl_tupA (pv 5) (po_some pe_int) po_none)) (pa_cons pe_non pa_nil))))) (pg_name (i := 7) sc_others.nd rfl (Or.inl rfl))
        (pss_one (ps_expr (pe_bm PySem.F.plainAttrs_list PySem.F.slot_list_append PySem.F.type_list_append mt_append (pv 3) (pa_cons (pe_tup (pa_cons (pe_op op_cat (pe_op op_cat (pe_slice sl_list (pv 1) po_none (po_some (pv 4))) (pe_lst (pa_cons (pv 7) pa_nil))) (pe_slice sl_list (pv 1) (po_some (pe_op op_add (pv 4) pe_int)) po_none)) (pa_cons (pv 2) pa_nil))) pa_nil)))))
      (pss_one (ps_ret (pe_op op_cat (pv 3) (pe_lst (pa_cons (pe_tup (pa_cons (pe_op op_cat (pe_slice sl_list (pv 1) po_none (po_some (pv 4))) (pe_slice sl_list (pv 1) (po_some (pe_op op_add (pv 4) pe_int)) po_none)) (pa_cons (pv 2) pa_nil))) pa_nil)))))))))))), ?_⟩
  obtain ⟨⟨u1, u2, u3⟩, u4, u5⟩ := hU
  have ntd : t ≠ d := by
    obtain ⟨_, _, _, e, _⟩ := dr
    exact fun z => by rw [z, e] at ht; cases ht
  have hlx := hR.len
  refine ⟨_, rfl, a, xs, rfl, SqL.of ha, fun rv hrv => ?_⟩
  have z1 := same_upd hrv (o := .lst xs.reverse)
  refine ⟨_, rfl, (by show 2 ≤ sizeLine; decide), fun p1 hp1 => ?_⟩
  have z2 := same_upd hp1 (o := .tup [.ref rv, .ref t])
  have y2 := z1.trans z2
  refine ⟨_, rfl, _, rfl, nopart ⟨2, rfl, sla_T (.inl (.inl (y2 _ _ ht))) fun H3 c3 z3 e3 => ?_⟩⟩
  have y3 := y2.trans z3
  have ht3 := y3 _ _ ht
  refine ⟨_, rfl, t, _, _, _, rfl, rfl, .inl (.inl ht3), atI_nat (j := 2) rfl, _, _, rfl, rfl, _, rfl, t, _, _, _, rfl, rfl, .inl (.inl ht3), atI_nat (j := 3) rfl, (by show 2 ≤ sizeLine; decide), fun p4 hp4 => ?_⟩
  have z4 := same_upd hp4 (o := .tup [.int (u.far + 1), .bl u.shd])
  have y4 := y3.trans z4
  refine cata_T (SqT.ext e3 z4) (.inl (.inl upd_same)) (by show 2 + 2 ≤ sizeLine; decide) fun H5 f5 z5 e5 => ?_
  have y5 := y4.trans z5
  refine ⟨(by show 2 ≤ sizeLine; decide), fun p6 hp6 => ?_⟩
  have z6 := same_upd hp6 (o := .tup [.ref a, .ref f5])
  have y6 := y5.trans z6
  refine ⟨(by show 2 ≤ sizeLine; decide), fun fl hfl => ?_⟩
  have z7 := same_upd hfl (o := .lst [.ref p1, .ref p6])
  have y7 := y6.trans z7
  have nfd : fl ≠ d := (dr.same y6).ne hfl
  have nfa : a ≠ fl := ne_of_none (y6 _ _ ha) hfl
  have o1 : OthV K d fl (upd (upd H5 p6 (.tup [.ref a, .ref f5])) fl (.lst [.ref p1, .ref p6])) (.ref p1) := by
    have k1 : Same (upd (upd H rv (.lst xs.reverse)) p1 (.tup [.ref rv, .ref t])) (upd (upd H5 p6 (.tup [.ref a, .ref f5])) fl (.lst [.ref p1, .ref p6])) := ((z3.trans z4).trans (z5.trans z6)).trans z7
    have erv : (upd (upd H rv (.lst xs.reverse)) p1 (.tup [.ref rv, .ref t])) rv = some (.lst xs.reverse) := z2 _ _ upd_same
    refine ⟨p1, rv, t, xs.reverse, rs.reverse, u, rfl, k1 _ _ upd_same, k1 _ _ erv, dr.ne hrv, ne_of_none (((z3.trans z4).trans (z5.trans z6)) _ _ erv) hfl, (hR.same (NL.of y7)).rev, good_rev hG, by rw [List.length_reverse]; omega, .inl (.inl (y7 _ _ ht)), u1, u2, u3⟩
  have o2 : OthV K d fl (upd (upd H5 p6 (.tup [.ref a, .ref f5])) fl (.lst [.ref p1, .ref p6])) (.ref p6) := by
    refine ⟨p6, a, f5, xs, rs, ⟨u.lo, u.hi, u.far + 1, u.shd⟩, rfl, z7 _ _ upd_same, y7 _ _ ha, nad, nfa, hR.same (NL.of y7), hG, by omega, SqT.ext e5 (z6.trans z7), u1, u2, by show 0 ≤ u.far + 1; omega⟩
  have ef7 : (upd (upd H5 p6 (.tup [.ref a, .ref f5])) fl (.lst [.ref p1, .ref p6])) fl = some (.lst [.ref p1, .ref p6]) := upd_same
  revert o1 o2 ef7 y7
  generalize upd (upd H5 p6 (.tup [.ref a, .ref f5])) fl (.lst [.ref p1, .ref p6]) = H7
  intro y7 o1 o2 ef7
  have ht7 := y7 _ _ ht
  refine ⟨_, rfl, .inl ⟨rfl, _, SqL.of ef7⟩, _, rfl, _, rfl, t, _, _, _, rfl, rfl, .inl (.inl ht7), atI_nat (j := 0) rfl, _, rfl, t, _, _, _, rfl, rfl, .inl (.inl ht7), atI_nat (j := 1) rfl, _, _, rfl, rfl, (by show 2 ≤ sizeLine; decide), fun p8 hp8 => ?_⟩
  have z8 := same_upd hp8 (o := .tup [.int u.lo, .int (u.hi + 1)])
  have y8 := y7.trans z8
  refine ⟨_, rfl, 2, rfl, nopart (sla_T (.inl (.inl (y8 _ _ ht))) fun H9 c9 z9 e9 => ?_)⟩
  have y9 := y8.trans z9
  refine cata_T (.inl (.inl (z9 _ _ upd_same))) e9 (by show 2 + 2 ≤ sizeLine; decide) fun H10 f10 z10 e10 => ?_
  have y10 := y9.trans z10
  refine ⟨(by show 2 ≤ sizeLine; decide), fun p11 hp11 => ?_⟩
  have z11 := same_upd hp11 (o := .tup [.ref a, .ref f10])
  have y11 := y10.trans z11
  have z7b := (z8.trans z9).trans (z10.trans z11)
  have ef11 := z7b _ _ ef7
  have o3 : OthV K d fl (upd H10 p11 (.tup [.ref a, .ref f10])) (.ref p11) := by
    refine ⟨p11, a, f10, xs, rs, ⟨u.lo, u.hi + 1, u.far, u.shd⟩, rfl, upd_same, y11 _ _ ha, nad, nfa, hR.same (NL.of y11), hG, by omega, SqT.ext e10 z11, u1, by show u.lo ≤ u.hi + 1; omega, u3⟩
  have o12 : ∀ x ∈ [V.ref p1, V.ref p6], OthV K d fl (upd H10 p11 (.tup [.ref a, .ref f10])) x := fun x hx => by
    simp only [List.mem_cons, List.not_mem_nil, or_false] at hx
    rcases hx with rfl | rfl
    · exact o1.same z7b
    · exact o2.same z7b
  have oA := oth_push ef11 o12 o3
  refine ⟨fl, _, _, rfl, rfl, ef11, (by show 2 < sizeLine; decide), ?_⟩
  have bA : But d H (upd (upd H10 p11 (.tup [.ref a, .ref f10])) fl (.lst ([.ref p1, .ref p6] ++ [.ref p11]))) := (But.of y11).mut (y6.free hfl)
  have haA : (upd (upd H10 p11 (.tup [.ref a, .ref f10])) fl (.lst ([.ref p1, .ref p6] ++ [.ref p11]))) a = some (.lst xs) := by rw [upd_ne nfa]; exact y11 _ _ ha
  have nlA : NL H (upd (upd H10 p11 (.tup [.ref a, .ref f10])) fl (.lst ([.ref p1, .ref p6] ++ [.ref p11]))) := (NL.of y11).trans (NL.at_ ef11)
  have drA : Dr PT d n (upd (upd H10 p11 (.tup [.ref a, .ref f10])) fl (.lst ([.ref p1, .ref p6] ++ [.ref p11]))) := (dr.same y11).upd nfd
  have efA : (upd (upd H10 p11 (.tup [.ref a, .ref f10])) fl (.lst ([.ref p1, .ref p6] ++ [.ref p11]))) fl = some (.lst ([.ref p1, .ref p6] ++ [.ref p11])) := upd_same
  revert oA bA haA nlA drA efA
  generalize upd (upd H10 p11 (.tup [.ref a, .ref f10])) fl (.lst ([.ref p1, .ref p6] ++ [.ref p11])) = HA
  generalize hacc : [V.ref p1, V.ref p6] ++ [V.ref p11] = acc
  intro oA bA haA nlA drA efA
  have lacc : acc.length = 3 := by rw [← hacc]; rfl
  have hRA := hR.same nlA
  have htA := nlA _ _ (fun _ z => by cases z) ht
  refine ⟨_, rfl, Nat.zero_le _, fun l0 hl0 => ?_⟩
  have z0 := same_upd hl0 (o := .lst [])
  refine ⟨_, _, rws_dp (SqL.of (z0 _ _ haA)) (hRA.same (NL.of z0)), .lst (SqL.of upd_same) .nil, rowsD_shaped hG, rfl, _, rfl, ?_⟩
  rw [eqv_nil]
  cases hrs : rs with
  | nil =>
    refine iteT ⟨_, rfl, (by show 1 ≤ sizeLine; decide), fun ln hln => ?_⟩
    have x1 := same_upd hln (o := .lst [V.non])
    refine ⟨_, rfl, (by show 2 ≤ sizeLine; decide), fun pn hpn => ?_⟩
    have x2 := same_upd hpn (o := .tup [.ref ln, .ref t])
    refine ⟨(by show 1 ≤ sizeLine; decide), fun lm hlm => ?_⟩
    have x3 := same_upd hlm (o := .lst [.ref pn])
    have x03 := (z0.trans x1).trans (x2.trans x3)
    refine ⟨fl, lm, _, _, rfl, rfl, x03 _ _ efA, upd_same, sz _ (by rw [lacc]; show 3 + 1 ≤ 100000; decide), fun l hl' => ?_⟩
    have x4 := same_upd hl' (o := .lst (acc ++ [.ref pn]))
    have x04 := x03.trans x4
    have eln := (x2.trans (x3.trans x4)) _ _ upd_same
    refine q _ l fl _ (bA.trans (But.of x04)) upd_same (by rw [List.length_append, lacc]; show 3 + 1 ≤ 100; decide) fun v hv => ?_
    rcases List.mem_append.mp hv with hv | hv
    · exact (oA v hv).same x04
    · rw [List.mem_singleton.mp hv]
      refine ⟨pn, ln, t, _, [none], u, rfl, (x3.trans x4) _ _ upd_same, eln, (drA.same z0).ne hln, (ne_of_none (z0 _ _ efA) hln).symm, Rws.one (.inl ⟨rfl, rfl⟩), good_one (fun r e => by cases e), by decide, .inl (.inl (x04 _ _ htA)), u1, u2, u3⟩
  | cons o1 rs1 =>
    have hpos : 0 < rs.length := by rw [hrs]; exact Nat.succ_pos _
    clear hrs
    refine iteF ?_
    refine ⟨_, rfl, _, rfl, a, xs, rfl, .inl (SqL.of (z0 _ _ haA)), d, _, n, rfl, (by show (0 : Int) < ((xs.length : Nat) : Int); omega), log_tiny (by omega) (by omega), drA.same z0, by omega, fun H1 r1 a1 c1 b1 dr1 => ?_⟩
    obtain ⟨i, rfl⟩ : ∃ i : Nat, r1 = i := ⟨r1.toNat, by omega⟩
    have hi : i < rs.length := by omega
    obtain ⟨v, hv, hrow⟩ := hRA.get (List.getElem?_eq_getElem hi)
    have bA1 : But d HA H1 := (But.of z0).trans b1
    have nlA1 : NL HA H1 := (NL.of z0).trans (dr_nl (drA.same z0) b1)
    have ha1 := bA1 _ _ nad haA
    have ht1 := bA1 _ _ ntd htA
    have ef1 := bA1 _ _ nfd efA
    have oB : ∀ x ∈ acc, OthV K d fl H1 x := fun x hx => (oA x hx).step nlA1 fun b o n1 _ e => bA1 b o n1 e
    have hRB := hRA.same nlA1
    have bH1 := bA.trans bA1
    have hrow1 := hrow.same nlA1
    clear oA hRA nlA drA efA haA htA
    refine ⟨_, rfl, _, rfl, a, xs, _, v, rfl, rfl, SqL.of ha1, atI_nat hv, orRow hrow1 (fun r e => hG r (by rw [← e]; exact List.getElem_mem hi)) defRw_good (fun H Q q => ⟨(by show 6 ≤ sizeLine; decide), fun p hp => q p hp⟩) fun H2 p5 r s2 hp5 g5 => ?_⟩
    obtain ⟨g1, g2, g3, g4, g5⟩ := g5
    have e9 : (10 : Int) ^ (9 : Int).toNat = 1000000000 := by decide
    have e6 : (10 : Int) ^ (6 : Int).toNat = 1000000 := by decide
    have m0 := Int.emod_nonneg r.num (show (1000000000 : Int) ≠ 0 by decide)
    have m1 := Int.emod_lt_of_pos r.num (show (0 : Int) < 1000000000 by decide)
    have m2 := Int.emod_nonneg r.we (show (1000000 : Int) ≠ 0 by decide)
    have m3 := Int.emod_lt_of_pos r.we (show (0 : Int) < 1000000 by decide)
    refine ⟨_, rfl, p5, _, _, _, rfl, rfl, hp5, atI_nat (j := 0) rfl, _, _, rfl, rfl, ⟨by decide, by decide, by decide⟩, _, _, rfl, rfl, (by show (0 : Int) < 10 ^ (9 : Int).toNat; decide), _, _, rfl, rfl, (by show 1 ≤ sizeLine; decide), fun q1 hq1 => ?_⟩
    have x1 := same_upd hq1 (o := .tup [.int (r.num % 10 ^ (9 : Int).toNat + 1)])
    refine ⟨_, rfl, 1, rfl, nopart (sla_T (SqT.ext hp5 x1) fun H3 c3 x3 k3 => ?_)⟩
    refine cata_T (.inl (.inl (x3 _ _ upd_same))) k3 (by show 1 + 5 ≤ sizeLine; decide) fun H4 f1 x4 k4 => ?_
    have w4 := x1.trans (x3.trans x4)
    refine ⟨_, rfl, nopart ⟨2, rfl, sla_T (SqT.ext hp5 w4) fun H5 c5 x5 k5 => ?_⟩⟩
    have w5 := w4.trans x5
    refine ⟨_, rfl, p5, _, _, _, rfl, rfl, SqT.ext hp5 w5, atI_nat (j := 2) rfl, _, _, rfl, rfl, ⟨by decide, by decide, by decide⟩, _, _, rfl, rfl, (by show (0 : Int) < 10 ^ (6 : Int).toNat; decide), _, _, rfl, rfl, (by show 1 ≤ sizeLine; decide), fun q2 hq2 => ?_⟩
    have x6 := same_upd hq2 (o := .tup [.int (r.we % 10 ^ (6 : Int).toNat + 1)])
    refine cata_T (SqT.ext k5 x6) (.inl (.inl upd_same)) (by show 2 + 1 ≤ sizeLine; decide) fun H7 c7 x7 k7 => ?_
    have w7 := w5.trans (x6.trans x7)
    refine ⟨_, rfl, 3, rfl, nopart (sla_T (SqT.ext hp5 w7) fun H8 c8 x8 k8 => ?_)⟩
    refine cata_T (SqT.ext k7 x8) k8 (by show 3 + 3 ≤ sizeLine; decide) fun H9 f2 x9 k9 => ?_
    refine ⟨(by show 2 ≤ sizeLine; decide), fun od hod => ?_⟩
    have x10 := same_upd hod (o := .lst [.ref f1, .ref f2])
    have w49 : Same H4 (upd H9 od (.lst [.ref f1, .ref f2])) := ((x5.trans x6).trans (x7.trans x8)).trans (x9.trans x10)
    have w10 := w4.trans w49
    refine ⟨_, rfl, _, rfl, nopart ⟨3, rfl, sla_T (SqT.ext hp5 w10) fun H11 c11 x11 k11 => ?_⟩⟩
    have w11 := w10.trans x11
    refine ⟨(by show 1 ≤ sizeLine; decide), fun q3 hq3 => ?_⟩
    have x12 := same_upd hq3 (o := .tup [.str "zz"])
    refine cata_T (SqT.ext k11 x12) (.inl (.inl upd_same)) (by show 3 + 1 ≤ sizeLine; decide) fun H13 c13 x13 k13 => ?_
    have w13 := w11.trans (x12.trans x13)
    refine ⟨_, rfl, 4, rfl, nopart (sla_T (SqT.ext hp5 w13) fun H14 c14 x14 k14 => ?_)⟩
    refine cata_T (SqT.ext k13 x14) k14 (by show 4 + 2 ≤ sizeLine; decide) fun H15 f3 x15 k15 => ?_
    refine ⟨(by show 2 ≤ sizeLine; decide), fun l2 hl2 => ?_⟩
    have x16 := same_upd hl2 (o := .lst [.ref f3, V.non])
    have w1016 := (x11.trans x12).trans ((x13.trans x14).trans (x15.trans x16))
    have w16 := w10.trans w1016
    refine ⟨od, l2, _, _, rfl, rfl, w1016 _ _ upd_same, upd_same, (by show 2 + 2 ≤ sizeLine; decide), fun it hit => ?_⟩
    have x17 := same_upd hit (o := .lst ([.ref f1, .ref f2] ++ [.ref f3, V.non]))
    have w17 := s2.trans (w16.trans x17)
    have i1 : ItV K (upd (upd H15 l2 (.lst [.ref f3, V.non])) it (.lst ([.ref f1, .ref f2] ++ [.ref f3, V.non]))) (.ref f1) :=
      ⟨some ⟨r.num % 1000000000 + 1, r.ac, r.we, r.sh, r.fo, r.dr⟩, .inr ⟨f1, _, rfl, rfl, SqT.ext k4 (w49.trans (w1016.trans x17))⟩, fun r' e => by
        cases e
        exact ⟨good_int (a := r.num % 1000000000 + 1) (by omega) (by omega), g2, g3, g4, g5⟩⟩
    have i2 : ItV K (upd (upd H15 l2 (.lst [.ref f3, V.non])) it (.lst ([.ref f1, .ref f2] ++ [.ref f3, V.non]))) (.ref f2) :=
      ⟨some ⟨r.num, r.ac, r.we % 1000000 + 1, r.sh, r.fo, r.dr⟩, .inr ⟨f2, _, rfl, rfl, SqT.ext k9 (x10.trans (w1016.trans x17))⟩, fun r' e => by
        cases e
        exact ⟨g1, g2, good_int (a := r.we % 1000000 + 1) (by omega) (by omega), g4, g5⟩⟩
    have i3 : ItV K (upd (upd H15 l2 (.lst [.ref f3, V.non])) it (.lst ([.ref f1, .ref f2] ++ [.ref f3, V.non]))) (.ref f3) :=
      ⟨some ⟨r.num, r.ac, r.we, "zz", r.fo, r.dr⟩, .inr ⟨f3, _, rfl, rfl, SqT.ext k15 (x16.trans x17)⟩, fun r' e => by
        cases e
        exact ⟨g1, g2, g3, zz_good, g5⟩⟩
    have iA : ∀ x ∈ [V.ref f1, V.ref f2] ++ [V.ref f3, V.non], ItV K (upd (upd H15 l2 (.lst [.ref f3, V.non])) it (.lst ([.ref f1, .ref f2] ++ [.ref f3, V.non]))) x := fun x hx => by
      have hx : x ∈ [V.ref f1, V.ref f2, V.ref f3, V.non] := hx
      simp only [List.mem_cons, List.not_mem_nil, or_false] at hx
      rcases hx with rfl | rfl | rfl | rfl
      · exact i1
      · exact i2
      · exact i3
      · exact ⟨none, .inl ⟨rfl, rfl⟩, fun r e => by cases e⟩
    have eit : (upd (upd H15 l2 (.lst [.ref f3, V.non])) it (.lst ([.ref f1, .ref f2] ++ [.ref f3, V.non]))) it = some (.lst ([.ref f1, .ref f2] ++ [.ref f3, V.non])) := upd_same
    have nif : it ≠ fl := (ne_of_none ((s2.trans w16) _ _ ef1) hit).symm
    have nid : it ≠ d := (dr1.same (s2.trans w16)).ne hit
    revert w17 iA eit
    generalize upd (upd H15 l2 (.lst [.ref f3, V.non])) it (.lst ([.ref f1, .ref f2] ++ [.ref f3, V.non])) = H17
    have l4 : ([V.ref f1, V.ref f2] ++ [V.ref f3, V.non]).length = 4 := rfl
    generalize [V.ref f1, V.ref f2] ++ [V.ref f3, V.non] = its at l4
    intro w17 iA eit
    clear i1 i2 i3 x17 x16 x15 x14 x13 x12 x11 x10 x9 x8 x7 x6 x5 x4 x3 x1 hit hl2 hod k15 k14 k13 k11 k9 k8 k7 k5 k4 k3 w1016 w16 w13 w11 w10 w49 w7 w5 w4 hq3 hq2 hq1
    refine ⟨it, rfl, ⟨_, SqL.of eit⟩, for_list (K := K) (a := it) (xs := its) (fun j σ H' => ∃ (w7 : Option V) (ac : List V), σ = [some (.ref d), some (.ref a), some (.ref t), some (.ref fl), some (.int (i : Int)), some (.ref p5), some (.ref od), w7] ∧ H' fl = some (.lst ac) ∧ ac.length = 3 + j ∧ (∀ x ∈ ac, OthV K d fl H' x) ∧ H' a = some (.lst xs) ∧ H' t = some (.tup (fourVals u)) ∧ H' it = some (.lst its) ∧ But d H H' ∧ NL H17 H' ∧ Dr PT d (n + 1) H')
      ⟨none, acc, rfl, w17 _ _ ef1, by rw [lacc], (fun x hx => (oB x hx).same w17), w17 _ _ ha1, w17 _ _ ht1, eit, bH1.trans (But.of w17), NL.of (Same.refl _), dr1.same w17⟩ (fun j σ H' _ h => ?_) ?_ ?_⟩
    · obtain ⟨_, _, _, _, _, _, _, _, e, _⟩ := h
      exact SqL.of e
    · rintro j x σ H' hx ⟨w7, ac, rfl, efl, lac, oC, eaC, etC, eiC, bC, nC, drC⟩
      have hj : j < 4 := by
        have := (List.getElem?_eq_some_iff.mp hx).1
        omega
      have hRC := (hRB.same (NL.of w17)).same nC
      obtain ⟨o, hvo, hgo⟩ := (iA x (List.mem_of_getElem? hx)).same nC
      obtain ⟨ss1, hs1, hm1, ln1⟩ := hRC.cut none (some (i : Int))
      obtain ⟨ss2, hs2, hm2, ln2⟩ := hRC.cut (some ((i : Int) + 1)) none
      have lc1 := len_cut xs none (some (i : Int))
      have lc2 := len_cut xs (some ((i : Int) + 1)) none
      refine ⟨_, rfl, .inl ⟨rfl, _, SqL.of efl⟩, _, rfl, _, rfl, _, rfl, a, xs, rfl, SqL.of eaC, fun b1 hb1 => ?_⟩
      have x1 := same_upd hb1 (o := .lst (cutV xs none (some (i : Int))))
      refine ⟨_, rfl, (by show 1 ≤ sizeLine; decide), fun b2 hb2 => ?_⟩
      have x2 := same_upd hb2 (o := .lst [x])
      refine ⟨b1, b2, _, _, rfl, rfl, x2 _ _ upd_same, upd_same, sz _ (by show (cutV xs none (some (i : Int))).length + 1 ≤ _; omega), fun b3 hb3 => ?_⟩
      have x3 := same_upd hb3 (o := .lst (cutV xs none (some (i : Int)) ++ [x]))
      have w3 := x1.trans (x2.trans x3)
      refine ⟨_, rfl, _, rfl, _, _, rfl, rfl, _, rfl, nopart ⟨a, xs, rfl, SqL.of (w3 _ _ eaC), fun b4 hb4 => ?_⟩⟩
      have x4 := same_upd hb4 (o := .lst (cutV xs (some ((i : Int) + 1)) none))
      refine ⟨b3, b4, _, _, rfl, rfl, x4 _ _ upd_same, upd_same, sz _ (by rw [List.length_append]; show (cutV xs none (some (i : Int))).length + 1 + _ ≤ _; omega), fun b5 hb5 => ?_⟩
      have x5 := same_upd hb5 (o := .lst (cutV xs none (some (i : Int)) ++ [x] ++ cutV xs (some ((i : Int) + 1)) none))
      have w5 := w3.trans (x4.trans x5)
      refine ⟨_, rfl, (by show 2 ≤ sizeLine; decide), fun b6 hb6 => ?_⟩
      have x6 := same_upd hb6 (o := .tup [.ref b5, .ref t])
      have w6 := w5.trans x6
      have ef6 := w6 _ _ efl
      have hnew : OthV K d fl _ (.ref b6) := ⟨b6, b5, t, _, ss1 ++ [o] ++ ss2, u, rfl, upd_same, x6 _ _ upd_same, (drC.same (w3.trans x4)).ne hb5, (ne_of_none ((w3.trans x4) _ _ efl) hb5).symm, ((hs1.same (NL.of w6)).app (Rws.one (hvo.same (NL.of w6)))).app (hs2.same (NL.of w6)), good_app (good_app (good_sub hG hm1) (good_one hgo)) (good_sub hG hm2), by rw [List.length_append, List.length_append, List.length_singleton]; omega, .inl (.inl (w6 _ _ etC)), u1, u2, u3⟩
      refine ⟨fl, _, _, rfl, rfl, ef6, Nat.lt_of_lt_of_le (show ac.length < 1000 by omega) (by decide), ?_⟩
      refine ⟨_, _, rfl, upd_same, by rw [List.length_append, lac]; rfl, oth_push ef6 (fun y hy => (oC y hy).same w6) hnew, ?_, ?_, ?_, (bC.trans (But.of w6)).mut ?_, nC.trans ((NL.of w6).trans (NL.at_ ef6)), (drC.same w6).upd nfd⟩
      · rw [upd_ne nfa]
        exact w6 _ _ eaC
      · rw [upd_ne (fun z => by rw [z, efl] at etC; cases etC)]
        exact w6 _ _ etC
      · rw [upd_ne nif]
        exact w6 _ _ eiC
      · exact y6.free hfl
    · rintro σ H' ⟨w7, ac, rfl, efl, lac, oC, eaC, etC, eiC, bC, nC, drC⟩
      have hRC := (hRB.same (NL.of w17)).same nC
      obtain ⟨ss1, hs1, hm1, ln1⟩ := hRC.cut none (some (i : Int))
      obtain ⟨ss2, hs2, hm2, ln2⟩ := hRC.cut (some ((i : Int) + 1)) none
      have lc1 := len_cut xs none (some (i : Int))
      have lc2 := len_cut xs (some ((i : Int) + 1)) none
      refine ⟨_, rfl, _, rfl, _, rfl, _, rfl, a, xs, rfl, SqL.of eaC, fun b1 hb1 => ?_⟩
      have x1 := same_upd hb1 (o := .lst (cutV xs none (some (i : Int))))
      refine ⟨_, rfl, _, rfl, _, _, rfl, rfl, _, rfl, nopart ⟨a, xs, rfl, SqL.of (x1 _ _ eaC), fun b4 hb4 => ?_⟩⟩
      have x4 := same_upd hb4 (o := .lst (cutV xs (some ((i : Int) + 1)) none))
      refine ⟨b1, b4, _, _, rfl, rfl, x4 _ _ upd_same, upd_same, sz _ (by omega), fun b5 hb5 => ?_⟩
      have x5 := same_upd hb5 (o := .lst (cutV xs none (some (i : Int)) ++ cutV xs (some ((i : Int) + 1)) none))
      have w5 := x1.trans (x4.trans x5)
      refine ⟨_, rfl, (by show 2 ≤ sizeLine; decide), fun b6 hb6 => ?_⟩
      have x6 := same_upd hb6 (o := .tup [.ref b5, .ref t])
      have w6 := w5.trans x6
      refine ⟨(by show 1 ≤ sizeLine; decide), fun b7 hb7 => ?_⟩
      have x7 := same_upd hb7 (o := .lst [.ref b6])
      have w7' := w6.trans x7
      refine ⟨fl, b7, _, _, rfl, rfl, w7' _ _ efl, upd_same, sz _ (by rw [lac]; show 3 + its.length + 1 ≤ _; omega), fun l hl' => ?_⟩
      have x8 := same_upd hl' (o := .lst (ac ++ [.ref b6]))
      have w8 := w7'.trans x8
      have x68 := x6.trans (x7.trans x8)
      refine q _ l fl _ (bC.trans (But.of w8)) upd_same (by rw [List.length_append, lac]; show 3 + its.length + 1 ≤ 100; omega) fun v hv => ?_
      rcases List.mem_append.mp hv with hv | hv
      · exact (oC v hv).same w8
      · rw [List.mem_singleton.mp hv]
        exact ⟨b6, b5, t, _, ss1 ++ ss2, u, rfl, (x7.trans x8) _ _ upd_same, x68 _ _ upd_same, (drC.same (x1.trans x4)).ne hb5, (ne_of_none ((x1.trans x4) _ _ efl) hb5).symm, (hs1.same (NL.of w8)).app (hs2.same (NL.of w8)), good_app (good_sub hG hm1) (good_sub hG hm2), by rw [List.length_append]; omega, .inl (.inl (w8 _ _ etC)), u1, u2, u3⟩
end
end KB
namespace KB
open PySem PySem.Spec PyProof.Rows L2 KA
def restL : List Str → List Nat
  | [] => []
  | t :: ts => TL.tl ", " ++ (TL.tl t ++ restL ts)
theorem tf_rest : ∀ (ts : List Str) (k : Nat) (acc : Str), TL.tl (textFrom (k + 1) acc ts) = TL.tl acc ++ restL ts
  | [], k, acc => (List.append_nil _).symm
  | t :: ts, k, acc => by
    show TL.tl (textFrom (k + 1 + 1) (acc ++ (if k + 1 > 0 then ", " else "" : String) ++ t) ts) = _
    rw [tf_rest ts (k + 1), if_pos (by omega), TL.tl_append, TL.tl_append, List.append_assoc, List.append_assoc]
    rfl
theorem join_rest (t : Str) : ∀ ts : List Str, TL.joinL (TL.tl ", ") ((t :: ts).map TL.tl) = TL.tl t ++ restL ts := by
  intro ts
  induction ts generalizing t with
  | nil => exact (List.append_nil _).symm
  | cons s ts ih =>
    show TL.tl t ++ (TL.tl ", " ++ TL.joinL (TL.tl ", ") ((s :: ts).map TL.tl)) = _
    rw [ih s]
    rfl
theorem list_join (ts : List Str) : TL.tl (listText ts) = TL.tl "[" ++ (TL.tl (Txt.join ", " ts) ++ TL.tl "]") := by
  unfold listText
  rw [TL.tl_append, TL.join_eq, TL.tl_join]
  cases ts with
  | nil => rfl
  | cons t ts =>
    show TL.tl (textFrom (0 + 1) ("[" ++ (if 0 > 0 then ", " else "" : String) ++ t) ts) ++ _ = _
    rw [tf_rest, join_rest, if_neg (by decide), TL.tl_append, TL.tl_append]
    simp only [List.append_assoc]
    rfl
theorem join_leL (ts : List Str) : (Txt.join ", " ts).length ≤ (listText ts).length := by
  rw [TL.len_tl, TL.len_tl, list_join, List.length_append, List.length_append]
  omega
theorem repr_text (rs : List (Option Rw)) (u : Rl) : "String([" ++ Txt.join ", " (rs.map beadR) ++ "], " ++ (Str.empty ++ "Rule(least=" ++ Str.ofString (toString u.lo) ++ ", most=" ++ Str.ofString (toString u.hi) ++ ", ") ++ (Str.empty ++ "match=" ++ Str.ofString (toString u.far) ++ ", shades=" ++ shB u.shd ++ "))") = stringRepr rs u := by
  refine TL.ext_tl ?_
  unfold stringRepr ruleText
  have e1 : TL.tl "String([" = TL.tl "String(" ++ TL.tl "[" := by decide +kernel
  have e2 : TL.tl "], " = TL.tl "]" ++ TL.tl ", " := by decide +kernel
  have e3 : TL.tl "))" = TL.tl ")" ++ TL.tl ")" := by decide +kernel
  have e4 : TL.tl ", match=" = TL.tl ", " ++ TL.tl "match=" := by decide +kernel
  have e5 : TL.tl Str.empty = [] := by decide +kernel
  simp only [TL.tl_append, list_join, e1, e2, e3, e4, e5, List.append_assoc, List.nil_append]
theorem rule_len {u : Rl} (h : SmallRl u) : (ruleText u).length ≤ 1000 := by
  obtain ⟨⟨g1, g2, g3⟩, g4, g5⟩ := h
  have n1 := num_le9 g1 (by omega)
  have n2 := num_le9 (n := u.hi) (by omega) g4
  have n3 := num_le9 g3 g5
  have c0 : Str.empty.length ≤ 0 := by decide +kernel
  have c1 := app_le c0 (show ("Rule(least=" : Str).length ≤ 20 by decide +kernel)
  have c2 := app_le c1 n1
  have c3 := app_le c2 (show (", most=" : Str).length ≤ 20 by decide +kernel)
  have c4 := app_le c3 n2
  have c5 := app_le c4 (show (", match=" : Str).length ≤ 20 by decide +kernel)
  have c6 := app_le c5 n3
  have c7 := app_le c6 (show (", shades=" : Str).length ≤ 20 by decide +kernel)
  have c8 := app_le c7 (shB_le u.shd)
  have c9 := app_le c8 (show (")" : Str).length ≤ 20 by decide +kernel)
  exact Nat.le_trans c9 (by decide)
theorem small_of {u : Rl} (h : GoodU u) : SmallRl u := by
  obtain ⟨g, g4, g5⟩ := h
  have e : (10 : Int) ^ 59 = 100000000000000000000000000000000000000000000000000000000000 := by decide
  exact ⟨g, by omega, by omega⟩
def natsD (js : List Nat) : PyData := .list (js.map fun j => .int (j : Nat))
theorem natsD_ok : ∀ js : List Nat, PyData.canLayAll0 (js.map fun j => PyData.int (j : Nat)) = true ∧ PyData.depthAll (js.map fun j => PyData.int (j : Nat)) ≤ 1
  | [] => ⟨rfl, by decide⟩
  | j :: js => by
    obtain ⟨a, b⟩ := natsD_ok js
    refine ⟨?_, ?_⟩
    · show (true && PyData.canLayAll0 (js.map fun j => PyData.int (j : Nat))) = true
      rw [a]
      rfl
    · show max 0 (PyData.depthAll (js.map fun j => PyData.int (j : Nat))) ≤ 1
      omega
theorem natsD_sh (js : List Nat) : SeqAt.shaped (natsD js) = true := by
  obtain ⟨a, b⟩ := natsD_ok js
  show (PyData.canLayAll0 (js.map fun j => PyData.int (j : Nat)) && decide (PyData.depthAll (js.map fun j => PyData.int (j : Nat)) + 1 ≤ 64)) = true
  rw [a, decide_eq_true (by omega)]
  rfl
theorem nats_dp {K : PySem.W.Frag} {H : Hp} {l : Addr} {js : List Nat} (h : H l = some (.lst (js.map fun j => V.int (j : Nat)))) : Dp K H (.ref l) (natsD js) :=
  .lst (SqL.of h) (dpAll_of (by rw [List.length_map]) fun j v hv => by
    rw [List.getElem?_map] at hv
    cases e : js[j]? with
    | none => rw [e] at hv; cases hv
    | some i =>
      rw [e] at hv
      cases hv
      exact ⟨i, rfl, .int _⟩)
theorem texts_of {f : Option Rw → Str} {acc : List V} {rs : List (Option Rw)} (l : acc.length = rs.length) (g : ∀ (j : Nat) (v : V), acc[j]? = some v → ∀ o, rs[j]? = some o → v = .str (f o)) : acc = (rs.map f).map V.str := by
  refine List.ext_getElem? fun i => ?_
  by_cases hi : i < acc.length
  · have hi2 : i < rs.length := by omega
    have := g i _ (List.getElem?_eq_getElem hi) _ (List.getElem?_eq_getElem hi2)
    rw [List.getElem?_eq_getElem hi, this, List.getElem?_map, List.getElem?_map, List.getElem?_eq_getElem hi2]
    rfl
  · rw [List.getElem?_eq_none (by omega), List.getElem?_eq_none (by rw [List.length_map, List.length_map]; omega)]
section
variable {P : Program} {w : World} {K : PySem.W.Frag} {mg : Str → Option Value} {base : Heap}
def spRight (K : PySem.W.Frag) (CB CR C : Addr) : Sp := fun vs H Q _ => ∃ (s a t : Addr) (xs : List V) (rs : List (Option Rw)) (u : Rl), vs = [.ref s, .ref a, .ref t] ∧ SV CB CR C H s rs u ∧ H a = some (.lst xs) ∧ Rws K H xs rs ∧ AllGood rs ∧ rs.length ≤ 200 ∧ H t = some (.tup (fourVals u)) ∧ GoodU u ∧ ∀ H', Same H H' → Q (.bl true) H'
theorem ok_right (T : Tx K mg) : FnG P w K mg base CX0 11 T.A_right T.fd_right ["_law_string", "_law_rows_here", "_law_four"] (spRight K T.C_Bead T.C_Rule T.C_String) := by
  refine fun_okG T.F_right sc_right (fun vs H Q E h => ?_) (fun cdv A outer s H vs Q E hr gd h => ?_)
  · obtain ⟨s1, a, t, xs, rs, u, rfl, hsv, ha, hR, hG, hl, ht, hU, q⟩ := h
    rfl
  obtain ⟨s1, a, t, xs, rs, u, rfl, hsv, ha, hR, hG, hl, ht, hU, q⟩ := h
  refine ⟨_, (pss_cons (ps_setLc (i := 3) (own := [("_law_row", 7)]) (g := gName 7) (tt := tYes) rfl sc_right.nd rfl rfl (sw_true rfl rfl rfl (by decide +kernel)) (pi_list (pv 1)) (blkOk_by (N := ["_law_string", "_law_rows_here", "_law_four", "_law_shown_here", "_law_told", "_law_gaps", "_law_text", "_law_row", "_law_at", "_law_bead_here", "_law_one_here"]) (sc := defScope s_right) (by decide +kernel)) (fun _ _ _ _ _ => (pg_name (i := 7) sc_right.nd rfl (Or.inl rfl))) (fun _ _ _ _ _ => pts_nil) (fun _ _ _ _ _ => (pe_call (ok_shown T) (hr.mono (by decide)) (by rfl) T.g_shown T.F_shown.kp T.b_shown .nil pass0 (pa_cons (pv 7) pa_nil))))
      (pss_cons (ps_set (i := 4) sc_right.nd rfl (Or.inl rfl) (pe_meth0 (pv 0) T.cl_String T.m_String_beads (ok_String_beads T) (hr.mono (by decide)) T.b_String_beads .nil pass0))
      (pss_cons (ps_if (pt_cmpR (op_neD hr.units) (pe_lc (own := [("_law_bead_here", 9)]) (g := gName 9) (tt := tYes) rfl sc_right.nd (pi_list (pv 4)) (blkOk_by (N := ["_law_string", "_law_rows_here", "_law_four", "_law_shown_here", "_law_told", "_law_gaps", "_law_text", "_law_row", "_law_at", "_law_bead_here", "_law_one_here"]) (sc := defScope s_right) (by decide +kernel)) (fun _ _ _ _ _ => (pg_name (i := 9) sc_right.nd rfl (Or.inl rfl))) (fun _ _ _ _ _ => pts_nil) (fun _ _ _ _ _ => (pe_andW (K' := K) rfl (pv 9) (pe_one (pe_meth0 (pv 9) T.cl_Bead T.m_Bead_row (ok_Bead_row T) (hr.mono (by decide)) T.b_Bead_row .nil pass0))))) (pv 1) (nomark _)) (pss_one (ps_ret pe_bl)) pss_nil)
      (pss_cons (ps_setLc (i := 5) (own := [("_law_at", 8)]) (g := gName 8) (tt := _) rfl sc_right.nd rfl rfl (sw_true rfl rfl rfl (by decide +kernel)) (pi_range1 (by rfl) T.z_range (pa_cons (pe_callB call_len_seq (by rfl) T.z_len PySem.boot_len (pa_cons (pv 1) pa_nil)) pa_nil)) (blkOk_by (N := ["_law_string", "_law_rows_here", "_law_four", "_law_shown_here", "_law_told", "_law_gaps", "_law_text", "_law_row", "_law_at", "_law_bead_here", "_law_one_here"]) (sc := defScope s_right) (by decide +kernel)) (fun _ _ _ _ _ => (pg_name (i := 8) sc_right.nd rfl (Or.inl rfl))) (fun _ _ _ _ _ => (pts_one (pt_cmpR op_isN (pe_ix (ix_listK (K' := K) rfl) (pv 1) (pv 8) (fun _ _ => rfl)) pe_non (nomark _)))) (fun _ _ _ _ _ => (pv 8)))
      (pss_cons (ps_if (PW.pt (pw_or (pt_cmpR (op_neD hr.units) (pe_meth0 (pv 0) T.cl_String T.m_String_gaps (ok_String_gaps T) (hr.mono (by decide)) T.b_String_gaps .nil pass0) (pv 5) (nomark _)) (pw_or1 (pt_cmpR op_ne (pe_callB (call_lenO (E := E0) (ok_String_len T) T.m_String_len.at_ T.m_String_len.fn T.b_String_len pass0 (hr.mono (by decide))) (by rfl) T.z_len PySem.boot_len (pa_cons (pv 0) pa_nil)) (pe_callB call_len_seq (by rfl) T.z_len PySem.boot_len (pa_cons (pv 1) pa_nil)) (nomark _))))) (pss_one (ps_ret pe_bl)) pss_nil)
      (pss_cons (ps_if (PW.pt (pw_or (pt_cmpR op_ne (pe_callTy (call_strO (E := E0) (ok_String_str T) T.m_String_str.at_ T.m_String_str.fn T.b_String_str pass0 (hr.mono (by decide))) (by rfl) T.z_str (by decide +kernel) (pa_cons (pv 0) pa_nil)) (pe_bm PySem.F.plainAttrs_str PySem.F.slot_str_join PySem.F.type_str_join mt_join pe_str (pa_cons (pe_lc (own := [("_law_one_here", 10)]) (g := gName 10) (tt := tYes) rfl sc_right.nd (pi_list (pv 3)) (blkOk_by (N := ["_law_string", "_law_rows_here", "_law_four", "_law_shown_here", "_law_told", "_law_gaps", "_law_text", "_law_row", "_law_at", "_law_bead_here", "_law_one_here"]) (sc := defScope s_right) (by decide +kernel)) (fun _ _ _ _ _ => (pg_name (i := 10) sc_right.nd rfl (Or.inl rfl))) (fun _ _ _ _ _ => pts_nil) (fun _ _ _ _ _ => (pe_ix (ix_tupK (K' := K) rfl) (pv 10) pe_int (fun _ _ => rfl)))) pa_nil)) (nomark _)) (pw_or1 (pt_cmpR op_ne (pe_callTy (call_boolO (E := E0) (ok_String_len T) T.bb_String T.m_String_len.at_ T.m_String_len.fn T.b_String_len pass0 (hr.mono (by decide))) (by rfl) T.z_bool (by decide +kernel) (pa_cons (pv 0) pa_nil)) (pe_cmpR (op_neD hr.units) (pv 1) (pe_lst pa_nil) (nomark _)) (nomark _))))) (pss_one (ps_ret pe_bl)) pss_nil)
      (pss_cons (ps_set (i := 6) sc_right.nd rfl (Or.inl rfl) (pe_op op_add_str (pe_op op_add_str pe_str (pe_bm PySem.F.plainAttrs_str PySem.F.slot_str_join PySem.F.type_str_join mt_join pe_str (pa_cons (pe_lc (own := [("_law_one_here", 10)]) (g := gName 10) (tt := tYes) rfl sc_right.nd (pi_list (pv 3)) (blkOk_by (N := ["_law_string", "_law_rows_here", "_law_four", "_law_shown_here", "_law_told", "_law_gaps", "_law_text", "_law_row", "_law_at", "_law_bead_here", "_law_one_here"]) (sc := defScope s_right) (by decide +kernel)) (fun _ _ _ _ _ => (pg_name (i := 10) sc_right.nd rfl (Or.inl rfl))) (fun _ _ _ _ _ => pts_nil) (fun _ _ _ _ _ => (pe_ix (ix_tupK (K' := K) rfl) (pv 10) pe_int (fun _ _ => rfl)))) pa_nil))) pe_str))
      (pss_cons (ps_set (i := 6) sc_right.nd rfl (Or.inl rfl) (pe_op op_add_str (pv 6) (pe_joined (PJ.cons pe_str (PJ.cons (pe_fmtB (pe_ix ix_tup (pv 2) pe_int (fun _ _ => rfl))) (PJ.cons pe_str (PJ.cons (pe_fmtB (pe_ix ix_tup (pv 2) pe_int (fun _ _ => rfl))) (PJ.cons pe_str PJ.nil))))))))
      (pss_cons (ps_if (pt_cmpR op_ne (pe_callB (call_reprOG (E := E0) (ok_String_repr T) T.m_String_repr.at_ T.m_String_repr.fn T.b_String_repr pass0 (hr.mono (by decide)) gd) (by rfl) T.z_repr (by decide +kernel) (pa_cons (pv 0) pa_nil)) (pe_op op_add_str (pv 6) (pe_joined (PJ.cons pe_str (PJ.cons (pe_fmtB (pe_ix ix_tup (pv 2) pe_int (fun _ _ => rfl))) (PJ.cons pe_str (PJ.cons (pe_fmtB (pe_ix ix_tup (pv 2) pe_int (fun _ _ => rfl))) (PJ.cons pe_str PJ.nil))))))) (nomark _)) (pss_one (ps_ret pe_bl)) pss_nil)
      (pss_cons (ps_expr (pe_bm PySem.F.plainAttrs_list PySem.F.slot_list_append PySem.F.type_list_append mt_append (pv 4) (pa_cons pe_non pa_nil)))
      (pss_cons (ps_expr (pe_bm PySem.F.plainAttrs_list PySem.F.slot_list_append PySem.F.type_list_append mt_append (pe_meth0 (pv 0) T.cl_String T.m_String_gaps (ok_String_gaps T) (hr.mono (by decide)) T.b_String_gaps .nil pass0) (pa_cons pe_int pa_nil)))
      (pss_one (ps_ret (pe_cmpR (op_own (E := E0) (ok_Rule_eq T) T.m_Rule_eq.at_ T.m_Rule_eq.fn T.b_Rule_eq pass0 (hr.mono (by decide))) (pe_fld (pv 0) rfl) (pe_make T.mk_Rule (ok_Rule_init T) (hr.mono (by decide)) (by rfl) T.g_Rule T.b_Rule_init .nil pass0 (pa_cons (pe_ix ix_tup (pv 2) pe_int (fun _ _ => rfl)) (pa_cons (pe_ix ix_tup (pv 2) pe_int (fun _ _ => rfl)) (pa_cons (pe_ix ix_tup (pv 2) pe_int (fun _ _ => rfl)) (pa_cons (pe_ix ix_tup (pv 2) pe_int (fun _ _ => rfl)) pa_nil))))) (nomark _))))))))))))))), ?_⟩
  obtain ⟨st, m, ys, ⟨dx, h1⟩, h2, h3, dm, h4⟩ := hsv.ex
  have hlx := hR.len
  have hly := h3.len
  have hsm := small_of hU
  obtain ⟨⟨u1, u2, u3⟩, u4, u5⟩ := hU
  refine ⟨_, rfl, a, rfl, ⟨_, SqL.of ha⟩, fun D hD => lc_gen (K := K) hD (SqL.of ha) (by omega) (fun j v H' => ∀ o, rs[j]? = some o → ∃ p, v = .ref p ∧ H' p = some (.tup [.str (beadS o), .str (beadR o)])) (fun j v H1 H2 z h o ho => ?_) ?_ ?_⟩
  · obtain ⟨p, e1, e2⟩ := h o ho
    exact ⟨p, e1, z _ _ (fun _ z => by cases z) e2⟩
  · intro j x H2 R C hx s2 hRv
    obtain ⟨o, ho, hv⟩ := hR.at_ j x hx
    have hv := hv.same (NL.of s2)
    refine ⟨rfl, yesT ⟨_, rfl, x, o, rfl, ?_, fun H3 p s3 e3 => hRv _ _ s3 fun o' ho' => ?_⟩⟩
    · rcases hv with h | ⟨p, r, e1, e2, e3⟩
      · exact .inl h
      · exact .inr ⟨p, r, e1, e2, e3, hG r (by rw [← e2]; exact List.mem_of_getElem? ho)⟩
    · rw [ho] at ho'
      cases ho'
      exact ⟨p, rfl, e3⟩
  intro H1 acc z1 eD lD gD
  have n1 : ∀ {f : Str}, ¬ f = "rule" → ¬ f = "held" → (sf st m).lookup f = none := fun h h' => sf_no _ _ h h'
  refine ⟨_, rfl, s1, dx, _, rfl, z1 _ _ h1, n1 (by decide +kernel) (by decide +kernel), s1, st, m, ys, rfl, ⟨dx, z1 _ _ h1⟩, z1 _ _ h2, fun l hl' => ?_⟩
  have x2 := same_upd hl' (o := .lst ys)
  have z2 := z1.trans x2
  refine ⟨_, rfl, l, rfl, ⟨_, SqL.of upd_same⟩, fun D2 hD2 => lc_gen (K := K) hD2 (SqL.of upd_same) (by omega) (fun j v H' => ∃ o, rs[j]? = some o ∧ RowV K H' v o) (fun j v H1 H2 s ⟨o, h1, h2⟩ => ⟨o, h1, h2.same s⟩) ?_ ?_⟩
  · intro j x H2 R C hx s2 hRv
    obtain ⟨o, ho, hv⟩ := h3.at_ j x hx
    have hv := hv.same (NL.of (z2.trans s2))
    refine ⟨rfl, yesT ⟨_, rfl, ?_⟩⟩
    rcases hv with ⟨rfl, rfl⟩ | ⟨p, r, rfl, rfl, dp, hp⟩
    · exact ⟨false, .inl rfl, iteF (hRv _ _ (Same.refl _) ⟨none, ho, .inl ⟨rfl, rfl⟩⟩)⟩
    · exact ⟨true, .inr ⟨p, _, dp, _, rfl, hp, T.bb_Bead, T.bl_Bead, rfl⟩, iteT ⟨_, rfl, p, dp, _, rfl, hp, bf_no _ (by decide +kernel) (by decide +kernel) (by decide +kernel) (by decide +kernel) (by decide +kernel) (by decide +kernel), p, r, rfl, ⟨dp, hp⟩, fun t ht => hRv _ _ (same_upd ht) ⟨some r, ho, .inr ⟨t, r, rfl, rfl, .inl (.inl upd_same)⟩⟩⟩⟩
  intro H3 acc3 x3 eD3 lD3 gD3
  have z3 := z2.trans x3
  have el3 := x3 _ _ upd_same
  have hR3 : Rws K H3 acc3 rs := ⟨by omega, gD3⟩
  refine ⟨_, rfl, _, _, rws_dp (SqL.of eD3) hR3, rws_dp (SqL.of (z3 _ _ ha)) (hR.same (NL.of z3)), rowsD_shaped hG, rowsD_shaped hG, _, rfl, ?_⟩
  rw [eqv_self (rowsD_shaped hG)]
  refine iteF ?_
  refine ⟨_, rfl, a, xs, rfl, .inl (SqL.of (z3 _ _ ha)), _, rfl, by omega, by omega, fun D4 hD4 => lc_someR (n := ((xs.length : Nat) : Int).toNat) hD4 (by omega) (fun j => (rs.getD j none).isNone) (fun j => V.int (0 + (j : Int))) ?_ ?_⟩
  · intro i H2 R C hi s2 yes no
    have hi' : i < rs.length := by omega
    obtain ⟨v, hv, hrow⟩ := ((hR.same (NL.of z3)).same (NL.of s2)).get (List.getElem?_eq_getElem hi')
    have hg : rs.getD i none = rs[i] := by
      rw [List.getD_eq_getElem?_getD, List.getElem?_eq_getElem hi']
      rfl
    rw [hg] at yes no
    have eat : atI xs (0 + (i : Int)) = some v := by
      rw [Int.zero_add]
      exact atI_nat hv
    refine ⟨rfl, _, rfl, _, rfl, a, xs, _, v, rfl, rfl, SqL.of (s2 _ _ (z3 _ _ ha)), eat, rfl, _, rfl, ?_⟩
    rcases hrow with ⟨rfl, e⟩ | ⟨p, r, rfl, e, hp⟩
    · rw [e] at yes
      exact iteT ⟨_, rfl, yes rfl _ (Same.refl _)⟩
    · rw [e] at no
      exact iteF (no rfl _ (Same.refl _))
  intro H4 x4 eD4
  have z4 := z3.trans x4
  have eG : H4 D4 = some (.lst ((gapsOf rs).map fun j => V.int (j : Nat))) := by
    rw [eD4]
    have e1 : ((xs.length : Nat) : Int).toNat = rs.length := by omega
    have e2 : (fun j : Nat => V.int (0 + (j : Int))) = fun j : Nat => V.int (j : Nat) := funext fun j => by rw [Int.zero_add]
    rw [e1, e2]
    rfl
  refine ⟨_, rfl, s1, dx, _, rfl, z4 _ _ h1, n1 (by decide +kernel) (by decide +kernel), s1, rs, u, rfl, hsv.same z4, by omega, fun H5 g5 x5 _ e5 => ⟨_, rfl, _, _, nats_dp e5, nats_dp (x5 _ _ eG), natsD_sh _, natsD_sh _, _, rfl, ?_⟩⟩
  rw [eqv_self (natsD_sh _)]
  have z5 := z4.trans x5
  refine iteF ⟨_, rfl, s1, dx, _, rfl, z5 _ _ h1, s1, rs, u, rfl, hsv.same z5, by omega, _, rfl, by omega, by omega, _, rfl, a, xs, rfl, .inl (SqL.of (z5 _ _ ha)), rfl, _, rfl, ?_⟩
  rw [hlx, decide_eq_true rfl]
  refine iteF ?_
  refine ⟨_, rfl, s1, dx, _, rfl, z5 _ _ h1, s1, rs, u, rfl, hsv.same z5, hl, hG, fun H6 x6 => ⟨⟨_, rfl⟩, ?_⟩⟩
  have z6 := z5.trans x6
  have k16 : Same H1 H6 := ((x2.trans x3).trans (x4.trans x5)).trans x6
  refine ⟨rfl, _, rfl, D, rfl, ⟨_, SqL.of (k16 _ _ eD)⟩, fun D5 hD5 => lc_gen (K := K) hD5 (SqL.of (k16 _ _ eD)) (by omega) (fun j v H' => ∀ o, rs[j]? = some o → v = .str (beadS o)) (fun j v H1 H2 s h => h) ?_ ?_⟩
  · intro i x H2 R C hi s2 hRv
    have hi' : i < rs.length := by
      have := (List.getElem?_eq_some_iff.mp hi).1
      omega
    obtain ⟨p, rfl, hp⟩ := gD i x hi _ (List.getElem?_eq_getElem hi')
    exact ⟨rfl, yesT ⟨_, rfl, p, _, _, _, rfl, rfl, .inl (.inl (s2 _ _ (k16 _ _ hp))), atI_nat (j := 0) rfl, hRv _ _ (Same.refl _) fun o ho => by
      rw [List.getElem?_eq_getElem hi'] at ho
      cases ho
      rfl⟩⟩
  intro H7 acc7 x7 e7 l7 g7
  have z7 := z6.trans x7
  have k17 := k16.trans x7
  rw [texts_of (f := beadS) (by omega) g7] at e7
  have sumS := sum_le (m := 1000) (xs := rs.map beadS) fun z hz => by
    obtain ⟨o, ho, rfl⟩ := List.mem_map.mp hz
    exact beadS_len fun r hr => hG r (by rw [← hr]; exact ho)
  have sumR := sum_le (m := 1000) (xs := rs.map beadR) fun z hz => by
    obtain ⟨o, ho, rfl⟩ := List.mem_map.mp hz
    exact Nat.le_trans (beadR_len fun r hr => hG r (by rw [← hr]; exact ho)) (by decide)
  rw [List.length_map] at sumS sumR
  refine ⟨_, D5, rs.map beadS, rfl, rfl, .inl (SqL.of e7), ?_, rfl, _, rfl, ?_⟩
  · have e3 : (" | " : Str).length = 3 := by decide +kernel
    rw [e3, List.length_map]
    omega
  have hst : stringText rs = Txt.join " | " (rs.map beadS) := rfl
  rw [decide_eq_true (show V.str (stringText rs) = V.str (Txt.join " | " (rs.map beadS)) from rfl)]
  refine iteF ?_
  refine ⟨_, rfl, s1, dx, _, rfl, z7 _ _ h1, s1, rs, u, rfl, hsv.same z7, by omega, _, rfl, by omega, by omega, _, rfl, Nat.zero_le _, fun l0 hl0 => ?_⟩
  have x8 := same_upd hl0 (o := .lst [])
  have z8 := z7.trans x8
  refine ⟨_, _, rws_dp (SqL.of (z8 _ _ ha)) (hR.same (NL.of z8)), .lst (SqL.of upd_same) .nil, rowsD_shaped hG, rfl, rfl, _, rfl, ?_⟩
  rw [eqv_nil]
  have hbool : decide (V.bl (((rs.length : Nat) : Int) != 0) = V.bl (!rs.isEmpty)) = true := by
    refine decide_eq_true ?_
    congr 1
    cases rs <;> rfl
  rw [hbool]
  refine iteF ?_
  -- the text
  have k18 := k17.trans x8
  have b2 : (", " : Str).length = 2 := by decide +kernel
  refine ⟨rfl, _, rfl, D, rfl, ⟨_, SqL.of (k18 _ _ eD)⟩, fun D6 hD6 => lc_gen (K := K) hD6 (SqL.of (k18 _ _ eD)) (by omega) (fun j v H' => ∀ o, rs[j]? = some o → v = .str (beadR o)) (fun j v H1 H2 s h => h) ?_ ?_⟩
  · intro i x H2 R C hi s2 hRv
    have hi' : i < rs.length := by
      have := (List.getElem?_eq_some_iff.mp hi).1
      omega
    obtain ⟨p, rfl, hp⟩ := gD i x hi _ (List.getElem?_eq_getElem hi')
    exact ⟨rfl, yesT ⟨_, rfl, p, _, _, _, rfl, rfl, .inl (.inl (s2 _ _ (k18 _ _ hp))), atI_nat (j := 1) rfl, hRv _ _ (Same.refl _) fun o ho => by
      rw [List.getElem?_eq_getElem hi'] at ho
      cases ho
      rfl⟩⟩
  intro H9 acc9 x9 e9 l9 g9
  have z9 := z8.trans x9
  rw [texts_of (f := beadR) (by omega) g9] at e9
  have ll : (listText (rs.map beadR)).length ≤ 60600 := by
    have pl := piled_le (m := 300) (ts := rs.map beadR) fun z hz => by
      obtain ⟨o, ho, rfl⟩ := List.mem_map.mp hz
      exact beadR_len fun r hr => hG r (by rw [← hr]; exact ho)
    have := list_le (rs.map beadR)
    rw [List.length_map] at pl
    have : rs.length * 302 ≤ 200 * 302 := Nat.mul_le_mul_right _ hl
    omega
  have jl := Nat.le_trans (join_leL (rs.map beadR)) ll
  have d1 : ("String([" : Str).length ≤ 8 := by decide +kernel
  have d2 : ("], " : Str).length ≤ 3 := by decide +kernel
  have c1 := app_le d1 jl
  have c2 := app_le c1 d2
  refine ⟨_, D6, rs.map beadR, rfl, rfl, .inl (SqL.of e9), ?_, _, _, rfl, rfl, Nat.le_trans (Nat.add_le_add d1 jl) (by decide), _, _, rfl, rfl, Nat.le_trans (Nat.add_le_add c1 d2) (by decide), ?_⟩
  · rw [b2, List.length_map]
    omega
  obtain ⟨⟨u1', u2', u3'⟩, u4', u5'⟩ := id hsm
  have ht9 := z9 _ _ ht
  have n1' := num_le9 u1' (by omega)
  have n2' := num_le9 (n := u.hi) (by omega) u4'
  have n3' := num_le9 u3' u5'
  have f0 : Str.empty.length ≤ 0 := by decide +kernel
  have f1 := app_le f0 (show ("Rule(least=" : Str).length ≤ 11 by decide +kernel)
  have f2 := app_le f1 n1'
  have f3 := app_le f2 (show (", most=" : Str).length ≤ 7 by decide +kernel)
  have f4 := app_le f3 n2'
  have f5 := app_le f4 (show (", " : Str).length ≤ 2 by decide +kernel)
  refine ⟨_, rfl, _, rfl, fit f1, ?_⟩
  refine ⟨_, rfl, t, _, _, _, rfl, rfl, .inl (.inl ht9), atI_nat (j := 0) rfl, .inr (.inl ⟨_, rfl, num_log9 u1' (by omega), _, rfl, fit f2, _, rfl, fit f3, ?_⟩)⟩
  refine ⟨_, rfl, t, _, _, _, rfl, rfl, .inl (.inl ht9), atI_nat (j := 1) rfl, .inr (.inl ⟨_, rfl, num_log9 (n := u.hi) (by omega) u4', _, rfl, fit f4, _, rfl, fit f5, ?_⟩)⟩
  refine ⟨_, _, rfl, rfl, Nat.le_trans (Nat.add_le_add c2 f5) (by decide), ?_⟩
  have c3 := app_le c2 f5
  refine ⟨_, rfl, s1, dx, _, rfl, z9 _ _ h1, s1, rs, u, rfl, hsv.same z9, hl, hG, hsm, rule_len hsm, fun H10 x10 => ⟨⟨_, rfl⟩, ?_⟩⟩
  have z10 := z9.trans x10
  have ht10 := z10 _ _ ht
  have g1 := app_le f0 (show ("match=" : Str).length ≤ 6 by decide +kernel)
  have g2 := app_le g1 n3'
  have g3 := app_le g2 (show (", shades=" : Str).length ≤ 9 by decide +kernel)
  have g4 := app_le g3 (shB_le u.shd)
  have g5 := app_le g4 (show ("))" : Str).length ≤ 2 by decide +kernel)
  refine ⟨_, rfl, _, rfl, fit g1, ?_⟩
  refine ⟨_, rfl, t, _, _, _, rfl, rfl, .inl (.inl ht10), atI_nat (j := 2) rfl, .inr (.inl ⟨_, rfl, num_log9 u3' u5', _, rfl, fit g2, _, rfl, fit g3, ?_⟩)⟩
  refine ⟨_, rfl, t, _, _, _, rfl, rfl, .inl (.inl ht10), atI_nat (j := 3) rfl, .inr (.inr ⟨_, rfl, _, rfl, fit g4, _, rfl, fit g5, ?_⟩)⟩
  refine ⟨_, _, rfl, rfl, Nat.le_trans (Nat.add_le_add c3 g5) (by decide), rfl, _, rfl, ?_⟩
  generalize hgb : decide (V.str (stringRepr rs u) = V.str _) = bb
  have hbb : bb = true := by
    rw [← hgb]
    exact decide_eq_true (congrArg V.str (repr_text rs u).symm)
  subst hbb
  refine iteF ?_
  -- what was told is changed
  have e10 := (((x4.trans x5).trans (x6.trans x7)).trans ((x8.trans x9).trans x10)) _ _ el3
  refine ⟨_, rfl, .inl ⟨rfl, _, SqL.of e10⟩, l, _, _, rfl, rfl, e10, Nat.lt_of_lt_of_le (show ys.length < 1000 by omega) (by decide), ?_⟩
  have z11 : Same H (upd H10 l (.lst (ys ++ [V.non]))) := fun b o e => by
    rw [upd_ne (ne_of_none e (z1.free hl'))]
    exact z10 _ _ e
  refine ⟨_, rfl, s1, dx, _, rfl, z11 _ _ h1, n1 (by decide +kernel) (by decide +kernel), s1, rs, u, rfl, hsv.same z11, by omega, fun H12 g12 x12 f12 e12 => ⟨.inl ⟨rfl, _, SqL.of e12⟩, g12, _, _, rfl, rfl, e12, ?_, ?_⟩⟩
  · rw [List.length_map]
    have : (gapsOf rs).length ≤ rs.length := by
      have := List.length_filter_le (fun j => (rs.getD j none).isNone) (List.range rs.length)
      rw [List.length_range] at this
      exact this
    exact Nat.lt_of_lt_of_le (show (gapsOf rs).length < 1000 by omega) (by decide)
  have z13 : Same H (upd H12 g12 (.lst ((gapsOf rs).map (fun j => V.int (j : Nat)) ++ [V.int 0]))) := fun b o e => by
    rw [upd_ne (ne_of_none e (z11.free f12))]
    exact x12 _ _ (z11 _ _ e)
  have ht13 := z13 _ _ ht
  refine ⟨_, rfl, s1, _, dx, _, _, rfl, z13 _ _ h1, T.cl_String, T.n_String_rule, sf_rule st m, ?_⟩
  refine ⟨_, rfl, t, _, _, _, rfl, rfl, .inl (.inl ht13), atI_nat (j := 0) rfl, _, rfl, t, _, _, _, rfl, rfl, .inl (.inl ht13), atI_nat (j := 1) rfl, _, rfl, t, _, _, _, rfl, rfl, .inl (.inl ht13), atI_nat (j := 2) rfl, _, rfl, t, _, _, _, rfl, rfl, .inl (.inl ht13), atI_nat (j := 3) rfl, ?_⟩
  intro rl dl nx ndx nex
  refine ⟨rl, dl, u, rfl, upd_same, ⟨u1, u2, u3⟩, fun H14 hRl k14 => ⟨rfl, ?_⟩⟩
  have z14 : Same H H14 := fun b o e => k14 b o (by rw [upd_ne (ne_of_none (z13 _ _ e) nx), upd_ne (ne_of_none (z13 _ _ e) ndx)]; exact z13 _ _ e) (ne_of_none (z13 _ _ e) nx)
  obtain ⟨drl, hRl⟩ := hRl
  refine ⟨m, dm, _, .ref T.C_Rule, rfl, z14 _ _ h4, T.ic_Rule.ty T.cl_Rule hRl, by simp [PySem.W.notFirst], m, rl, u, u, rfl, ⟨dm, z14 _ _ h4⟩, ⟨drl, hRl⟩, ⟨_, rfl⟩, ?_⟩
  rw [decide_eq_true rfl]
  exact q _ z14
end
end KB
namespace KB
open PySem PySem.Spec PyProof.Rows L2 KA
theorem reason_str (rs : List (Option Rw)) (u : Rl) (i : Nat) (r : Rw) : reason rs u i r = .non ∨ ∃ s, reason rs u i r = .str s ∧ PyData.canLay0 (.str s) = true := by
  unfold reason
  split
  · exact .inr ⟨_, rfl, by decide +kernel⟩
  · split
    · exact .inr ⟨_, rfl, by decide +kernel⟩
    · split
      · exact .inl rfl
      · split
        · exact .inr ⟨_, rfl, by decide +kernel⟩
        · split
          · exact .inr ⟨_, rfl, by decide +kernel⟩
          · exact .inl rfl
theorem barFrom_str {rs : List (Option Rw)} {u : Rl} : ∀ {k i : Nat} {j : Nat} {x : V}, barFrom rs u k i = some (j, x) → ∃ s, x = .str s ∧ PyData.canLay0 (.str s) = true
  | 0, _, _, _, h => nomatch h
  | k + 1, i, j, x, h => by
    cases e : rs[i]? with
    | none =>
      have h : (match rs[i]? with | some (some r) => _ | _ => barFrom rs u k (i + 1)) = some (j, x) := h
      rw [e] at h
      exact barFrom_str h
    | some o =>
      cases o with
      | none =>
        rw [barFrom_gap e] at h
        exact barFrom_str h
      | some r =>
        by_cases hr : reason rs u i r = .non
        · rw [barFrom_ok e hr] at h
          exact barFrom_str h
        · rw [barFrom_bad e hr] at h
          have h := Option.some.inj h
          have h2 : reason rs u i r = x := congrArg Prod.snd h
          rcases reason_str rs u i r with z | ⟨s, es, hs⟩
          · exact absurd z hr
          · exact ⟨s, by rw [← h2]; exact es, hs⟩
/-- what barred tells, as data -/
def outD (o : Option (Nat × V)) : PyData := match o with
  | some (i, .str s) => .tuple [.int i, .str s]
  | _ => .none
theorem out_dp {K : PySem.W.Frag} {H : Hp} {rs : List (Option Rw)} {u : Rl} {v : V} (h : OutV H (bar rs u) v) : Dp K H v (outD (bar rs u)) ∧ SeqAt.shaped (outD (bar rs u)) = true := by
  cases e : bar rs u with
  | none =>
    rw [e] at h
    have h : v = .non := h
    subst h
    exact ⟨.non, rfl⟩
  | some z =>
    obtain ⟨i, x⟩ := z
    obtain ⟨s, rfl, hs⟩ := barFrom_str e
    rw [e] at h
    obtain ⟨t, rfl, ht⟩ := (show ∃ t, v = .ref t ∧ H t = some (.tup [.int i, .str s]) from h)
    refine ⟨.tup (.inl (.inl ht)) (.cons (.int _) (.cons (.str _) .nil)), ?_⟩
    show (PyData.canLay0 (.tuple [.int i, .str s]) && decide (PyData.depth (.tuple [.int i, .str s]) ≤ 64)) = true
    have : PyData.canLay0 (.tuple [.int i, .str s]) = true := by
      show (true && (PyData.canLay0 (.str s) && true)) = true
      rw [hs]
      rfl
    rw [this]
    rfl
theorem OutV.same {H H' : Hp} {o : Option (Nat × V)} {v : V} (s : NL H H') (h : OutV H o v) : OutV H' o v := by
  cases o with
  | none => exact h
  | some z =>
    obtain ⟨t, e, ht⟩ := h
    exact ⟨t, e, s _ _ (fun _ z => by cases z) ht⟩
theorem room65 {k : Nat} {A : Around} (r : Room k A) : A.units + 65 < cLine := by
  have := r.un
  omega
theorem out_none {H : Hp} {o : Option (Nat × V)} {v : V} (h : OutV H o v) : decide (v = .non) = o.isNone := by
  cases o with
  | none => exact decide_eq_true h
  | some z =>
    obtain ⟨t, e, _⟩ := h
    rw [e]
    rfl
theorem four_str (x : Str) {K : PySem.W.Frag} {H : Hp} : TyX K H (.str x) (.type "str") := .base (.str _)
theorem alike_is (rs ss : List (Option Rw)) (u : Rl) : (([PyData.list (ss.map plainD), PyData.list (ss.reverse.map plainD)] : List PyData).any fun z => PyData.eqv z (.list (rs.map plainD))) = likeSt rs ss u u := by
  show (PyData.eqvAll (ss.map plainD) (rs.map plainD) || (PyData.eqvAll (ss.reverse.map plainD) (rs.map plainD) || false)) = _
  rw [eqv_plains, eqv_plains, Bool.or_false, likeL_symm ss rs, likeL_symm ss.reverse rs]
  unfold likeSt
  rw [decide_eq_true rfl, Bool.true_and]
theorem SV.nl {CB CR C : Addr} {H H' : Hp} {s : Addr} {rs : List (Option Rw)} {u : Rl} (h : SV CB CR C H s rs u) (z : NL H H') : SV CB CR C H' s rs u := by
  obtain ⟨t, m, xs, ⟨dx, h1⟩, h2, h3, dm, h4⟩ := h.ex
  exact ⟨t, m, xs, ⟨dx, z _ _ (fun _ z => by cases z) h1⟩, z _ _ (fun _ z => by cases z) h2, h3.same z, dm, z _ _ (fun _ z => by cases z) h4⟩
theorem rst_mon {K : PySem.W.Frag} {CB CR C : Addr} : ∀ a y b H H', Ext H H' → RSt K CB CR C a y b H → RSt K CB CR C a y b H' := fun a y b H H' e ⟨rs, u, h, q⟩ =>
  ⟨rs, u, h.same e, q.elim (fun ⟨s2, ss, v, h1, h2, h3⟩ => .inl ⟨s2, ss, v, h1, h2.same e, h3⟩) fun ⟨t, h1, h2, h3⟩ => .inr ⟨t, h1, tyx_same e h2, h3⟩⟩
theorem monB_beside {K : PySem.W.Frag} {CB CR C : Addr} : MonB (BFlip K C (RSt K CB CR C)) := monB_flip rst_mon
theorem eqB_beside {X : Cx} (T : Tx X.K X.mg) : EqB X 4 (BFlip X.K T.C_String (RSt X.K T.C_Bead T.C_Rule T.C_String)) :=
  eqB_flip (E := E0) (ok_String_eq (P := X.prog) (w := X.w) (base := X.base) T) T.m_String_eq.at_ T.m_String_eq.fn T.b_String_eq pass0 fun t ht => by
    simp only [List.mem_cons, List.not_mem_nil, or_false] at ht
    rcases ht with rfl | rfl | rfl | rfl | rfl | rfl
    · exact T.sS_int
    · exact T.sS_str
    · exact T.sS_bool
    · exact T.sn_String
    · exact T.sS_list
    · exact T.sS_tuple
section
variable {P : Program} {w : World} {K : PySem.W.Frag} {mg : Str → Option Value} {base : Heap}
def spLaw (K : PySem.W.Frag) : Sp := fun vs H Q _ => ∃ (a : Addr) (ns : List Int), vs = [.ref a] ∧ SqL K H a (ns.map V.int) ∧ ns.length ≤ 63 ∧ ∀ H', Q (.bl true) H'
theorem ok_law {f : Addr} {fd : FuncData} (T : Tx K mg) (F : Fun K "law" "law" s_law f fd) : FnG P w K mg base CX0 18 f fd ["_law_script"] (spLaw K) := by
  refine fun_okG F sc_law (fun vs H Q E h => ?_) (fun cdv A outer s H vs Q E hr gd h => ?_)
  · obtain ⟨a, ns, rfl, hS, hlen, q⟩ := h
    rfl
  obtain ⟨a, ns, rfl, hS, hlen, q⟩ := h
  refine ⟨_, (pss_cons (ps_for PassesOwn.never rfl (pi_list (pe_op op_cat (pe_lst (pa_cons (pe_call (ok_cell_at T) (hr.mono (by decide)) (by rfl) T.g_cell_at T.F_cell_at.kp T.b_cell_at .nil pass0 (pa_cons (pv 0) (pa_cons pe_int pa_nil))) pa_nil)) (pe_slice sl_list (pv 0) (po_some pe_int) (po_some pe_int)))) (pg_name (i := 1) sc_law.nd rfl (Or.inl rfl))
        (pss_cons (ps_set (i := 2) sc_law.nd rfl (Or.inl rfl) (pe_call (ok_well T) (hr.mono (by decide)) (by rfl) T.g_well T.F_well.kp T.b_well .nil pass0 (pa_cons (pv 1) pa_nil)))
      (pss_cons (ps_set (i := 3) sc_law.nd rfl (Or.inl rfl) (pe_call (ok_rule T) (hr.mono (by decide)) (by rfl) T.g_rule T.F_rule.kp T.b_rule .nil pass0 (pa_cons (pv 2) pa_nil)))
      (pss_cons (ps_set (i := 4) sc_law.nd rfl (Or.inl rfl) (pe_call (ok_rows T) (hr.mono (by decide)) (by rfl) T.g_rows T.F_rows.kp T.b_rows .nil pass0 (pa_cons (pv 2) (pa_cons (pe_call (ok_draw T) (hr.mono (by decide)) (by rfl) T.g_draw T.F_draw.kp T.b_draw .nil pass0 (pa_cons (pv 2) (pa_cons pe_int pa_nil))) (pa_cons (pv 3) pa_nil)))))
      (pss_cutJ (ps_if (pt_cmpR op_eq (pe_call (ok_draw T) (hr.mono (by decide)) (by rfl) T.g_draw T.F_draw.kp T.b_draw .nil pass0 (pa_cons (pv 2) (pa_cons pe_int pa_nil))) pe_int (nomark _)) (pss_one (ps_set (i := 4) sc_law.nd rfl (Or.inl rfl) (pe_call (ok_clean T) (hr.mono (by decide)) (by rfl) T.g_clean T.F_clean.kp T.b_clean .nil pass0 (pa_cons (pv 2) (pa_cons (pe_call (ok_one T) (hr.mono (by decide)) (by rfl) T.g_one T.F_one.kp T.b_one .nil pass0 (pa_cons (pv 2) (pa_cons (pe_lst (pa_cons pe_int (pa_cons (pe_call (ok_draw T) (hr.mono (by decide)) (by rfl) T.g_draw T.F_draw.kp T.b_draw .nil pass0 (pa_cons (pv 2) (pa_cons pe_int pa_nil))) pa_nil))) pa_nil))) (pa_cons (pv 3) pa_nil)))))) pss_nil)
      (pss_cons (ps_setLc (i := 5) (own := [("_law_row", 12)]) (g := gName 12) (tt := tYes) rfl sc_law.nd rfl rfl (sw_true rfl rfl rfl (by decide +kernel)) (pi_list (pv 4)) (blkOk_by (N := ["_law_script", "_law_cell", "_law_well_here", "_law_four", "_law_rows_here", "_law_beads", "_law_due", "_law_found", "_law_other", "_law_rule_here", "_law_two", "_law_alike", "_law_row"]) (sc := defScope s_law) (by decide +kernel)) (fun _ _ _ _ _ => (pg_name (i := 12) sc_law.nd rfl (Or.inl rfl))) (fun _ _ _ _ _ => pts_nil) (fun _ _ _ _ _ => (pe_call (ok_bead T) (hr.mono (by decide)) (by rfl) T.g_bead T.F_bead.kp T.b_bead .nil pass0 (pa_cons (pv 12) pa_nil))))
      (pss_cons (ps_set (i := 6) sc_law.nd rfl (Or.inl rfl) (pe_call (ok_why T) (hr.mono (by decide)) (by rfl) T.g_why T.F_why.kp T.b_why .nil pass0 (pa_cons (pv 4) (pa_cons (pv 3) pa_nil))))
      (pss_cons (ps_set (i := 7) sc_law.nd rfl (Or.inl rfl) (pe_call (ok_made T) (hr.mono (by decide)) (by rfl) T.g_made T.F_made.kp T.b_made .nil pass0 (pa_cons (pv 5) (pa_cons (pe_make T.mk_Rule (ok_Rule_init T) (hr.mono (by decide)) (by rfl) T.g_Rule T.b_Rule_init .nil pass0 (pa_cons (pe_ix ix_tup (pv 3) pe_int (fun _ _ => rfl)) (pa_cons (pe_ix ix_tup (pv 3) pe_int (fun _ _ => rfl)) (pa_cons (pe_ix ix_tup (pv 3) pe_int (fun _ _ => rfl)) (pa_cons (pe_ix ix_tup (pv 3) pe_int (fun _ _ => rfl)) pa_nil))))) pa_nil))))
      (pss_cons (ps_expr (pe_bm0 PySem.F.plainAttrs_list PySem.F.slot_list_reverse PySem.F.type_list_reverse mt_reverse (pv 5)))
      (pss_cons (ps_expr (pe_bm PySem.F.plainAttrs_list PySem.F.slot_list_append PySem.F.type_list_append mt_append (pv 5) (pa_cons pe_non pa_nil)))
      (pss_cons (ps_if (PW.pt (pw_and (pt_cmpR op_notN (pv 6) pe_non (nomark _)) (pw_and1 (pt_cmpR (op_neD hr.units) (pv 7) (pe_op op_catA (pe_tup (pa_cons pe_str (pa_cons pe_bl pa_nil))) (pv 6)) (nomark _))))) (pss_one (ps_ret pe_bl)) pss_nil)
      (pss_cons (ps_if (PW.pt (pw_and (pt_cmpR op_isN (pv 6) pe_non (nomark _)) (pw_and1 (PW.pt (pw_or (pt_cmpR op_ne (pe_ix ix_tup (pv 7) pe_int (fun _ _ => rfl)) pe_str (nomark _)) (pw_or1 (pt_not (pt_val (pe_callG (ok_right T) (hr.mono (by decide)) gd (by rfl) T.g_right T.F_right.kp T.b_right .nil pass0 (pa_cons (pe_ix ix_tup (pv 7) pe_int (fun _ _ => rfl)) (pa_cons (pv 4) (pa_cons (pv 3) pa_nil)))))))))))) (pss_one (ps_ret pe_bl)) pss_nil)
      (pss_one (ps_if (pt_cmpR op_isN (pv 6) pe_non (nomark _)) (pss_cons (ps_for PassesOwn.never rfl (pi_list (pe_call (ok_others T) (hr.mono (by decide)) (by rfl) T.g_others T.F_others.kp T.b_others .nil pass0 (pa_cons (pv 2) (pa_cons (pv 4) (pa_cons (pv 3) pa_nil))))) (pg_tup (by rfl) (pgs_cons (pg_name (i := 8) sc_law.nd rfl (Or.inl rfl)) (pgs_cons (pg_name (i := 9) sc_law.nd rfl (Or.inl rfl)) pgs_nil)))
        (pss_one (ps_if (pt_cmpR op_isN (pe_call (ok_why T) (hr.mono (by decide)) (by rfl) T.g_why T.F_why.kp T.b_why .nil pass0 (pa_cons (pv 8) (pa_cons (pv 9) pa_nil))) pe_non (nomark _)) (pss_cons (ps_set (i := 10) sc_law.nd rfl (Or.inl rfl) (pe_make T.mk_String (ok_String_init T) (hr.mono (by decide)) (by rfl) T.g_String T.b_String_init .nil passF (pa_cons (pe_lc (own := [("_law_row", 12)]) (g := gName 12) (tt := tYes) rfl sc_law.nd (pi_list (pv 8)) (blkOk_by (N := ["_law_script", "_law_cell", "_law_well_here", "_law_four", "_law_rows_here", "_law_beads", "_law_due", "_law_found", "_law_other", "_law_rule_here", "_law_two", "_law_alike", "_law_row"]) (sc := defScope s_law) (by decide +kernel)) (fun _ _ _ _ _ => (pg_name (i := 12) sc_law.nd rfl (Or.inl rfl))) (fun _ _ _ _ _ => pts_nil) (fun _ _ _ _ _ => (pe_call (ok_bead T) (hr.mono (by decide)) (by rfl) T.g_bead T.F_bead.kp T.b_bead .nil pass0 (pa_cons (pv 12) pa_nil)))) (pa_cons (pe_make T.mk_Rule (ok_Rule_init T) (hr.mono (by decide)) (by rfl) T.g_Rule T.b_Rule_init .nil pass0 (pa_cons (pe_ix ix_tup (pv 9) pe_int (fun _ _ => rfl)) (pa_cons (pe_ix ix_tup (pv 9) pe_int (fun _ _ => rfl)) (pa_cons (pe_ix ix_tup (pv 9) pe_int (fun _ _ => rfl)) (pa_cons (pe_ix ix_tup (pv 9) pe_int (fun _ _ => rfl)) pa_nil))))) pa_nil))))
      (pss_cons (ps_set (i := 11) sc_law.nd rfl (Or.inl rfl) (pe_and (pe_cmpR (op_eqD hr.units) (pv 9) (pv 3) (nomark _)) (pe_one (pe_cmpR (op_inTD (room65 hr)) (pe_call (ok_plain T) (hr.mono (by decide)) (by rfl) T.g_plain T.F_plain.kp T.b_plain .nil pass0 (pa_cons (pv 4) pa_nil)) (pe_tup (pa_cons (pe_call (ok_plain T) (hr.mono (by decide)) (by rfl) T.g_plain T.F_plain.kp T.b_plain .nil pass0 (pa_cons (pv 8) pa_nil)) (pa_cons (pe_revL (pe_call (ok_plain T) (hr.mono (by decide)) (by rfl) T.g_plain T.F_plain.kp T.b_plain .nil pass0 (pa_cons (pv 8) pa_nil))) pa_nil))) (by rfl)))))
      (pss_one (ps_if (PW.pt (pw_or (pt_cmpR op_ne (pe_cmpR (op_own (E := E0) (ok_String_eq T) T.m_String_eq.at_ T.m_String_eq.fn T.b_String_eq pass0 (hr.mono (by decide))) (pe_ix ix_tup (pv 7) pe_int (fun _ _ => rfl)) (pv 10) (nomark _)) (pv 11) (nomark _)) (pw_or1 (pt_cmpR op_ne (pe_cmpR (op_own (E := E0) (ok_String_eq T) T.m_String_eq.at_ T.m_String_eq.fn T.b_String_eq pass0 (hr.mono (by decide))) (pv 10) (pe_ix ix_tup (pv 7) pe_int (fun _ _ => rfl)) (nomark _)) (pv 11) (nomark _))))) (pss_one (ps_ret pe_bl)) pss_nil)))) pss_nil)))
      (pss_one (ps_if (PW.pt (pw_or (pt_cmpR (op_inB monB_beside (eqB_beside T) (hr.mono (by decide))) (pe_ix ix_tup (pv 7) pe_int (fun _ _ => rfl)) (pe_lst (pa_cons pe_non (pa_cons (pe_callTy (call_strO (E := E0) (ok_String_str T) T.m_String_str.at_ T.m_String_str.fn T.b_String_str pass0 (hr.mono (by decide))) (by rfl) T.z_str (by decide +kernel) (pa_cons (pe_ix ix_tup (pv 7) pe_int (fun _ _ => rfl)) pa_nil)) (pa_cons (pe_meth0 (pe_ix ix_tup (pv 7) pe_int (fun _ _ => rfl)) T.cl_String T.m_String_beads (ok_String_beads T) (hr.mono (by decide)) T.b_String_beads .nil pass0) (pa_cons pe_int pa_nil))))) (by rfl)) (pw_or1 (pt_not (pt_val (pe_callG (ok_right T) (hr.mono (by decide)) gd (by rfl) T.g_right T.F_right.kp T.b_right .nil pass0 (pa_cons (pe_ix ix_tup (pv 7) pe_int (fun _ _ => rfl)) (pa_cons (pv 4) (pa_cons (pv 3) pa_nil))))))))) (pss_one (ps_ret pe_bl)) pss_nil))) pss_nil))))))))))))))
      (pss_one (ps_ret pe_bl))), ?_⟩
  refine ⟨_, rfl, a, ns, rfl, hS, (by show 1 ≤ sizeLine; decide), fun p hp => ?_⟩
  have s1 : Same H (upd H p (.lst [.int (ns.headD 0)])) := same_upd hp
  refine ⟨_, rfl, _, rfl, _, rfl, a, _, rfl, s1.seq hS, fun p2 hp2 => ?_⟩
  have s2 : Same (upd H p (.lst [.int (ns.headD 0)])) (upd (upd H p (.lst [.int (ns.headD 0)])) p2 (.lst (cutV (ns.map V.int) (some 1) (some 8)))) := same_upd hp2
  have hcut : (cutV (ns.map V.int) (some 1) (some 8)).length ≤ 63 := by
    have := len_cut (ns.map V.int) (some 1) (some 8)
    rw [List.length_map] at this
    omega
  refine ⟨p, p2, _, _, rfl, rfl, s2 _ _ upd_same, upd_same, sz _ (by rw [List.length_singleton]; omega), fun p3 hp3 => ?_⟩
  refine ⟨p3, rfl, ⟨_, SqL.of upd_same⟩, for_list (K := K) (a := p3) (xs := [V.int (ns.headD 0)] ++ cutV (ns.map V.int) (some 1) (some 8)) (fun i σ H' => ∃ w1 w2 w3 w4 w5 w6 w7 w8 w9 w10 w11 w12, σ = [some (.ref a), w1, w2, w3, w4, w5, w6, w7, w8, w9, w10, w11, w12] ∧ H' p3 = some (.lst ([V.int (ns.headD 0)] ++ cutV (ns.map V.int) (some 1) (some 8)))) ⟨_, _, _, _, _, _, _, _, _, _, _, _, rfl, upd_same⟩ (fun i σ H' _ h => ?_) ?_ ?_⟩
  · obtain ⟨_, _, _, _, _, _, _, _, _, _, _, _, _, e⟩ := h
    exact SqL.of e
  rotate_left
  · rintro σ H' ⟨w1, w2, w3, w4, w5, w6, w7, w8, w9, w10, w11, w12, rfl, e0⟩
    exact q H'
  rintro i x σ H0 hi ⟨w1, w2, w3, w4, w5, w6, w7, w8, w9, w10, w11, w12, rfl, e0⟩
  obtain ⟨cell, rfl⟩ := cells_int hi
  refine ⟨_, rfl, cell, rfl, fun d H1 hd t1 dr1 => ?_⟩
  have np3 : p3 ≠ d := ne_of_none e0 hd
  refine ⟨_, rfl, d, 0, rfl, dr1, by omega, fun H2 t u gU et b2 dr2 => ?_⟩
  have ntd : t ≠ d := by
    obtain ⟨_, _, _, e, _⟩ := dr2
    exact fun z => by rw [z, e] at et; cases et
  have e2 := b2 _ _ np3 (t1 _ _ e0)
  -- the rows
  refine ⟨_, rfl, _, rfl, d, 13, _, rfl, by decide, log_tiny (by decide) (by decide), dr2, by omega, fun H3 r3 a3 c3 b3 dr3 => ⟨_, rfl, d, t, r3, _, u, rfl, a3, by omega, b3 _ _ ntd et, gU, dr3, by omega, fun H4 pr0 xs0 rs0 ep0 hpn0 npd0 hR0 hG0 hl0 b4 dr4 => ?_⟩⟩
  have b24 := b3.trans b4
  refine ⟨fun σ' H' => ∃ (pr : Addr) (xs : List V) (rs : List (Option Rw)), σ' = [some (.ref a), some (.int cell), some (.ref d), some (.ref t), some (.ref pr), w5, w6, w7, w8, w9, w10, w11, w12] ∧ H' pr = some (.lst xs) ∧ pr ≠ d ∧ Rws K H' xs rs ∧ AllGood rs ∧ rs.length ≤ 200 ∧ But d H2 H' ∧ Dr PT d 8000 H', ?_, ?_⟩
  · refine ⟨_, rfl, d, 4, _, rfl, by decide, log_tiny (by decide) (by decide), dr4, by omega, fun H5 r5 _ _ b5 dr5 => ⟨rfl, _, rfl, ite2 (fun _ => ?_) (fun _ => ?_)⟩⟩
    · refine ⟨_, rfl, _, rfl, _, rfl, d, 41, _, rfl, by decide, log_tiny (by decide) (by decide), dr5, by omega, fun H6 r6 a6 c6 b6 dr6 => ⟨(by show 2 ≤ sizeLine; decide), fun l hl => ?_⟩⟩
      have nl := dr6.ne hl
      refine ⟨d, l, _, _, rfl, nl, SqL.of upd_same, by simp, by show 2 ≤ 1000; decide, dr6.upd nl, by omega, fun H7 v hv b7 dr7 => ?_⟩
      obtain ⟨m, rfl, hm⟩ : ∃ k, v = .int k ∧ (0 ≤ k ∧ k ≤ 40) := zero_of (fun k => 0 ≤ k ∧ k ≤ 40) hv (by
        intro x hx
        simp only [List.mem_cons, List.not_mem_nil, or_false] at hx
        rcases hx with e | e <;> exact ⟨_, e, by omega⟩)
      have b27 : But d H2 H7 := (b24.trans (b5.trans b6)).trans ((But.new hl).trans b7)
      refine ⟨_, rfl, d, t, m, _, u, rfl, hm.1, by omega, b27 _ _ ntd et, gU, dr7, by omega, fun H8 pr1 xs1 rs1 ep1 hpn1 npd1 hR1 hG1 hl1 b8 dr8 => ?_⟩
      exact ⟨pr1, xs1, rs1, rfl, ep1, npd1, hR1, hG1, hl1, b27.trans b8, dr8.mono (by omega)⟩
    · exact ⟨pr0, xs0, rs0, rfl, b5 _ _ npd0 ep0, npd0, hR0.same (dr_nl dr4 b5), hG0, hl0, b24.trans b5, dr5.mono (by omega)⟩
  rintro σ' H5 ⟨pr, xs, rs, rfl, ep, npd, hR, hG, hl, b25, dr5⟩
  clear hR0 hG0 ep0 hpn0 npd0 hl0 dr4 b24 b4 b3 dr3
  have et5 := b25 _ _ ntd et
  have e5 := b25 _ _ np3 e2
  have hlx := hR.len
  -- the beads
  refine ⟨_, rfl, pr, rfl, ⟨_, SqL.of ep⟩, fun B hB => lc_gen (K := K) (a := pr) hB (SqL.of ep) (by omega) (fun j v H => ∃ o, rs[j]? = some o ∧ BV T.C_Bead H v o) (fun j v H1 H2 s ⟨o, h1, h2⟩ => ⟨o, h1, h2.same s⟩) ?_ ?_⟩
  · intro j x H6 R C hx s6 hR'
    obtain ⟨o, ho, hv⟩ := hR.at_ j x hx
    exact ⟨rfl, yesT ⟨_, rfl, x, o, rfl, hv.same (NL.of s6), (fun r hr => hG r (by rw [← hr]; exact List.mem_of_getElem? ho)), fun H9 y s9 hy => hR' y H9 s9 ⟨o, ho, hy⟩⟩⟩
  intro H6 acc s6 e6 l6 g6
  have hB6 : Bds T.C_Bead H6 acc rs := ⟨by omega, g6⟩
  have nBd : B ≠ d := dr5.ne hB
  -- due
  refine ⟨_, rfl, _, rfl, pr, t, xs, rs, u, rfl, SqL.of (s6 _ _ ep), hR.same (NL.of s6), .inl (.inl (s6 _ _ et5)), hG, by omega, fun H7 due s7 odue => ?_⟩
  have s67 := s6.trans s7
  have et7 := s67 _ _ et5
  -- the rule, the string
  refine ⟨_, rfl, _, rfl, t, _, _, _, rfl, rfl, .inl (.inl et7), atI_nat (j := 0) rfl, _, rfl, t, _, _, _, rfl, rfl, .inl (.inl et7), atI_nat (j := 1) rfl, _, rfl, t, _, _, _, rfl, rfl, .inl (.inl et7), atI_nat (j := 2) rfl, _, rfl, t, _, _, _, rfl, rfl, .inl (.inl et7), atI_nat (j := 3) rfl, ?_⟩
  intro rl dx nx ndx nex
  refine ⟨rl, dx, u, rfl, upd_same, gU.1, fun H8 hRl k8 => ⟨rfl, ?_⟩⟩
  have s8 : Same H7 H8 := fun b o e => k8 b o (by rw [upd_ne (ne_of_none e nx), upd_ne (ne_of_none e ndx)]; exact e) (ne_of_none e nx)
  have s78 := s7.trans s8
  refine ⟨B, rl, acc, rs, u, rfl, SqL.of (s78 _ _ e6), hB6.same (NL.of s78), hRl, by omega, fun H9 fo s9 mk => ?_⟩
  have s69 := s78.trans s9
  have s59 := s6.trans s69
  have e9B : H9 B = some (.lst acc) := s69 _ _ e6
  refine ⟨_, rfl, .inl ⟨rfl, _, SqL.of e9B⟩, B, acc, rfl, rfl, e9B, ?_⟩
  refine ⟨_, rfl, .inl ⟨rfl, _, SqL.of upd_same⟩, B, _, _, rfl, rfl, upd_same, Nat.lt_of_lt_of_le (show acc.reverse.length < 1000 by rw [List.length_reverse]; omega) (by decide), ?_⟩
  have n9 : NL H9 (upd (upd H9 B (.lst acc.reverse)) B (.lst (acc.reverse ++ [V.non]))) := (NL.at_ e9B).trans (NL.at_ upd_same)
  have k9 : ∀ b o, b ≠ B → H9 b = some o → (upd (upd H9 B (.lst acc.reverse)) B (.lst (acc.reverse ++ [V.non]))) b = some o := fun b o n e => by
    rw [upd_ne n, upd_ne n]
    exact e
  have dr10 : Dr PT d 8000 (upd (upd H9 B (.lst acc.reverse)) B (.lst (acc.reverse ++ [V.non]))) := ((dr5.same s59).upd nBd).upd nBd
  generalize upd (upd H9 B (.lst acc.reverse)) B (.lst (acc.reverse ++ [V.non])) = H10 at n9 k9 dr10
  have e10 := k9 _ _ (ne_of_none e5 hB) (s59 _ _ e5)
  have ep10 := k9 _ _ (ne_of_none ep hB) (s59 _ _ ep)
  have n510 : NL H5 H10 := (NL.of s59).trans n9
  have et10 := n510 _ _ (fun _ z => by cases z) et5
  have hR10 := hR.same n510
  have nl8 : NL H7 H10 := (NL.of (s8.trans s9)).trans n9
  cases hbar : bar rs u with
  | some jz =>
    obtain ⟨j, z⟩ := jz
    obtain ⟨zs, rfl, hz⟩ := barFrom_str hbar
    unfold MadeAt at mk
    rw [hbar] at odue mk
    obtain ⟨td, rfl, htd⟩ := (show ∃ t, due = .ref t ∧ H7 t = some (.tup [.int j, .str zs]) from odue)
    have mk : H9 fo = some (.tup [.str "refused", .bl true, .int j, .str zs]) := mk
    have efo := n9 _ _ (fun _ z => by cases z) mk
    have etd := nl8 _ _ (fun _ z => by cases z) htd
    refine ⟨_, rfl, rfl, _, rfl, iteT ?_⟩
    refine ⟨_, rfl, (by show 2 ≤ sizeLine; decide), fun p4 hp4 => ⟨_, rfl, cata_T (.inl (.inl upd_same)) (.inl (.inl (same_upd hp4 _ _ etd))) (by show 2 + 2 ≤ sizeLine; decide) fun H11 c11 x11 e11 => ?_⟩⟩
    have y11 := (same_upd hp4 (o := .tup [.str "refused", .bl true])).trans x11
    have sh : SeqAt.shaped (.tuple [.str "refused", .bool true, .int j, .str zs]) = true := by
      show ((PyData.canLay0 (.str "refused") && (true && (true && (PyData.canLay0 (.str zs) && true)))) && true) = true
      rw [hz, show PyData.canLay0 (.str "refused") = true by decide +kernel]
      rfl
    refine ⟨.tuple [.str "refused", .bool true, .int j, .str zs], .tuple [.str "refused", .bool true, .int j, .str zs], .tup (.inl (.inl (y11 _ _ efo))) (.cons (.str _) (.cons (.bl _) (.cons (.int _) (.cons (.str _) .nil)))), .tup e11 (.cons (.str _) (.cons (.bl _) (.cons (.int _) (.cons (.str _) .nil)))), sh, sh, _, rfl, ?_⟩
    rw [SeqAt.eqv_refl _ (SeqAt.canLay_of_shaped sh)]
    refine iteF ⟨_, rfl, rfl, _, rfl, iteF (iteF ⟨_, rfl, rfl, _, rfl, iteF ?_⟩)⟩
    exact ⟨_, _, _, _, _, _, _, _, _, _, _, _, rfl, y11 _ _ e10⟩
  | none =>
    unfold MadeAt at mk
    rw [hbar] at odue mk
    have odue : due = .non := odue
    subst odue
    obtain ⟨sA, mk, svA⟩ := mk
    have efo := n9 _ _ (fun _ z => by cases z) mk
    have sv10 := svA.nl n9
    refine ⟨_, rfl, rfl, _, rfl, iteF (iteF ⟨_, rfl, rfl, _, rfl, iteT ?_⟩)⟩
    refine ⟨_, rfl, fo, _, _, _, rfl, rfl, .inl (.inl efo), atI_nat (j := 0) rfl, rfl, _, rfl, ?_⟩
    rw [decide_eq_true rfl]
    refine iteF ?_
    refine ⟨_, rfl, fo, _, _, _, rfl, rfl, .inl (.inl efo), atI_nat (j := 1) rfl, _, rfl, _, rfl, sA, pr, t, xs, rs, u, rfl, sv10, ep10, hR10, hG, hl, et10, gU, fun H11 x11 => ?_⟩
    refine ⟨_, rfl, iteF ?_⟩
    refine ⟨_, rfl, rfl, _, rfl, iteT ?_⟩
    have n11 := NL.of x11
    have ep11 := x11 _ _ ep10
    have dr11 := dr10.same x11
    refine ⟨_, rfl, _, rfl, _, rfl, d, pr, t, xs, rs, u, _, rfl, ep11, npd, hR10.same n11, hG, hl, x11 _ _ et10, gU, dr11, by omega, fun H12 l fl zs b12 el lz ho => ?_⟩
    have n12 := dr_nl dr11 b12
    have e12 := b12 _ _ np3 (x11 _ _ e10)
    have ep12 := b12 _ _ npd ep11
    have n1012 := n11.trans n12
    have et12 := n1012 _ _ (fun _ z => by cases z) et10
    have efo12 := n1012 _ _ (fun _ z => by cases z) efo
    have hR12 := hR10.same n1012
    have sv12 := sv10.nl n1012
    refine ⟨l, rfl, ⟨_, SqL.of el⟩, for_list (K := K) (a := l) (xs := zs) (fun j σ H' => ∃ w8 w9 w10 w11, σ = [some (.ref a), some (.int cell), some (.ref d), some (.ref t), some (.ref pr), some (.ref B), some .non, some (.ref fo), w8, w9, w10, w11, w12] ∧ Same H12 H') ⟨_, _, _, _, rfl, Same.refl _⟩ (fun j σ H' _ h => ?_) ?_ ?_⟩
    · obtain ⟨_, _, _, _, _, s⟩ := h
      exact SqL.of (s _ _ el)
    · rintro j x σ H13 hx ⟨v8, v9, v10, v11, rfl, y13⟩
      obtain ⟨po, ao, tO, ys, ss, v, rfl, hpo, hao, _, _, hRo, hGo, hlo, hto, gv⟩ := (ho x (List.mem_of_getElem? hx)).same y13
      have lyo := hRo.len
      refine ⟨po, _, rfl, .inl (.inl hpo), rfl, _, _, rfl, _, _, rfl, rfl, ?_⟩
      refine ⟨_, rfl, _, rfl, ao, tO, ys, ss, v, rfl, SqL.of hao, hRo, hto, hGo, by omega, fun H14 wy s14 owy => ⟨rfl, _, rfl, ?_⟩⟩
      rw [out_none owy]
      cases hb2 : bar ss v with
      | some jz2 => exact iteF ⟨_, _, _, _, rfl, y13.trans s14⟩
      | none =>
        refine iteT ?_
        have hao14 := s14 _ _ hao
        refine ⟨_, rfl, ao, rfl, ⟨_, SqL.of hao14⟩, fun Bo hBo => lc_gen (K := K) (a := ao) hBo (SqL.of hao14) (by omega) (fun j v H => ∃ o, ss[j]? = some o ∧ BV T.C_Bead H v o) (fun j v H1 H2 s ⟨o, h1, h2⟩ => ⟨o, h1, h2.same s⟩) ?_ ?_⟩
        · intro j x Hb R C hx sb hR'
          obtain ⟨o, hoo, hv⟩ := hRo.at_ j x hx
          exact ⟨rfl, yesT ⟨_, rfl, x, o, rfl, (hv.same (NL.of s14)).same (NL.of sb), (fun r hr => hGo r (by rw [← hr]; exact List.mem_of_getElem? hoo)), fun H9 y s9 hy => hR' y H9 s9 ⟨o, hoo, hy⟩⟩⟩
        intro H15 acco s15 eb lb gb
        have hBo : Bds T.C_Bead H15 acco ss := ⟨by omega, gb⟩
        have s1315 := s14.trans s15
        have hto15 := SqT.ext hto s1315
        refine ⟨_, rfl, tO, _, _, _, rfl, rfl, hto15, atI_nat (j := 0) rfl, _, rfl, tO, _, _, _, rfl, rfl, hto15, atI_nat (j := 1) rfl, _, rfl, tO, _, _, _, rfl, rfl, hto15, atI_nat (j := 2) rfl, _, rfl, tO, _, _, _, rfl, rfl, hto15, atI_nat (j := 3) rfl, ?_⟩
        intro rl2 dl2 nx2 ndx2 nex2
        refine ⟨rl2, dl2, v, rfl, upd_same, gv, fun H16 hRl2 k16 => ⟨rfl, ?_⟩⟩
        have z16 : Same H15 H16 := fun b o e => k16 b o (by rw [upd_ne (ne_of_none e nx2), upd_ne (ne_of_none e ndx2)]; exact e) (ne_of_none e nx2)
        obtain ⟨drl2, hRl2⟩ := hRl2
        intro st dst hst hdst hne
        have zs16 : Same H16 (upd (upd H16 dst (.own st)) st (.ins T.C_String dst [])) := fun b o z => by rw [upd_ne (ne_of_none z hst), upd_ne (ne_of_none z hdst)]; exact z
        refine ⟨st, dst, Bo, rl2, acco, ss, v, rfl, upd_same, SqL.of (zs16 _ _ (z16 _ _ eb)), hBo.same (NL.of (z16.trans zs16)), ⟨drl2, zs16 _ _ hRl2⟩, hlo, fun _ H17 tS hS1 htS k17 => ⟨rfl, ?_⟩, fun j z hb' => absurd (hb2.symm.trans hb') (fun e => by cases e)⟩
        have z17 : Same H16 H17 := fun b o z => k17 b o (zs16 _ _ z) (ne_of_none z hst)
        have yC : Same H13 H17 := s1315.trans (z16.trans z17)
        have yB : Same H12 H17 := y13.trans yC
        refine ⟨_, rfl, _, rfl, fourD v, fourD u, four_dp (SqT.ext hto yC), four_dp (.inl (.inl (yB _ _ et12))), four_sh _, four_sh _, _, rfl, ?_⟩
        rw [eqv_four]
        refine ite2 (fun huv => ?_) (fun huv => ?_)
        · have huv : u = v := of_decide_eq_true huv
          have hRB := hR12.same (NL.of yB)
          have hRoB := hRo.same (NL.of yC)
          refine ⟨_, rfl, pr, xs, rs, rfl, SqL.of (yB _ _ ep12), hRB, by omega, fun H18 l1 y1 s18 e18 p18 => ?_⟩
          refine ⟨_, rfl, ao, ys, ss, rfl, SqL.of ((yC.trans s18) _ _ hao), hRoB.same (NL.of s18), hlo, fun H19 l2 y2 s19 e19 p19 => ?_⟩
          have s1719 := s18.trans s19
          refine ⟨_, rfl, ao, ys, ss, rfl, SqL.of ((yC.trans s1719) _ _ hao), hRoB.same (NL.of s1719), hlo, fun H20 l3 y3 s20 e20 p20 => ⟨l3, y3, rfl, SqL.of e20, fun l4 hl4 => ⟨(by show 2 ≤ sizeLine; decide), fun p5 hp5 => ?_⟩⟩⟩
          have x4 := same_upd hl4 (o := .lst y3.reverse)
          have x5 := same_upd hp5 (o := .tup [.ref l2, .ref l4])
          have x45 := x4.trans x5
          have x1820 := s19.trans (s20.trans x45)
          have yz := s18.trans x1820
          refine ⟨.list (rs.map plainD), [.list (ss.map plainD), .list (ss.reverse.map plainD)], (p18.same (NL.of x1820)).dp (x1820 _ _ e18), .tup (.inl (.inl upd_same)) (.cons ((p19.same (NL.of (s20.trans x45))).dp ((s20.trans x45) _ _ e19)) (.cons ((p20.same (NL.of x45)).rev.dp (x5 _ _ upd_same)) .nil)), plains_sh hG, plains2_sh hGo, ?_⟩
          rw [alike_is rs ss u]
          have al : likeSt rs ss u v = likeSt rs ss u u := by rw [huv]
          revert yz
          generalize upd (upd H20 l4 (.lst y3.reverse)) p5 (.tup [.ref l2, .ref l4]) = HZ
          intro yz
          have sv2 : SV T.C_Bead T.C_Rule T.C_String HZ st ss v := SV.same ⟨tS, rl2, acco, hS1, htS, hBo.same (NL.of (z16.trans z17)), drl2, z17 _ _ hRl2⟩ yz
          have svA := sv12.same (yB.trans yz)
          have efoZ := (yB.trans yz) _ _ efo12
          obtain ⟨tA, mA, xsA, ⟨dA, hA⟩, _⟩ := svA.ex
          obtain ⟨tB, mB, xsB, ⟨dB, hBB⟩, _⟩ := sv2.ex
          refine ⟨_, rfl, fo, _, _, _, rfl, rfl, .inl (.inl efoZ), atI_nat (j := 1) rfl, _, rfl, sA, dA, _, .ref T.C_String, rfl, hA, T.ic_String.ty T.cl_String hBB, by simp [PySem.W.notFirst], sA, .ref st, _, rfl, ⟨rs, u, svA, .inl ⟨st, ss, v, rfl, sv2, rfl⟩⟩, fun HY (x21 : Same _ _) => ⟨⟨_, rfl⟩, _, rfl, rfl, _, rfl, ?_⟩⟩
          rw [al, decide_eq_true rfl]
          refine iteF ?_
          refine ⟨_, rfl, _, rfl, fo, _, _, _, rfl, rfl, .inl (.inl (x21 _ _ efoZ)), atI_nat (j := 1) rfl, st, dB, _, .ref T.C_String, rfl, x21 _ _ hBB, T.ic_String.ty T.cl_String (x21 _ _ hA), by simp [PySem.W.notFirst], st, .ref sA, _, rfl, ⟨ss, v, sv2.same x21, .inl ⟨sA, rs, u, rfl, svA.same x21, rfl⟩⟩, fun HX (x22 : Same _ _) => ⟨⟨_, rfl⟩, _, rfl, rfl, _, rfl, ?_⟩⟩
          rw [likeSt_symm rs ss u v, al, decide_eq_true rfl]
          exact iteF ⟨_, _, _, _, rfl, y13.trans (yC.trans (yz.trans (x21.trans x22)))⟩
        · have huv : ¬ u = v := fun e => huv (decide_eq_true e)
          have al : likeSt rs ss u v = false := by
            unfold likeSt
            rw [decide_eq_false huv]
            rfl
          have yz := Same.refl H17
          have sv2 : SV T.C_Bead T.C_Rule T.C_String H17 st ss v := SV.same ⟨tS, rl2, acco, hS1, htS, hBo.same (NL.of (z16.trans z17)), drl2, z17 _ _ hRl2⟩ yz
          have svA := sv12.same (yB.trans yz)
          have efoZ := (yB.trans yz) _ _ efo12
          obtain ⟨tA, mA, xsA, ⟨dA, hA⟩, _⟩ := svA.ex
          obtain ⟨tB, mB, xsB, ⟨dB, hBB⟩, _⟩ := sv2.ex
          refine ⟨_, rfl, fo, _, _, _, rfl, rfl, .inl (.inl efoZ), atI_nat (j := 1) rfl, _, rfl, sA, dA, _, .ref T.C_String, rfl, hA, T.ic_String.ty T.cl_String hBB, by simp [PySem.W.notFirst], sA, .ref st, _, rfl, ⟨rs, u, svA, .inl ⟨st, ss, v, rfl, sv2, rfl⟩⟩, fun HY (x21 : Same _ _) => ⟨⟨_, rfl⟩, _, rfl, rfl, _, rfl, ?_⟩⟩
          rw [al, decide_eq_true rfl]
          refine iteF ?_
          refine ⟨_, rfl, _, rfl, fo, _, _, _, rfl, rfl, .inl (.inl (x21 _ _ efoZ)), atI_nat (j := 1) rfl, st, dB, _, .ref T.C_String, rfl, x21 _ _ hBB, T.ic_String.ty T.cl_String (x21 _ _ hA), by simp [PySem.W.notFirst], st, .ref sA, _, rfl, ⟨ss, v, sv2.same x21, .inl ⟨sA, rs, u, rfl, svA.same x21, rfl⟩⟩, fun HX (x22 : Same _ _) => ⟨⟨_, rfl⟩, _, rfl, rfl, _, rfl, ?_⟩⟩
          rw [likeSt_symm rs ss u v, al, decide_eq_true rfl]
          exact iteF ⟨_, _, _, _, rfl, y13.trans (yC.trans (yz.trans (x21.trans x22)))⟩
    · rintro σ H13 ⟨v8, v9, v10, v11, rfl, y13⟩
      have efo13 := y13 _ _ efo12
      have sv13 := sv12.same y13
      obtain ⟨tA, mA, xsA, ⟨dA, hA⟩, htA, _⟩ := sv13.ex
      have n1 : ∀ {f : Str}, ¬ f = "rule" → ¬ f = "held" → (sf tA mA).lookup f = none := fun h h' => sf_no _ _ h h'
      refine ⟨_, rfl, fo, _, _, _, rfl, rfl, .inl (.inl efo13), atI_nat (j := 1) rfl, _, rfl, fo, _, _, _, rfl, rfl, .inl (.inl efo13), atI_nat (j := 1) rfl, sA, dA, _, rfl, hA, sA, rs, u, rfl, sv13, hl, hG, fun H14 x14 => ⟨⟨_, rfl⟩, ?_⟩⟩
      have efo14 := x14 _ _ efo13
      refine ⟨_, rfl, fo, _, _, _, rfl, rfl, .inl (.inl efo14), atI_nat (j := 1) rfl, sA, dA, _, rfl, x14 _ _ hA, n1 (by decide +kernel) (by decide +kernel), sA, tA, mA, xsA, rfl, ⟨dA, x14 _ _ hA⟩, x14 _ _ htA, fun lb hlb => ⟨(by show 4 ≤ sizeLine; decide), fun li hli => ?_⟩⟩
      have x15 := same_upd hlb (o := .lst xsA)
      have x16 := same_upd hli (o := .lst [V.non, .str (stringText rs), .ref lb, .int 0])
      have y16 := x14.trans (x15.trans x16)
      have hlb' : (upd (upd H14 lb (.lst xsA)) li (.lst [V.non, .str (stringText rs), .ref lb, .int 0])) lb = some (.lst xsA) := x16 _ _ upd_same
      refine ⟨li, _, fun _ => false, rfl, upd_same, fun i z hz => ?_, fun H17 (x17 : Same _ _) => ?_⟩
      · have rr : ∀ tt, tt ∈ four4 → TyX K (upd (upd H14 lb (.lst xsA)) li (.lst [V.non, .str (stringText rs), .ref lb, .int 0])) z (.type tt) → RSt K T.C_Bead T.C_Rule T.C_String sA z false (upd (upd H14 lb (.lst xsA)) li (.lst [V.non, .str (stringText rs), .ref lb, .int 0])) := fun tt h1 h2 => ⟨rs, u, sv13.same y16, .inr ⟨tt, h1, h2, rfl⟩⟩
        have hz := List.mem_of_getElem? hz
        simp only [List.mem_cons, List.not_mem_nil, or_false] at hz
        rcases hz with rfl | rfl | rfl | rfl
        · exact ⟨sA, dA, _, rfl, y16 _ _ hA, rr "NoneType" (by simp [four4]) (.base .non), .inr (.inr (.inr (.inl rfl)))⟩
        · exact ⟨sA, dA, _, rfl, y16 _ _ hA, rr "str" (by simp [four4]) (.base (.str _)), .inr (.inl ⟨_, rfl⟩)⟩
        · exact ⟨sA, dA, _, rfl, y16 _ _ hA, rr "list" (by simp [four4]) (.base (.lst hlb')), .inr (.inr (.inr (.inr (.inl ⟨lb, xsA, rfl, hlb'⟩))))⟩
        · exact ⟨sA, dA, _, rfl, y16 _ _ hA, rr "int" (by simp [four4]) (.base (.int _)), .inl ⟨_, rfl⟩⟩
      have hF : (false ^^ anyF ([V.non, .str (stringText rs), .ref lb, .int 0] : List V).length (fun _ => false)) = false := by
        rw [anyF_false (fun _ _ => rfl)]
        rfl
      refine ⟨_, rfl, ?_⟩
      rw [hF]
      refine iteF ?_
      have y17 := y16.trans x17
      have y1217 := y13.trans y17
      refine ⟨_, rfl, fo, _, _, _, rfl, rfl, .inl (.inl (y17 _ _ efo13)), atI_nat (j := 1) rfl, _, rfl, _, rfl, sA, pr, t, xs, rs, u, rfl, sv13.same y17, y1217 _ _ ep12, hR12.same (NL.of y1217), hG, hl, y1217 _ _ et12, gU, fun H18 x18 => ⟨_, rfl, iteF ?_⟩⟩
      exact ⟨_, _, _, _, _, _, _, _, _, _, _, _, rfl, (y1217.trans x18) _ _ e12⟩
end
theorem all_mk {l : PySem.W.OpenLaw} {w : World} {K : PySem.W.Frag} {h : Heap} {mg : Str → Option Value} {fa : Addr} (X : K.In h) (G : h.Ns mainGlobals mg) (hfa : mg "law" = some (.ref fa))
    {C_Bead : Addr}
    {C_Rule : Addr}
    {C_String : Addr}
    {C_PearlError : Addr}
    {C_BadBead : Addr}
    {C_BadRule : Addr}
    {C_NotLet : Addr}
    {f0 : Addr} {od0 an0 : Option Addr} {sl0 : Array (Option Value)} {oc0 kV0 dc0 pm0 cd0 ct0 : Value}
    {T0 : Addr} {oT0 : Value} {dT0 : Option Addr} {nT0 : Nat} {sT0 : Array (Option Value)} {td0_0 : Tok}
    {f1 : Addr} {od1 an1 : Option Addr} {sl1 : Array (Option Value)} {oc1 kV1 dc1 pm1 cd1 ct1 : Value}
    {f2 : Addr} {od2 an2 : Option Addr} {sl2 : Array (Option Value)} {oc2 kV2 dc2 pm2 cd2 ct2 : Value}
    {f3 : Addr} {od3 an3 : Option Addr} {sl3 : Array (Option Value)} {oc3 kV3 dc3 pm3 cd3 ct3 : Value}
    {f4 : Addr} {od4 an4 : Option Addr} {sl4 : Array (Option Value)} {oc4 kV4 dc4 pm4 cd4 ct4 : Value}
    {f5 : Addr} {od5 an5 : Option Addr} {sl5 : Array (Option Value)} {oc5 kV5 dc5 pm5 cd5 ct5 : Value}
    {f6 : Addr} {od6 an6 : Option Addr} {sl6 : Array (Option Value)} {oc6 kV6 dc6 pm6 cd6 ct6 : Value}
    {f7 : Addr} {od7 an7 : Option Addr} {sl7 : Array (Option Value)} {oc7 kV7 dc7 pm7 cd7 ct7 : Value}
    {f8 : Addr} {od8 an8 : Option Addr} {sl8 : Array (Option Value)} {oc8 kV8 dc8 pm8 cd8 ct8 : Value}
    {T8 : Addr} {oT8 : Value} {dT8 : Option Addr} {nT8 : Nat} {sT8 : Array (Option Value)} {td8_0 : Tok} {td8_1 : Tok} {td8_2 : Tok}
    {f9 : Addr} {od9 an9 : Option Addr} {sl9 : Array (Option Value)} {oc9 kV9 dc9 pm9 cd9 ct9 : Value}
    {f10 : Addr} {od10 an10 : Option Addr} {sl10 : Array (Option Value)} {oc10 kV10 dc10 pm10 cd10 ct10 : Value}
    {f11 : Addr} {od11 an11 : Option Addr} {sl11 : Array (Option Value)} {oc11 kV11 dc11 pm11 cd11 ct11 : Value}
    {f12 : Addr} {od12 an12 : Option Addr} {sl12 : Array (Option Value)} {oc12 kV12 dc12 pm12 cd12 ct12 : Value}
    {f13 : Addr} {od13 an13 : Option Addr} {sl13 : Array (Option Value)} {oc13 kV13 dc13 pm13 cd13 ct13 : Value}
    {f14 : Addr} {od14 an14 : Option Addr} {sl14 : Array (Option Value)} {oc14 kV14 dc14 pm14 cd14 ct14 : Value}
    {f15 : Addr} {od15 an15 : Option Addr} {sl15 : Array (Option Value)} {oc15 kV15 dc15 pm15 cd15 ct15 : Value}
    {f16 : Addr} {od16 an16 : Option Addr} {sl16 : Array (Option Value)} {oc16 kV16 dc16 pm16 cd16 ct16 : Value}
    {f17 : Addr} {od17 an17 : Option Addr} {sl17 : Array (Option Value)} {oc17 kV17 dc17 pm17 cd17 ct17 : Value}
    {f18 : Addr} {od18 an18 : Option Addr} {sl18 : Array (Option Value)} {oc18 kV18 dc18 pm18 cd18 ct18 : Value}
    {f19 : Addr} {od19 an19 : Option Addr} {sl19 : Array (Option Value)} {oc19 kV19 dc19 pm19 cd19 ct19 : Value}
    {f20 : Addr} {od20 an20 : Option Addr} {sl20 : Array (Option Value)} {oc20 kV20 dc20 pm20 cd20 ct20 : Value}
    {f21 : Addr} {od21 an21 : Option Addr} {sl21 : Array (Option Value)} {oc21 kV21 dc21 pm21 cd21 ct21 : Value}
    {f22 : Addr} {od22 an22 : Option Addr} {sl22 : Array (Option Value)} {oc22 kV22 dc22 pm22 cd22 ct22 : Value}
    {f23 : Addr} {od23 an23 : Option Addr} {sl23 : Array (Option Value)} {oc23 kV23 dc23 pm23 cd23 ct23 : Value}
    {f24 : Addr} {od24 an24 : Option Addr} {sl24 : Array (Option Value)} {oc24 kV24 dc24 pm24 cd24 ct24 : Value}
    {f25 : Addr} {od25 an25 : Option Addr} {sl25 : Array (Option Value)} {oc25 kV25 dc25 pm25 cd25 ct25 : Value}
    {T25 : Addr} {oT25 : Value} {dT25 : Option Addr} {nT25 : Nat} {sT25 : Array (Option Value)} {td25_0 : Tok}
    {f26 : Addr} {od26 an26 : Option Addr} {sl26 : Array (Option Value)} {oc26 kV26 dc26 pm26 cd26 ct26 : Value}
    {f27 : Addr} {od27 an27 : Option Addr} {sl27 : Array (Option Value)} {oc27 kV27 dc27 pm27 cd27 ct27 : Value}
    {f28 : Addr} {od28 an28 : Option Addr} {sl28 : Array (Option Value)} {oc28 kV28 dc28 pm28 cd28 ct28 : Value}
    {f29 : Addr} {od29 an29 : Option Addr} {sl29 : Array (Option Value)} {oc29 kV29 dc29 pm29 cd29 ct29 : Value}
    {f30 : Addr} {od30 an30 : Option Addr} {sl30 : Array (Option Value)} {oc30 kV30 dc30 pm30 cd30 ct30 : Value}
    {f31 : Addr} {od31 an31 : Option Addr} {sl31 : Array (Option Value)} {oc31 kV31 dc31 pm31 cd31 ct31 : Value}
    {f32 : Addr} {od32 an32 : Option Addr} {sl32 : Array (Option Value)} {oc32 kV32 dc32 pm32 cd32 ct32 : Value}
    {f33 : Addr} {od33 an33 : Option Addr} {sl33 : Array (Option Value)} {oc33 kV33 dc33 pm33 cd33 ct33 : Value}
    {f34 : Addr} {od34 an34 : Option Addr} {sl34 : Array (Option Value)} {oc34 kV34 dc34 pm34 cd34 ct34 : Value}
    {f35 : Addr} {od35 an35 : Option Addr} {sl35 : Array (Option Value)} {oc35 kV35 dc35 pm35 cd35 ct35 : Value}
    {f36 : Addr} {od36 an36 : Option Addr} {sl36 : Array (Option Value)} {oc36 kV36 dc36 pm36 cd36 ct36 : Value}
    {f37 : Addr} {od37 an37 : Option Addr} {sl37 : Array (Option Value)} {oc37 kV37 dc37 pm37 cd37 ct37 : Value}
    {f38 : Addr} {od38 an38 : Option Addr} {sl38 : Array (Option Value)} {oc38 kV38 dc38 pm38 cd38 ct38 : Value}
    {f39 : Addr} {od39 an39 : Option Addr} {sl39 : Array (Option Value)} {oc39 kV39 dc39 pm39 cd39 ct39 : Value}
    {f40 : Addr} {od40 an40 : Option Addr} {sl40 : Array (Option Value)} {oc40 kV40 dc40 pm40 cd40 ct40 : Value}
    {f41 : Addr} {od41 an41 : Option Addr} {sl41 : Array (Option Value)} {oc41 kV41 dc41 pm41 cd41 ct41 : Value}
    {f42 : Addr} {od42 an42 : Option Addr} {sl42 : Array (Option Value)} {oc42 kV42 dc42 pm42 cd42 ct42 : Value}
    {f43 : Addr} {od43 an43 : Option Addr} {sl43 : Array (Option Value)} {oc43 kV43 dc43 pm43 cd43 ct43 : Value}
    {f44 : Addr} {od44 an44 : Option Addr} {sl44 : Array (Option Value)} {oc44 kV44 dc44 pm44 cd44 ct44 : Value}
    {f45 : Addr} {od45 an45 : Option Addr} {sl45 : Array (Option Value)} {oc45 kV45 dc45 pm45 cd45 ct45 : Value}
    {f46 : Addr} {od46 an46 : Option Addr} {sl46 : Array (Option Value)} {oc46 kV46 dc46 pm46 cd46 ct46 : Value}
    {f47 : Addr} {od47 an47 : Option Addr} {sl47 : Array (Option Value)} {oc47 kV47 dc47 pm47 cd47 ct47 : Value}
    {f48 : Addr} {od48 an48 : Option Addr} {sl48 : Array (Option Value)} {oc48 kV48 dc48 pm48 cd48 ct48 : Value}
    {tc0 : Tok}
    {tc1 : Tok}
    {tc2 : Tok}
    {tc3 : Tok}
    {tc4 : Tok}
    {nm_NotLet q_NotLet : Str} {N_NotLet : Addr} {bs_NotLet : List Value} {sn_NotLet : List Str} {sub_NotLet : List Value} {ab_NotLet : Bool} {col_NotLet : Option Bool} {dd_NotLet : Option Addr} {m0_NotLet m1_NotLet m2_NotLet m3_NotLet m5_NotLet : Option Value}
    (aC_Bead : PySem.W.nsIn K mainGlobals "Bead" = some (some (.ref C_Bead)))
    (pg_Bead : PySem.W.plainGet K C_Bead Str.empty = true)
    (hd_Bead : PySem.W.hasDictIn K C_Bead = true)
    (po_Bead : PySem.W.plainOver K C_Bead = true)
    (sa_Bead : PySem.W.findIn K (.ref C_Bead) "__setattr__" = some (some (.builtin "object.__setattr__")))
    (mk_Bead : PySem.W.makesIn K C_Bead = true)
    (kc_Bead : PySem.W.keepIn K (.ref C_Bead) = true)
    (n_Bead_number : PySem.W.findIn K (.ref C_Bead) "number" = some none)
    (n_Bead_across : PySem.W.findIn K (.ref C_Bead) "across" = some none)
    (n_Bead_weight : PySem.W.findIn K (.ref C_Bead) "weight" = some none)
    (n_Bead_shade : PySem.W.findIn K (.ref C_Bead) "shade" = some none)
    (n_Bead_form : PySem.W.findIn K (.ref C_Bead) "form" = some none)
    (n_Bead_drilled : PySem.W.findIn K (.ref C_Bead) "drilled" = some none)
    (aC_Rule : PySem.W.nsIn K mainGlobals "Rule" = some (some (.ref C_Rule)))
    (pg_Rule : PySem.W.plainGet K C_Rule Str.empty = true)
    (hd_Rule : PySem.W.hasDictIn K C_Rule = true)
    (po_Rule : PySem.W.plainOver K C_Rule = true)
    (sa_Rule : PySem.W.findIn K (.ref C_Rule) "__setattr__" = some (some (.builtin "object.__setattr__")))
    (mk_Rule : PySem.W.makesIn K C_Rule = true)
    (kc_Rule : PySem.W.keepIn K (.ref C_Rule) = true)
    (n_Rule_least : PySem.W.findIn K (.ref C_Rule) "least" = some none)
    (n_Rule_most : PySem.W.findIn K (.ref C_Rule) "most" = some none)
    (n_Rule_match : PySem.W.findIn K (.ref C_Rule) "match" = some none)
    (n_Rule_shades : PySem.W.findIn K (.ref C_Rule) "shades" = some none)
    (aC_String : PySem.W.nsIn K mainGlobals "String" = some (some (.ref C_String)))
    (pg_String : PySem.W.plainGet K C_String Str.empty = true)
    (hd_String : PySem.W.hasDictIn K C_String = true)
    (po_String : PySem.W.plainOver K C_String = true)
    (sa_String : PySem.W.findIn K (.ref C_String) "__setattr__" = some (some (.builtin "object.__setattr__")))
    (mk_String : PySem.W.makesIn K C_String = true)
    (kc_String : PySem.W.keepIn K (.ref C_String) = true)
    (n_String_held : PySem.W.findIn K (.ref C_String) "held" = some none)
    (n_String_rule : PySem.W.findIn K (.ref C_String) "rule" = some none)
    (aC_PearlError : PySem.W.nsIn K mainGlobals "PearlError" = some (some (.ref C_PearlError)))
    (aC_BadBead : PySem.W.nsIn K mainGlobals "BadBead" = some (some (.ref C_BadBead)))
    (aC_BadRule : PySem.W.nsIn K mainGlobals "BadRule" = some (some (.ref C_BadRule)))
    (aC_NotLet : PySem.W.nsIn K mainGlobals "NotLet" = some (some (.ref C_NotLet)))
    (a0 : PySem.W.findIn K (.ref C_PearlError) "__init__" = some (some (.ref f0)))
    (i0 : PySem.W.isFn K (.ref f0) = true)
    (l0 : K.lookup f0 = some ⟨oc0, od0, .func (PySem.W.fnOf "__init__" "PearlError.__init__" (defArgs s_PearlError_init) (defBody s_PearlError_init) (defScope s_PearlError_init) (.ref T0) kV0 dc0 pm0 an0 cd0 ct0), sl0⟩)
    (d0 : K.lookup T0 = some ⟨oT0, dT0, .seq (List.toArray [.str "" td0_0]) nT0, sT0⟩)
    (c0 : PySem.W.codeIn K cd0 "PearlError.__init__" = true)
    (k0 : PySem.W.keepIn K (.ref f0) = true)
    (a1 : PySem.W.findIn K (.ref C_NotLet) "__init__" = some (some (.ref f1)))
    (i1 : PySem.W.isFn K (.ref f1) = true)
    (l1 : K.lookup f1 = some ⟨oc1, od1, .func (PySem.W.fnOf "__init__" "NotLet.__init__" (defArgs s_NotLet_init) (defBody s_NotLet_init) (defScope s_NotLet_init) .none kV1 dc1 pm1 an1 cd1 ct1), sl1⟩)
    (c1 : PySem.W.codeIn K cd1 "NotLet.__init__" = true)
    (k1 : PySem.W.keepIn K (.ref f1) = true)
    (a2 : PySem.W.nsIn K mainGlobals "is_int" = some (some (.ref f2)))
    (l2 : K.lookup f2 = some ⟨oc2, od2, .func (PySem.W.fnOf "is_int" "is_int" (defArgs s_is_int) (defBody s_is_int) (defScope s_is_int) .none kV2 dc2 pm2 an2 cd2 ct2), sl2⟩)
    (c2 : PySem.W.codeIn K cd2 "is_int" = true)
    (k2 : PySem.W.keepIn K (.ref f2) = true)
    (a3 : PySem.W.nsIn K mainGlobals "is_whole" = some (some (.ref f3)))
    (l3 : K.lookup f3 = some ⟨oc3, od3, .func (PySem.W.fnOf "is_whole" "is_whole" (defArgs s_is_whole) (defBody s_is_whole) (defScope s_is_whole) .none kV3 dc3 pm3 an3 cd3 ct3), sl3⟩)
    (c3 : PySem.W.codeIn K cd3 "is_whole" = true)
    (k3 : PySem.W.keepIn K (.ref f3) = true)
    (a4 : PySem.W.nsIn K mainGlobals "is_from_nought" = some (some (.ref f4)))
    (l4 : K.lookup f4 = some ⟨oc4, od4, .func (PySem.W.fnOf "is_from_nought" "is_from_nought" (defArgs s_is_from_nought) (defBody s_is_from_nought) (defScope s_is_from_nought) .none kV4 dc4 pm4 an4 cd4 ct4), sl4⟩)
    (c4 : PySem.W.codeIn K cd4 "is_from_nought" = true)
    (k4 : PySem.W.keepIn K (.ref f4) = true)
    (a5 : PySem.W.nsIn K mainGlobals "is_name" = some (some (.ref f5)))
    (l5 : K.lookup f5 = some ⟨oc5, od5, .func (PySem.W.fnOf "is_name" "is_name" (defArgs s_is_name) (defBody s_is_name) (defScope s_is_name) .none kV5 dc5 pm5 an5 cd5 ct5), sl5⟩)
    (c5 : PySem.W.codeIn K cd5 "is_name" = true)
    (k5 : PySem.W.keepIn K (.ref f5) = true)
    (a6 : PySem.W.nsIn K mainGlobals "is_number" = some (some (.ref f6)))
    (l6 : K.lookup f6 = some ⟨oc6, od6, .func (PySem.W.fnOf "is_number" "is_number" (defArgs s_is_number) (defBody s_is_number) (defScope s_is_number) .none kV6 dc6 pm6 an6 cd6 ct6), sl6⟩)
    (c6 : PySem.W.codeIn K cd6 "is_number" = true)
    (k6 : PySem.W.keepIn K (.ref f6) = true)
    (a7 : PySem.W.nsIn K mainGlobals "figures" = some (some (.ref f7)))
    (l7 : K.lookup f7 = some ⟨oc7, od7, .func (PySem.W.fnOf "figures" "figures" (defArgs s_figures) (defBody s_figures) (defScope s_figures) .none kV7 dc7 pm7 an7 cd7 ct7), sl7⟩)
    (c7 : PySem.W.codeIn K cd7 "figures" = true)
    (k7 : PySem.W.keepIn K (.ref f7) = true)
    (a8 : PySem.W.findIn K (.ref C_Rule) "__init__" = some (some (.ref f8)))
    (i8 : PySem.W.isFn K (.ref f8) = true)
    (l8 : K.lookup f8 = some ⟨oc8, od8, .func (PySem.W.fnOf "__init__" "Rule.__init__" (defArgs s_Rule_init) (defBody s_Rule_init) (defScope s_Rule_init) (.ref T8) kV8 dc8 pm8 an8 cd8 ct8), sl8⟩)
    (d8 : K.lookup T8 = some ⟨oT8, dT8, .seq (List.toArray [.int 0 td8_0, .int 10 td8_1, .int 0 td8_2, .bool true]) nT8, sT8⟩)
    (c8 : PySem.W.codeIn K cd8 "Rule.__init__" = true)
    (k8 : PySem.W.keepIn K (.ref f8) = true)
    (a9 : PySem.W.findIn K (.ref C_Rule) "__eq__" = some (some (.ref f9)))
    (i9 : PySem.W.isFn K (.ref f9) = true)
    (l9 : K.lookup f9 = some ⟨oc9, od9, .func (PySem.W.fnOf "__eq__" "Rule.__eq__" (defArgs s_Rule_eq) (defBody s_Rule_eq) (defScope s_Rule_eq) .none kV9 dc9 pm9 an9 cd9 ct9), sl9⟩)
    (c9 : PySem.W.codeIn K cd9 "Rule.__eq__" = true)
    (k9 : PySem.W.keepIn K (.ref f9) = true)
    (a10 : PySem.W.findIn K (.ref C_Rule) "__repr__" = some (some (.ref f10)))
    (i10 : PySem.W.isFn K (.ref f10) = true)
    (l10 : K.lookup f10 = some ⟨oc10, od10, .func (PySem.W.fnOf "__repr__" "Rule.__repr__" (defArgs s_Rule_repr) (defBody s_Rule_repr) (defScope s_Rule_repr) .none kV10 dc10 pm10 an10 cd10 ct10), sl10⟩)
    (c10 : PySem.W.codeIn K cd10 "Rule.__repr__" = true)
    (k10 : PySem.W.keepIn K (.ref f10) = true)
    (a11 : PySem.W.nsIn K mainGlobals "stands_ahead" = some (some (.ref f11)))
    (l11 : K.lookup f11 = some ⟨oc11, od11, .func (PySem.W.fnOf "stands_ahead" "stands_ahead" (defArgs s_stands_ahead) (defBody s_stands_ahead) (defScope s_stands_ahead) .none kV11 dc11 pm11 an11 cd11 ct11), sl11⟩)
    (c11 : PySem.W.codeIn K cd11 "stands_ahead" = true)
    (k11 : PySem.W.keepIn K (.ref f11) = true)
    (a12 : PySem.W.nsIn K mainGlobals "breaks_step" = some (some (.ref f12)))
    (l12 : K.lookup f12 = some ⟨oc12, od12, .func (PySem.W.fnOf "breaks_step" "breaks_step" (defArgs s_breaks_step) (defBody s_breaks_step) (defScope s_breaks_step) .none kV12 dc12 pm12 an12 cd12 ct12), sl12⟩)
    (c12 : PySem.W.codeIn K cd12 "breaks_step" = true)
    (k12 : PySem.W.keepIn K (.ref f12) = true)
    (a13 : PySem.W.nsIn K mainGlobals "partner_of" = some (some (.ref f13)))
    (l13 : K.lookup f13 = some ⟨oc13, od13, .func (PySem.W.fnOf "partner_of" "partner_of" (defArgs s_partner_of) (defBody s_partner_of) (defScope s_partner_of) .none kV13 dc13 pm13 an13 cd13 ct13), sl13⟩)
    (c13 : PySem.W.codeIn K cd13 "partner_of" = true)
    (k13 : PySem.W.keepIn K (.ref f13) = true)
    (a14 : PySem.W.nsIn K mainGlobals "same_look" = some (some (.ref f14)))
    (l14 : K.lookup f14 = some ⟨oc14, od14, .func (PySem.W.fnOf "same_look" "same_look" (defArgs s_same_look) (defBody s_same_look) (defScope s_same_look) .none kV14 dc14 pm14 an14 cd14 ct14), sl14⟩)
    (c14 : PySem.W.codeIn K cd14 "same_look" = true)
    (k14 : PySem.W.keepIn K (.ref f14) = true)
    (a15 : PySem.W.nsIn K mainGlobals "reason_at" = some (some (.ref f15)))
    (l15 : K.lookup f15 = some ⟨oc15, od15, .func (PySem.W.fnOf "reason_at" "reason_at" (defArgs s_reason_at) (defBody s_reason_at) (defScope s_reason_at) .none kV15 dc15 pm15 an15 cd15 ct15), sl15⟩)
    (c15 : PySem.W.codeIn K cd15 "reason_at" = true)
    (k15 : PySem.W.keepIn K (.ref f15) = true)
    (a16 : PySem.W.nsIn K mainGlobals "barred" = some (some (.ref f16)))
    (l16 : K.lookup f16 = some ⟨oc16, od16, .func (PySem.W.fnOf "barred" "barred" (defArgs s_barred) (defBody s_barred) (defScope s_barred) .none kV16 dc16 pm16 an16 cd16 ct16), sl16⟩)
    (c16 : PySem.W.codeIn K cd16 "barred" = true)
    (k16 : PySem.W.keepIn K (.ref f16) = true)
    (a17 : PySem.W.findIn K (.ref C_String) "__init__" = some (some (.ref f17)))
    (i17 : PySem.W.isFn K (.ref f17) = true)
    (l17 : K.lookup f17 = some ⟨oc17, od17, .func (PySem.W.fnOf "__init__" "String.__init__" (defArgs s_String_init) (defBody s_String_init) (defScope s_String_init) .none kV17 dc17 pm17 an17 cd17 ct17), sl17⟩)
    (c17 : PySem.W.codeIn K cd17 "String.__init__" = true)
    (k17 : PySem.W.keepIn K (.ref f17) = true)
    (a18 : PySem.W.findIn K (.ref C_String) "beads" = some (some (.ref f18)))
    (i18 : PySem.W.isFn K (.ref f18) = true)
    (l18 : K.lookup f18 = some ⟨oc18, od18, .func (PySem.W.fnOf "beads" "String.beads" (defArgs s_String_beads) (defBody s_String_beads) (defScope s_String_beads) .none kV18 dc18 pm18 an18 cd18 ct18), sl18⟩)
    (c18 : PySem.W.codeIn K cd18 "String.beads" = true)
    (k18 : PySem.W.keepIn K (.ref f18) = true)
    (a19 : PySem.W.findIn K (.ref C_String) "gaps" = some (some (.ref f19)))
    (i19 : PySem.W.isFn K (.ref f19) = true)
    (l19 : K.lookup f19 = some ⟨oc19, od19, .func (PySem.W.fnOf "gaps" "String.gaps" (defArgs s_String_gaps) (defBody s_String_gaps) (defScope s_String_gaps) .none kV19 dc19 pm19 an19 cd19 ct19), sl19⟩)
    (c19 : PySem.W.codeIn K cd19 "String.gaps" = true)
    (k19 : PySem.W.keepIn K (.ref f19) = true)
    (a20 : PySem.W.findIn K (.ref C_String) "__len__" = some (some (.ref f20)))
    (i20 : PySem.W.isFn K (.ref f20) = true)
    (l20 : K.lookup f20 = some ⟨oc20, od20, .func (PySem.W.fnOf "__len__" "String.__len__" (defArgs s_String_len) (defBody s_String_len) (defScope s_String_len) .none kV20 dc20 pm20 an20 cd20 ct20), sl20⟩)
    (c20 : PySem.W.codeIn K cd20 "String.__len__" = true)
    (k20 : PySem.W.keepIn K (.ref f20) = true)
    (a21 : PySem.W.findIn K (.ref C_String) "__eq__" = some (some (.ref f21)))
    (i21 : PySem.W.isFn K (.ref f21) = true)
    (l21 : K.lookup f21 = some ⟨oc21, od21, .func (PySem.W.fnOf "__eq__" "String.__eq__" (defArgs s_String_eq) (defBody s_String_eq) (defScope s_String_eq) .none kV21 dc21 pm21 an21 cd21 ct21), sl21⟩)
    (c21 : PySem.W.codeIn K cd21 "String.__eq__" = true)
    (k21 : PySem.W.keepIn K (.ref f21) = true)
    (a22 : PySem.W.findIn K (.ref C_String) "__repr__" = some (some (.ref f22)))
    (i22 : PySem.W.isFn K (.ref f22) = true)
    (l22 : K.lookup f22 = some ⟨oc22, od22, .func (PySem.W.fnOf "__repr__" "String.__repr__" (defArgs s_String_repr) (defBody s_String_repr) (defScope s_String_repr) .none kV22 dc22 pm22 an22 cd22 ct22), sl22⟩)
    (c22 : PySem.W.codeIn K cd22 "String.__repr__" = true)
    (k22 : PySem.W.keepIn K (.ref f22) = true)
    (a23 : PySem.W.findIn K (.ref C_String) "__str__" = some (some (.ref f23)))
    (i23 : PySem.W.isFn K (.ref f23) = true)
    (l23 : K.lookup f23 = some ⟨oc23, od23, .func (PySem.W.fnOf "__str__" "String.__str__" (defArgs s_String_str) (defBody s_String_str) (defScope s_String_str) .none kV23 dc23 pm23 an23 cd23 ct23), sl23⟩)
    (c23 : PySem.W.codeIn K cd23 "String.__str__" = true)
    (k23 : PySem.W.keepIn K (.ref f23) = true)
    (a24 : PySem.W.nsIn K mainGlobals "is_measure" = some (some (.ref f24)))
    (l24 : K.lookup f24 = some ⟨oc24, od24, .func (PySem.W.fnOf "is_measure" "is_measure" (defArgs s_is_measure) (defBody s_is_measure) (defScope s_is_measure) .none kV24 dc24 pm24 an24 cd24 ct24), sl24⟩)
    (c24 : PySem.W.codeIn K cd24 "is_measure" = true)
    (k24 : PySem.W.keepIn K (.ref f24) = true)
    (a25 : PySem.W.findIn K (.ref C_Bead) "__init__" = some (some (.ref f25)))
    (i25 : PySem.W.isFn K (.ref f25) = true)
    (l25 : K.lookup f25 = some ⟨oc25, od25, .func (PySem.W.fnOf "__init__" "Bead.__init__" (defArgs s_Bead_init) (defBody s_Bead_init) (defScope s_Bead_init) (.ref T25) kV25 dc25 pm25 an25 cd25 ct25), sl25⟩)
    (d25 : K.lookup T25 = some ⟨oT25, dT25, .seq (List.toArray [.str "round" td25_0, .bool false]) nT25, sT25⟩)
    (c25 : PySem.W.codeIn K cd25 "Bead.__init__" = true)
    (k25 : PySem.W.keepIn K (.ref f25) = true)
    (a26 : PySem.W.findIn K (.ref C_Bead) "row" = some (some (.ref f26)))
    (i26 : PySem.W.isFn K (.ref f26) = true)
    (l26 : K.lookup f26 = some ⟨oc26, od26, .func (PySem.W.fnOf "row" "Bead.row" (defArgs s_Bead_row) (defBody s_Bead_row) (defScope s_Bead_row) .none kV26 dc26 pm26 an26 cd26 ct26), sl26⟩)
    (c26 : PySem.W.codeIn K cd26 "Bead.row" = true)
    (k26 : PySem.W.keepIn K (.ref f26) = true)
    (a27 : PySem.W.findIn K (.ref C_Bead) "__eq__" = some (some (.ref f27)))
    (i27 : PySem.W.isFn K (.ref f27) = true)
    (l27 : K.lookup f27 = some ⟨oc27, od27, .func (PySem.W.fnOf "__eq__" "Bead.__eq__" (defArgs s_Bead_eq) (defBody s_Bead_eq) (defScope s_Bead_eq) .none kV27 dc27 pm27 an27 cd27 ct27), sl27⟩)
    (c27 : PySem.W.codeIn K cd27 "Bead.__eq__" = true)
    (k27 : PySem.W.keepIn K (.ref f27) = true)
    (a28 : PySem.W.findIn K (.ref C_Bead) "__repr__" = some (some (.ref f28)))
    (i28 : PySem.W.isFn K (.ref f28) = true)
    (l28 : K.lookup f28 = some ⟨oc28, od28, .func (PySem.W.fnOf "__repr__" "Bead.__repr__" (defArgs s_Bead_repr) (defBody s_Bead_repr) (defScope s_Bead_repr) .none kV28 dc28 pm28 an28 cd28 ct28), sl28⟩)
    (c28 : PySem.W.codeIn K cd28 "Bead.__repr__" = true)
    (k28 : PySem.W.keepIn K (.ref f28) = true)
    (a29 : PySem.W.findIn K (.ref C_Bead) "__str__" = some (some (.ref f29)))
    (i29 : PySem.W.isFn K (.ref f29) = true)
    (l29 : K.lookup f29 = some ⟨oc29, od29, .func (PySem.W.fnOf "__str__" "Bead.__str__" (defArgs s_Bead_str) (defBody s_Bead_str) (defScope s_Bead_str) .none kV29 dc29 pm29 an29 cd29 ct29), sl29⟩)
    (c29 : PySem.W.codeIn K cd29 "Bead.__str__" = true)
    (k29 : PySem.W.keepIn K (.ref f29) = true)
    (a30 : PySem.W.nsIn K mainGlobals "_law_cell_at" = some (some (.ref f30)))
    (l30 : K.lookup f30 = some ⟨oc30, od30, .func (PySem.W.fnOf "_law_cell_at" "_law_cell_at" (defArgs s_cell_at) (defBody s_cell_at) (defScope s_cell_at) .none kV30 dc30 pm30 an30 cd30 ct30), sl30⟩)
    (c30 : PySem.W.codeIn K cd30 "_law_cell_at" = true)
    (k30 : PySem.W.keepIn K (.ref f30) = true)
    (a31 : PySem.W.nsIn K mainGlobals "_law_well" = some (some (.ref f31)))
    (l31 : K.lookup f31 = some ⟨oc31, od31, .func (PySem.W.fnOf "_law_well" "_law_well" (defArgs s_well) (defBody s_well) (defScope s_well) .none kV31 dc31 pm31 an31 cd31 ct31), sl31⟩)
    (c31 : PySem.W.codeIn K cd31 "_law_well" = true)
    (k31 : PySem.W.keepIn K (.ref f31) = true)
    (a32 : PySem.W.nsIn K mainGlobals "_law_draw" = some (some (.ref f32)))
    (l32 : K.lookup f32 = some ⟨oc32, od32, .func (PySem.W.fnOf "_law_draw" "_law_draw" (defArgs s_draw) (defBody s_draw) (defScope s_draw) .none kV32 dc32 pm32 an32 cd32 ct32), sl32⟩)
    (c32 : PySem.W.codeIn K cd32 "_law_draw" = true)
    (k32 : PySem.W.keepIn K (.ref f32) = true)
    (a33 : PySem.W.nsIn K mainGlobals "_law_one" = some (some (.ref f33)))
    (l33 : K.lookup f33 = some ⟨oc33, od33, .func (PySem.W.fnOf "_law_one" "_law_one" (defArgs s_one) (defBody s_one) (defScope s_one) .none kV33 dc33 pm33 an33 cd33 ct33), sl33⟩)
    (c33 : PySem.W.codeIn K cd33 "_law_one" = true)
    (k33 : PySem.W.keepIn K (.ref f33) = true)
    (a34 : PySem.W.nsIn K mainGlobals "_law_word" = some (some (.ref f34)))
    (l34 : K.lookup f34 = some ⟨oc34, od34, .func (PySem.W.fnOf "_law_word" "_law_word" (defArgs s_word) (defBody s_word) (defScope s_word) .none kV34 dc34 pm34 an34 cd34 ct34), sl34⟩)
    (c34 : PySem.W.codeIn K cd34 "_law_word" = true)
    (k34 : PySem.W.keepIn K (.ref f34) = true)
    (a35 : PySem.W.nsIn K mainGlobals "_law_rule" = some (some (.ref f35)))
    (l35 : K.lookup f35 = some ⟨oc35, od35, .func (PySem.W.fnOf "_law_rule" "_law_rule" (defArgs s_rule) (defBody s_rule) (defScope s_rule) .none kV35 dc35 pm35 an35 cd35 ct35), sl35⟩)
    (c35 : PySem.W.codeIn K cd35 "_law_rule" = true)
    (k35 : PySem.W.keepIn K (.ref f35) = true)
    (a36 : PySem.W.nsIn K mainGlobals "_law_near" = some (some (.ref f36)))
    (l36 : K.lookup f36 = some ⟨oc36, od36, .func (PySem.W.fnOf "_law_near" "_law_near" (defArgs s_near) (defBody s_near) (defScope s_near) .none kV36 dc36 pm36 an36 cd36 ct36), sl36⟩)
    (c36 : PySem.W.codeIn K cd36 "_law_near" = true)
    (k36 : PySem.W.keepIn K (.ref f36) = true)
    (a37 : PySem.W.nsIn K mainGlobals "_law_across" = some (some (.ref f37)))
    (l37 : K.lookup f37 = some ⟨oc37, od37, .func (PySem.W.fnOf "_law_across" "_law_across" (defArgs s_across) (defBody s_across) (defScope s_across) .none kV37 dc37 pm37 an37 cd37 ct37), sl37⟩)
    (c37 : PySem.W.codeIn K cd37 "_law_across" = true)
    (k37 : PySem.W.keepIn K (.ref f37) = true)
    (a38 : PySem.W.nsIn K mainGlobals "_law_rows" = some (some (.ref f38)))
    (l38 : K.lookup f38 = some ⟨oc38, od38, .func (PySem.W.fnOf "_law_rows" "_law_rows" (defArgs s_rows) (defBody s_rows) (defScope s_rows) .none kV38 dc38 pm38 an38 cd38 ct38), sl38⟩)
    (c38 : PySem.W.codeIn K cd38 "_law_rows" = true)
    (k38 : PySem.W.keepIn K (.ref f38) = true)
    (a39 : PySem.W.nsIn K mainGlobals "_law_bead" = some (some (.ref f39)))
    (l39 : K.lookup f39 = some ⟨oc39, od39, .func (PySem.W.fnOf "_law_bead" "_law_bead" (defArgs s_bead) (defBody s_bead) (defScope s_bead) .none kV39 dc39 pm39 an39 cd39 ct39), sl39⟩)
    (c39 : PySem.W.codeIn K cd39 "_law_bead" = true)
    (k39 : PySem.W.keepIn K (.ref f39) = true)
    (a40 : PySem.W.nsIn K mainGlobals "_law_clean" = some (some (.ref f40)))
    (l40 : K.lookup f40 = some ⟨oc40, od40, .func (PySem.W.fnOf "_law_clean" "_law_clean" (defArgs s_clean) (defBody s_clean) (defScope s_clean) .none kV40 dc40 pm40 an40 cd40 ct40), sl40⟩)
    (c40 : PySem.W.codeIn K cd40 "_law_clean" = true)
    (k40 : PySem.W.keepIn K (.ref f40) = true)
    (a41 : PySem.W.nsIn K mainGlobals "_law_step_bars" = some (some (.ref f41)))
    (l41 : K.lookup f41 = some ⟨oc41, od41, .func (PySem.W.fnOf "_law_step_bars" "_law_step_bars" (defArgs s_step_bars) (defBody s_step_bars) (defScope s_step_bars) .none kV41 dc41 pm41 an41 cd41 ct41), sl41⟩)
    (c41 : PySem.W.codeIn K cd41 "_law_step_bars" = true)
    (k41 : PySem.W.keepIn K (.ref f41) = true)
    (a42 : PySem.W.nsIn K mainGlobals "_law_why" = some (some (.ref f42)))
    (l42 : K.lookup f42 = some ⟨oc42, od42, .func (PySem.W.fnOf "_law_why" "_law_why" (defArgs s_why) (defBody s_why) (defScope s_why) .none kV42 dc42 pm42 an42 cd42 ct42), sl42⟩)
    (c42 : PySem.W.codeIn K cd42 "_law_why" = true)
    (k42 : PySem.W.keepIn K (.ref f42) = true)
    (a43 : PySem.W.nsIn K mainGlobals "_law_made" = some (some (.ref f43)))
    (l43 : K.lookup f43 = some ⟨oc43, od43, .func (PySem.W.fnOf "_law_made" "_law_made" (defArgs s_made) (defBody s_made) (defScope s_made) .none kV43 dc43 pm43 an43 cd43 ct43), sl43⟩)
    (c43 : PySem.W.codeIn K cd43 "_law_made" = true)
    (k43 : PySem.W.keepIn K (.ref f43) = true)
    (a44 : PySem.W.nsIn K mainGlobals "_law_shown" = some (some (.ref f44)))
    (l44 : K.lookup f44 = some ⟨oc44, od44, .func (PySem.W.fnOf "_law_shown" "_law_shown" (defArgs s_shown) (defBody s_shown) (defScope s_shown) .none kV44 dc44 pm44 an44 cd44 ct44), sl44⟩)
    (c44 : PySem.W.codeIn K cd44 "_law_shown" = true)
    (k44 : PySem.W.keepIn K (.ref f44) = true)
    (a45 : PySem.W.nsIn K mainGlobals "_law_right" = some (some (.ref f45)))
    (l45 : K.lookup f45 = some ⟨oc45, od45, .func (PySem.W.fnOf "_law_right" "_law_right" (defArgs s_right) (defBody s_right) (defScope s_right) .none kV45 dc45 pm45 an45 cd45 ct45), sl45⟩)
    (c45 : PySem.W.codeIn K cd45 "_law_right" = true)
    (k45 : PySem.W.keepIn K (.ref f45) = true)
    (a46 : PySem.W.nsIn K mainGlobals "_law_plain" = some (some (.ref f46)))
    (l46 : K.lookup f46 = some ⟨oc46, od46, .func (PySem.W.fnOf "_law_plain" "_law_plain" (defArgs s_plain) (defBody s_plain) (defScope s_plain) .none kV46 dc46 pm46 an46 cd46 ct46), sl46⟩)
    (c46 : PySem.W.codeIn K cd46 "_law_plain" = true)
    (k46 : PySem.W.keepIn K (.ref f46) = true)
    (a47 : PySem.W.nsIn K mainGlobals "_law_others" = some (some (.ref f47)))
    (l47 : K.lookup f47 = some ⟨oc47, od47, .func (PySem.W.fnOf "_law_others" "_law_others" (defArgs s_others) (defBody s_others) (defScope s_others) .none kV47 dc47 pm47 an47 cd47 ct47), sl47⟩)
    (c47 : PySem.W.codeIn K cd47 "_law_others" = true)
    (k47 : PySem.W.keepIn K (.ref f47) = true)
    (a48 : PySem.W.nsIn K mainGlobals "law" = some (some (.ref f48)))
    (l48 : K.lookup f48 = some ⟨oc48, od48, .func (PySem.W.fnOf "law" "law" (defArgs s_law) (defBody s_law) (defScope s_law) .none kV48 dc48 pm48 an48 cd48 ct48), sl48⟩)
    (c48 : PySem.W.codeIn K cd48 "law" = true)
    (k48 : PySem.W.keepIn K (.ref f48) = true)
    (q0 : PySem.W.nsIn K mainGlobals "LONGEST_NAME" = some (some (.int 8 tc0)))
    (q1 : PySem.W.nsIn K mainGlobals "GREATEST_NUMBER" = some (some (.int 1000000000 tc1)))
    (q2 : PySem.W.nsIn K mainGlobals "GROUP_FIGURES" = some (some (.int 60 tc2)))
    (q3 : PySem.W.nsIn K mainGlobals "GROUP" = some (some (.int 1000000000000000000000000000000000000000000000000000000000000 tc3)))
    (q4 : PySem.W.nsIn K mainGlobals "GREATEST_MEASURE" = some (some (.int 1000000 tc4)))
    (z0 : PySem.W.nsIn K mainGlobals "ValueError" = some none)
    (z1 : PySem.W.nsIn K mainGlobals "bool" = some none)
    (z2 : PySem.W.nsIn K mainGlobals "isinstance" = some none)
    (z3 : PySem.W.nsIn K mainGlobals "int" = some none)
    (z4 : PySem.W.nsIn K mainGlobals "len" = some none)
    (z5 : PySem.W.nsIn K mainGlobals "str" = some none)
    (z6 : PySem.W.nsIn K mainGlobals "all" = some none)
    (z7 : PySem.W.nsIn K mainGlobals "abs" = some none)
    (z8 : PySem.W.nsIn K mainGlobals "divmod" = some none)
    (z9 : PySem.W.nsIn K mainGlobals "any" = some none)
    (z10 : PySem.W.nsIn K mainGlobals "enumerate" = some none)
    (z11 : PySem.W.nsIn K mainGlobals "tuple" = some none)
    (z12 : PySem.W.nsIn K mainGlobals "list" = some none)
    (z13 : PySem.W.nsIn K mainGlobals "range" = some none)
    (z14 : PySem.W.nsIn K mainGlobals "max" = some none)
    (z15 : PySem.W.nsIn K mainGlobals "min" = some none)
    (z16 : PySem.W.nsIn K mainGlobals "repr" = some none)
    (xL_NotLet : K.lookup C_NotLet = some (excClassObj nm_NotLet q_NotLet C_NotLet N_NotLet bs_NotLet [.ref C_PearlError, .type "ValueError", .type "Exception", .type "BaseException", .type "object"] true sn_NotLet sub_NotLet ab_NotLet col_NotLet dd_NotLet m0_NotLet m1_NotLet m2_NotLet m3_NotLet m5_NotLet "ValueError.__new__"))
    (xsa_NotLet : PySem.W.findIn K (.ref C_NotLet) "__setattr__" = some (some (.builtin "object.__setattr__")))
    (xe_NotLet : PySem.W.subIn K (.ref C_NotLet) (.type "BaseException") = some true)
    (xt_NotLet : PySem.W.typeIn K (.ref C_NotLet) = some (.type "type"))
    (xk_NotLet : PySem.W.keepIn K (.ref C_NotLet) = true)
    (xi_NotLet : PySem.W.findIn K (.ref C_NotLet) "__init__" = some (some (.ref f1)))
    (xga_NotLet : PySem.W.findIn K (.ref C_NotLet) "__getattribute__" = some (some (.builtin "BaseException.__getattribute__")))
    (xgg_NotLet : PySem.W.findIn K (.ref C_NotLet) "__getattr__" = some none)
    (xhd_NotLet : PySem.W.hasDictIn K C_NotLet = true)
    (xca_NotLet : PySem.W.findIn K (.ref C_NotLet) "__class__" = some (some (.builtin "object.__class__")))
    (xcg_NotLet : PySem.W.specialIn K (.builtin "object.__class__") "__get__" = some (some (.builtin "getset_descriptor.__get__")))
    (xct_NotLet : PySem.W.takesIn K (.builtin "object.__class__") = some true)
    (xmo_NotLet : PySem.W.mroIn K C_NotLet (.type "object") = some true)
    (xn_NotLet_at : PySem.W.findIn K (.ref C_NotLet) "at" = some none)
    (xn_NotLet_why : PySem.W.findIn K (.ref C_NotLet) "why" = some none)
    (xs_NotLet_PearlError : PySem.W.subIn K (.ref C_NotLet) (.ref C_PearlError) = some true)
    (ye_PearlError : PySem.W.subIn K (.ref C_PearlError) (.type "BaseException") = some true)
    (yh_PearlError : PySem.W.hasDictIn K C_PearlError = true)
    (yt_PearlError : PySem.W.typeIn K (.ref C_PearlError) = some (.type "type"))
    (vV : PySem.W.findCls K (.type "ValueError") (.type "type") "__init__" = some (.val (.builtin "ValueError.__init__")))
    (ir1_Bead : PySem.W.findIn K (.ref C_Bead) "__class__" = some (some (.builtin "object.__class__")))
    (ir4_Bead : PySem.W.mroIn K C_Bead (.type "object") = some true)
    (ir1_Rule : PySem.W.findIn K (.ref C_Rule) "__class__" = some (some (.builtin "object.__class__")))
    (ir4_Rule : PySem.W.mroIn K C_Rule (.type "object") = some true)
    (ir1_String : PySem.W.findIn K (.ref C_String) "__class__" = some (some (.builtin "object.__class__")))
    (ir4_String : PySem.W.mroIn K C_String (.type "object") = some true)
    (xcg : PySem.W.specialIn K (.builtin "object.__class__") "__get__" = some (some (.builtin "getset_descriptor.__get__")))
    (xct : PySem.W.takesIn K (.builtin "object.__class__") = some true)
    (sn_Bead : PySem.W.subIn K (.ref C_Bead) (.type "NoneType") = some false)
    (su_Bead : PySem.W.subIn K (.type "NoneType") (.ref C_Bead) = some false)
    (no_Bead : PySem.W.kitOne K (.type "NoneType") (.ref C_Bead) = some false)
    (bb_Bead : PySem.W.findIn K (.ref C_Bead) "__bool__" = some none)
    (bl_Bead : PySem.W.findIn K (.ref C_Bead) "__len__" = some none)
    (cf1 : PySem.W.specialIn K (.ref C_PearlError) "__getattribute__" = some (some (.builtin "type.__getattribute__")))
    (cf2 : PySem.W.readsIn K C_PearlError (.type "type") = true)
    (cf3 : PySem.W.findCls K (.ref C_PearlError) (.type "type") "__init__" = some (.val (.ref f0)))
    (sn_String : PySem.W.subIn K (.ref C_String) (.type "NoneType") = some false)
    (sS_int : PySem.W.subIn K (.ref C_String) (.type "int") = some false)
    (sS_str : PySem.W.subIn K (.ref C_String) (.type "str") = some false)
    (sS_bool : PySem.W.subIn K (.ref C_String) (.type "bool") = some false)
    (sS_list : PySem.W.subIn K (.ref C_String) (.type "list") = some false)
    (sS_tuple : PySem.W.subIn K (.ref C_String) (.type "tuple") = some false)
    (suS_int : PySem.W.subIn K (.type "int") (.ref C_String) = some false)
    (noS_int : PySem.W.kitOne K (.type "int") (.ref C_String) = some false)
    (suS_str : PySem.W.subIn K (.type "str") (.ref C_String) = some false)
    (noS_str : PySem.W.kitOne K (.type "str") (.ref C_String) = some false)
    (suS_NoneType : PySem.W.subIn K (.type "NoneType") (.ref C_String) = some false)
    (noS_NoneType : PySem.W.kitOne K (.type "NoneType") (.ref C_String) = some false)
    (suS_list : PySem.W.subIn K (.type "list") (.ref C_String) = some false)
    (noS_list : PySem.W.kitOne K (.type "list") (.ref C_String) = some false)
    (bb_String : PySem.W.findIn K (.ref C_String) "__bool__" = some none) :
    ∃ fd : FuncData, (∀ (s : Shared) (v : Value), BindsTo s fd ⟨[v], []⟩ [("_law_script", v)]) ∧ ∀ base : Heap, K.In base → base.Ns mainGlobals mg → FnG l.prog w K mg base CX0 18 fa fd ["_law_script"] (spLaw K) := by
  have e := hfa.symm.trans (PySem.W.mg_of X G a48)
  cases e
  have F0 : FunD K "__init__" "PearlError.__init__" (defArgs s_PearlError_init) (defBody s_PearlError_init) (defScope s_PearlError_init) [.str ""] [] f0 (PySem.W.fnOf "__init__" "PearlError.__init__" (defArgs s_PearlError_init) (defBody s_PearlError_init) (defScope s_PearlError_init) (.ref T0) kV0 dc0 pm0 an0 cd0 ct0) := ⟨⟨_, _, _, _, _, _, _, _, _, _, rfl, l0, c0, .inr ⟨(fun z => nomatch z), _, _, _, _, rfl, d0, rfl, .cons ⟨_, rfl⟩ (.nil)⟩, .inl rfl⟩, k0⟩
  have F1 := fun_mk (st := s_NotLet_init) l1 c1 k1
  have F2 := fun_mk (st := s_is_int) l2 c2 k2
  have F3 := fun_mk (st := s_is_whole) l3 c3 k3
  have F4 := fun_mk (st := s_is_from_nought) l4 c4 k4
  have F5 := fun_mk (st := s_is_name) l5 c5 k5
  have F6 := fun_mk (st := s_is_number) l6 c6 k6
  have F7 := fun_mk (st := s_figures) l7 c7 k7
  have F8 : FunD K "__init__" "Rule.__init__" (defArgs s_Rule_init) (defBody s_Rule_init) (defScope s_Rule_init) [.int 0, .int 10, .int 0, .bl true] [] f8 (PySem.W.fnOf "__init__" "Rule.__init__" (defArgs s_Rule_init) (defBody s_Rule_init) (defScope s_Rule_init) (.ref T8) kV8 dc8 pm8 an8 cd8 ct8) := ⟨⟨_, _, _, _, _, _, _, _, _, _, rfl, l8, c8, .inr ⟨(fun z => nomatch z), _, _, _, _, rfl, d8, rfl, .cons ⟨_, rfl⟩ (.cons ⟨_, rfl⟩ (.cons ⟨_, rfl⟩ (.cons rfl (.nil))))⟩, .inl rfl⟩, k8⟩
  have F9 := fun_mk (st := s_Rule_eq) l9 c9 k9
  have F10 := fun_mk (st := s_Rule_repr) l10 c10 k10
  have F11 := fun_mk (st := s_stands_ahead) l11 c11 k11
  have F12 := fun_mk (st := s_breaks_step) l12 c12 k12
  have F13 := fun_mk (st := s_partner_of) l13 c13 k13
  have F14 := fun_mk (st := s_same_look) l14 c14 k14
  have F15 := fun_mk (st := s_reason_at) l15 c15 k15
  have F16 := fun_mk (st := s_barred) l16 c16 k16
  have F17 := fun_mk (st := s_String_init) l17 c17 k17
  have F18 := fun_mk (st := s_String_beads) l18 c18 k18
  have F19 := fun_mk (st := s_String_gaps) l19 c19 k19
  have F20 := fun_mk (st := s_String_len) l20 c20 k20
  have F21 := fun_mk (st := s_String_eq) l21 c21 k21
  have F22 := fun_mk (st := s_String_repr) l22 c22 k22
  have F23 := fun_mk (st := s_String_str) l23 c23 k23
  have F24 := fun_mk (st := s_is_measure) l24 c24 k24
  have F25 : FunD K "__init__" "Bead.__init__" (defArgs s_Bead_init) (defBody s_Bead_init) (defScope s_Bead_init) [.str "round", .bl false] [] f25 (PySem.W.fnOf "__init__" "Bead.__init__" (defArgs s_Bead_init) (defBody s_Bead_init) (defScope s_Bead_init) (.ref T25) kV25 dc25 pm25 an25 cd25 ct25) := ⟨⟨_, _, _, _, _, _, _, _, _, _, rfl, l25, c25, .inr ⟨(fun z => nomatch z), _, _, _, _, rfl, d25, rfl, .cons ⟨_, rfl⟩ (.cons rfl (.nil))⟩, .inl rfl⟩, k25⟩
  have F26 := fun_mk (st := s_Bead_row) l26 c26 k26
  have F27 := fun_mk (st := s_Bead_eq) l27 c27 k27
  have F28 := fun_mk (st := s_Bead_repr) l28 c28 k28
  have F29 := fun_mk (st := s_Bead_str) l29 c29 k29
  have F30 := fun_mk (st := s_cell_at) l30 c30 k30
  have F31 := fun_mk (st := s_well) l31 c31 k31
  have F32 := fun_mk (st := s_draw) l32 c32 k32
  have F33 := fun_mk (st := s_one) l33 c33 k33
  have F34 := fun_mk (st := s_word) l34 c34 k34
  have F35 := fun_mk (st := s_rule) l35 c35 k35
  have F36 := fun_mk (st := s_near) l36 c36 k36
  have F37 := fun_mk (st := s_across) l37 c37 k37
  have F38 := fun_mk (st := s_rows) l38 c38 k38
  have F39 := fun_mk (st := s_bead) l39 c39 k39
  have F40 := fun_mk (st := s_clean) l40 c40 k40
  have F41 := fun_mk (st := s_step_bars) l41 c41 k41
  have F42 := fun_mk (st := s_why) l42 c42 k42
  have F43 := fun_mk (st := s_made) l43 c43 k43
  have F44 := fun_mk (st := s_shown) l44 c44 k44
  have F45 := fun_mk (st := s_right) l45 c45 k45
  have F46 := fun_mk (st := s_plain) l46 c46 k46
  have F47 := fun_mk (st := s_others) l47 c47 k47
  have F48 := fun_mk (st := s_law) l48 c48 k48
  have b0 : Binds K (PySem.W.fnOf "__init__" "PearlError.__init__" (defArgs s_PearlError_init) (defBody s_PearlError_init) (defScope s_PearlError_init) (.ref T0) kV0 dc0 pm0 an0 cd0 ct0) ["self", "why"] [] := by
    obtain ⟨ds, hv, hb⟩ := F0.binds1 (ps := ["self", "why"]) 2 1 (fun z => nomatch z) rfl fun _ _ _ _ _ _ _ us its h1 h2 => match us, its, h1, h2 with | [_, _], [_], _, _ => ⟨_, rfl, rfl⟩
    cases hv
    exact hb
  have b1 := F1.binds (ps := ["self", "at", "why"]) fun _ _ _ _ _ _ us hl => match us, hl with | [_, _, _], _ => rfl
  have b2 := F2.binds (ps := ["thing"]) fun _ _ _ _ _ _ us hl => match us, hl with | [_], _ => rfl
  have b3 := F3.binds (ps := ["thing", "least", "most"]) fun _ _ _ _ _ _ us hl => match us, hl with | [_, _, _], _ => rfl
  have b4 := F4.binds (ps := ["thing"]) fun _ _ _ _ _ _ us hl => match us, hl with | [_], _ => rfl
  have b5 := F5.binds (ps := ["thing"]) fun _ _ _ _ _ _ us hl => match us, hl with | [_], _ => rfl
  have b6 := F6.binds (ps := ["thing"]) fun _ _ _ _ _ _ us hl => match us, hl with | [_], _ => rfl
  have b7 := F7.binds (ps := ["number"]) fun _ _ _ _ _ _ us hl => match us, hl with | [_], _ => rfl
  have b8 : Binds K (PySem.W.fnOf "__init__" "Rule.__init__" (defArgs s_Rule_init) (defBody s_Rule_init) (defScope s_Rule_init) (.ref T8) kV8 dc8 pm8 an8 cd8 ct8) ["self", "least", "most", "match", "shades"] [] := by
    obtain ⟨ds, hv, hb⟩ := F8.binds1 (ps := ["self", "least", "most", "match", "shades"]) 5 4 (fun z => nomatch z) rfl fun _ _ _ _ _ _ _ us its h1 h2 => match us, its, h1, h2 with | [_, _, _, _, _], [_, _, _, _], _, _ => ⟨_, rfl, rfl⟩
    cases hv
    exact hb
  have b9 := F9.binds (ps := ["self", "other"]) fun _ _ _ _ _ _ us hl => match us, hl with | [_, _], _ => rfl
  have b10 := F10.binds (ps := ["self"]) fun _ _ _ _ _ _ us hl => match us, hl with | [_], _ => rfl
  have b11 := F11.binds (ps := ["beads", "at"]) fun _ _ _ _ _ _ us hl => match us, hl with | [_, _], _ => rfl
  have b12 := F12.binds (ps := ["beads", "at", "rule"]) fun _ _ _ _ _ _ us hl => match us, hl with | [_, _, _], _ => rfl
  have b13 := F13.binds (ps := ["beads", "at"]) fun _ _ _ _ _ _ us hl => match us, hl with | [_, _], _ => rfl
  have b14 := F14.binds (ps := ["bead", "other"]) fun _ _ _ _ _ _ us hl => match us, hl with | [_, _], _ => rfl
  have b15 := F15.binds (ps := ["beads", "at", "rule"]) fun _ _ _ _ _ _ us hl => match us, hl with | [_, _, _], _ => rfl
  have b16 := F16.binds (ps := ["beads", "rule"]) fun _ _ _ _ _ _ us hl => match us, hl with | [_, _], _ => rfl
  have b17 := F17.binds (ps := ["self", "beads", "rule"]) fun _ _ _ _ _ _ us hl => match us, hl with | [_, _, _], _ => rfl
  have b18 := F18.binds (ps := ["self"]) fun _ _ _ _ _ _ us hl => match us, hl with | [_], _ => rfl
  have b19 := F19.binds (ps := ["self"]) fun _ _ _ _ _ _ us hl => match us, hl with | [_], _ => rfl
  have b20 := F20.binds (ps := ["self"]) fun _ _ _ _ _ _ us hl => match us, hl with | [_], _ => rfl
  have b21 := F21.binds (ps := ["self", "other"]) fun _ _ _ _ _ _ us hl => match us, hl with | [_, _], _ => rfl
  have b22 := F22.binds (ps := ["self"]) fun _ _ _ _ _ _ us hl => match us, hl with | [_], _ => rfl
  have b23 := F23.binds (ps := ["self"]) fun _ _ _ _ _ _ us hl => match us, hl with | [_], _ => rfl
  have b24 := F24.binds (ps := ["thing"]) fun _ _ _ _ _ _ us hl => match us, hl with | [_], _ => rfl
  have b25 : Binds K (PySem.W.fnOf "__init__" "Bead.__init__" (defArgs s_Bead_init) (defBody s_Bead_init) (defScope s_Bead_init) (.ref T25) kV25 dc25 pm25 an25 cd25 ct25) ["self", "number", "across", "weight", "shade", "form", "drilled"] [] := by
    obtain ⟨ds, hv, hb⟩ := F25.binds1 (ps := ["self", "number", "across", "weight", "shade", "form", "drilled"]) 7 2 (fun z => nomatch z) rfl fun _ _ _ _ _ _ _ us its h1 h2 => match us, its, h1, h2 with | [_, _, _, _, _, _, _], [_, _], _, _ => ⟨_, rfl, rfl⟩
    cases hv
    exact hb
  have b26 := F26.binds (ps := ["self"]) fun _ _ _ _ _ _ us hl => match us, hl with | [_], _ => rfl
  have b27 := F27.binds (ps := ["self", "other"]) fun _ _ _ _ _ _ us hl => match us, hl with | [_, _], _ => rfl
  have b28 := F28.binds (ps := ["self"]) fun _ _ _ _ _ _ us hl => match us, hl with | [_], _ => rfl
  have b29 := F29.binds (ps := ["self"]) fun _ _ _ _ _ _ us hl => match us, hl with | [_], _ => rfl
  have b30 := F30.binds (ps := ["_law_script", "_law_k"]) fun _ _ _ _ _ _ us hl => match us, hl with | [_, _], _ => rfl
  have b31 := F31.binds (ps := ["_law_cell"]) fun _ _ _ _ _ _ us hl => match us, hl with | [_], _ => rfl
  have b32 := F32.binds (ps := ["_law_well_here", "_law_many"]) fun _ _ _ _ _ _ us hl => match us, hl with | [_, _], _ => rfl
  have b33 := F33.binds (ps := ["_law_well_here", "_law_some"]) fun _ _ _ _ _ _ us hl => match us, hl with | [_, _], _ => rfl
  have b34 := F34.binds (ps := ["_law_well_here"]) fun _ _ _ _ _ _ us hl => match us, hl with | [_], _ => rfl
  have b35 := F35.binds (ps := ["_law_well_here"]) fun _ _ _ _ _ _ us hl => match us, hl with | [_], _ => rfl
  have b36 := F36.binds (ps := ["_law_well_here", "_law_low", "_law_top"]) fun _ _ _ _ _ _ us hl => match us, hl with | [_, _, _], _ => rfl
  have b37 := F37.binds (ps := ["_law_well_here", "_law_places", "_law_rule_here"]) fun _ _ _ _ _ _ us hl => match us, hl with | [_, _, _], _ => rfl
  have b38 := F38.binds (ps := ["_law_well_here", "_law_places", "_law_rule_here"]) fun _ _ _ _ _ _ us hl => match us, hl with | [_, _, _], _ => rfl
  have b39 := F39.binds (ps := ["_law_row"]) fun _ _ _ _ _ _ us hl => match us, hl with | [_], _ => rfl
  have b40 := F40.binds (ps := ["_law_well_here", "_law_places", "_law_four"]) fun _ _ _ _ _ _ us hl => match us, hl with | [_, _, _], _ => rfl
  have b41 := F41.binds (ps := ["_law_rows_here", "_law_rule_here", "_law_at"]) fun _ _ _ _ _ _ us hl => match us, hl with | [_, _, _], _ => rfl
  have b42 := F42.binds (ps := ["_law_rows_here", "_law_rule_here"]) fun _ _ _ _ _ _ us hl => match us, hl with | [_, _], _ => rfl
  have b43 := F43.binds (ps := ["_law_beads", "_law_rule_here"]) fun _ _ _ _ _ _ us hl => match us, hl with | [_, _], _ => rfl
  have b44 := F44.binds (ps := ["_law_row"]) fun _ _ _ _ _ _ us hl => match us, hl with | [_], _ => rfl
  have b45 := F45.binds (ps := ["_law_string", "_law_rows_here", "_law_four"]) fun _ _ _ _ _ _ us hl => match us, hl with | [_, _, _], _ => rfl
  have b46 := F46.binds (ps := ["_law_rows_here"]) fun _ _ _ _ _ _ us hl => match us, hl with | [_], _ => rfl
  have b47 := F47.binds (ps := ["_law_well_here", "_law_rows_here", "_law_four"]) fun _ _ _ _ _ _ us hl => match us, hl with | [_, _, _], _ => rfl
  let T : Tx K mg := ⟨C_Bead, ⟨pg_Bead, hd_Bead, po_Bead, sa_Bead⟩, PySem.W.mg_of X G aC_Bead, n_Bead_number, n_Bead_across, n_Bead_weight, n_Bead_shade, n_Bead_form, n_Bead_drilled,
    C_Rule, ⟨pg_Rule, hd_Rule, po_Rule, sa_Rule⟩, PySem.W.mg_of X G aC_Rule, n_Rule_least, n_Rule_most, n_Rule_match, n_Rule_shades,
    C_String, ⟨pg_String, hd_String, po_String, sa_String⟩, PySem.W.mg_of X G aC_String, n_String_held, n_String_rule,
    _, _, F0, b0,
    _, _, F1, b1,
    _, _, F2, PySem.W.mg_of X G a2, b2,
    _, _, F3, PySem.W.mg_of X G a3, b3,
    _, _, F4, PySem.W.mg_of X G a4, b4,
    _, _, F5, PySem.W.mg_of X G a5, b5,
    _, _, F6, PySem.W.mg_of X G a6, b6,
    _, _, F7, PySem.W.mg_of X G a7, b7,
    _, _, F8, ⟨mk_Rule, a8, i8, kc_Rule⟩, b8,
    _, _, F9, ⟨a9, i9, k9⟩, b9,
    _, _, F10, ⟨a10, i10, k10⟩, b10,
    _, _, F11, PySem.W.mg_of X G a11, b11,
    _, _, F12, PySem.W.mg_of X G a12, b12,
    _, _, F13, PySem.W.mg_of X G a13, b13,
    _, _, F14, PySem.W.mg_of X G a14, b14,
    _, _, F15, PySem.W.mg_of X G a15, b15,
    _, _, F16, PySem.W.mg_of X G a16, b16,
    _, _, F17, ⟨mk_String, a17, i17, kc_String⟩, b17,
    _, _, F18, ⟨a18, i18, k18⟩, b18,
    _, _, F19, ⟨a19, i19, k19⟩, b19,
    _, _, F20, ⟨a20, i20, k20⟩, b20,
    _, _, F21, ⟨a21, i21, k21⟩, b21,
    _, _, F22, ⟨a22, i22, k22⟩, b22,
    _, _, F23, ⟨a23, i23, k23⟩, b23,
    _, _, F24, PySem.W.mg_of X G a24, b24,
    _, _, F25, ⟨mk_Bead, a25, i25, kc_Bead⟩, b25,
    _, _, F26, ⟨a26, i26, k26⟩, b26,
    _, _, F27, ⟨a27, i27, k27⟩, b27,
    _, _, F28, ⟨a28, i28, k28⟩, b28,
    _, _, F29, ⟨a29, i29, k29⟩, b29,
    _, _, F30, PySem.W.mg_of X G a30, b30,
    _, _, F31, PySem.W.mg_of X G a31, b31,
    _, _, F32, PySem.W.mg_of X G a32, b32,
    _, _, F33, PySem.W.mg_of X G a33, b33,
    _, _, F34, PySem.W.mg_of X G a34, b34,
    _, _, F35, PySem.W.mg_of X G a35, b35,
    _, _, F36, PySem.W.mg_of X G a36, b36,
    _, _, F37, PySem.W.mg_of X G a37, b37,
    _, _, F38, PySem.W.mg_of X G a38, b38,
    _, _, F39, PySem.W.mg_of X G a39, b39,
    _, _, F40, PySem.W.mg_of X G a40, b40,
    _, _, F41, PySem.W.mg_of X G a41, b41,
    _, _, F42, PySem.W.mg_of X G a42, b42,
    _, _, F43, PySem.W.mg_of X G a43, b43,
    _, _, F44, PySem.W.mg_of X G a44, b44,
    _, _, F45, PySem.W.mg_of X G a45, b45,
    _, _, F46, PySem.W.mg_of X G a46, b46,
    _, _, F47, PySem.W.mg_of X G a47, b47,
    C_PearlError, PySem.W.mg_of X G aC_PearlError,
    C_BadBead, PySem.W.mg_of X G aC_BadBead,
    C_BadRule, PySem.W.mg_of X G aC_BadRule,
    C_NotLet, PySem.W.mg_of X G aC_NotLet,
    ⟨⟨nm_NotLet, q_NotLet, N_NotLet, bs_NotLet, _, sn_NotLet, sub_NotLet, ab_NotLet, col_NotLet, dd_NotLet, m0_NotLet, m1_NotLet, m2_NotLet, m3_NotLet, m5_NotLet, xL_NotLet, rfl⟩, xsa_NotLet, xe_NotLet, xt_NotLet, xk_NotLet⟩,
    xi_NotLet, beq_iff_eq.mp i1,
    ⟨xga_NotLet, xgg_NotLet, xe_NotLet, xhd_NotLet, xca_NotLet, xcg_NotLet, xct_NotLet, xmo_NotLet⟩,
    xn_NotLet_at,
    xn_NotLet_why,
    PySem.W.exm_ref ye_PearlError yh_PearlError yt_PearlError xs_NotLet_PearlError,
    vV,
    ⟨ir1_Bead, xcg, xct, ir4_Bead, if_pos (beq_self_eq_true _)⟩,
    (if_pos (beq_self_eq_true _)),
    ⟨ir1_Rule, xcg, xct, ir4_Rule, if_pos (beq_self_eq_true _)⟩,
    (if_pos (beq_self_eq_true _)),
    ⟨ir1_String, xcg, xct, ir4_String, if_pos (beq_self_eq_true _)⟩,
    (if_pos (beq_self_eq_true _)),
    sn_Bead,
    (by simp [PySem.W.notFirst, su_Bead]),
    no_Bead,
    bb_Bead,
    bl_Bead,
    ⟨cf1, cf2, cf3, k0⟩,
    sn_String,
    sS_int,
    sS_str,
    sS_bool,
    sS_list,
    sS_tuple,
    (by simp [PySem.W.notFirst, suS_int]),
    noS_int,
    (by simp [PySem.W.notFirst, suS_str]),
    noS_str,
    (by simp [PySem.W.notFirst, suS_NoneType]),
    noS_NoneType,
    (by simp [PySem.W.notFirst, suS_list]),
    noS_list,
    bb_String,
    (if_pos (beq_self_eq_true _)),
    _, PySem.W.mg_of X G q0,
    _, PySem.W.mg_of X G q1,
    _, PySem.W.mg_of X G q2,
    _, PySem.W.mg_of X G q3,
    _, PySem.W.mg_of X G q4,
    PySem.W.mg_none_of X G z0,
    PySem.W.mg_none_of X G z1,
    PySem.W.mg_none_of X G z2,
    PySem.W.mg_none_of X G z3,
    PySem.W.mg_none_of X G z4,
    PySem.W.mg_none_of X G z5,
    PySem.W.mg_none_of X G z6,
    PySem.W.mg_none_of X G z7,
    PySem.W.mg_none_of X G z8,
    PySem.W.mg_none_of X G z9,
    PySem.W.mg_none_of X G z10,
    PySem.W.mg_none_of X G z11,
    PySem.W.mg_none_of X G z12,
    PySem.W.mg_none_of X G z13,
    PySem.W.mg_none_of X G z14,
    PySem.W.mg_none_of X G z15,
    PySem.W.mg_none_of X G z16⟩
  exact ⟨PySem.W.fnOf "law" "law" (defArgs s_law) (defBody s_law) (defScope s_law) .none kV48 dc48 pm48 an48 cd48 ct48, fun s v => .of_eq rfl, fun base _ _ => ok_law T F48⟩
end KB
open PySem PySem.W PyProof.Rows
set_option maxRecDepth 100000 in
set_option maxHeartbeats 0 in
theorem PySem.Challenge.cw_pearlrise_k23_whole_strings_told_and_sho_holds : PySem.Challenge.rw_pearlrise_k23_whole_strings_told_and_sho.Holds := by
  w_on; o_law; k_head; (case hw => w_witness2)
  k_fill
  refine KA.walk_G (l := PySem.Challenge.rw_pearlrise_k23_whole_strings_told_and_sho) (n := 63) (k := 18) (x := "_law_script") (CX := fun _ => L2.CX0) (sp := fun w => KB.spLaw _) rfl (by decide) rfl ⟨rfl, by decide, by decide⟩ (fun w h Y => PySem.W.kIn_of Y) ?F (fun _ _ a ns hl _ hS => ⟨a, ns, rfl, hS, hl, fun _ => rfl⟩) (fun _ _ _ _ _ h => h)
  case F =>
    intro w mg fa h KX G hmg
    refine' KB.all_mk KX G hmg ?aC_Bead ?pg_Bead ?hd_Bead ?po_Bead ?sa_Bead ?mk_Bead ?kc_Bead ?n_Bead_number ?n_Bead_across ?n_Bead_weight ?n_Bead_shade ?n_Bead_form ?n_Bead_drilled ?aC_Rule ?pg_Rule ?hd_Rule ?po_Rule ?sa_Rule ?mk_Rule ?kc_Rule ?n_Rule_least ?n_Rule_most ?n_Rule_match ?n_Rule_shades ?aC_String ?pg_String ?hd_String ?po_String ?sa_String ?mk_String ?kc_String ?n_String_held ?n_String_rule ?aC_PearlError ?aC_BadBead ?aC_BadRule ?aC_NotLet ?a0 ?i0 ?l0 ?d0 ?c0 ?k0 ?a1 ?i1 ?l1 ?c1 ?k1 ?a2 ?l2 ?c2 ?k2 ?a3 ?l3 ?c3 ?k3 ?a4 ?l4 ?c4 ?k4 ?a5 ?l5 ?c5 ?k5 ?a6 ?l6 ?c6 ?k6 ?a7 ?l7 ?c7 ?k7 ?a8 ?i8 ?l8 ?d8 ?c8 ?k8 ?a9 ?i9 ?l9 ?c9 ?k9 ?a10 ?i10 ?l10 ?c10 ?k10 ?a11 ?l11 ?c11 ?k11 ?a12 ?l12 ?c12 ?k12 ?a13 ?l13 ?c13 ?k13 ?a14 ?l14 ?c14 ?k14 ?a15 ?l15 ?c15 ?k15 ?a16 ?l16 ?c16 ?k16 ?a17 ?i17 ?l17 ?c17 ?k17 ?a18 ?i18 ?l18 ?c18 ?k18 ?a19 ?i19 ?l19 ?c19 ?k19 ?a20 ?i20 ?l20 ?c20 ?k20 ?a21 ?i21 ?l21 ?c21 ?k21 ?a22 ?i22 ?l22 ?c22 ?k22 ?a23 ?i23 ?l23 ?c23 ?k23 ?a24 ?l24 ?c24 ?k24 ?a25 ?i25 ?l25 ?d25 ?c25 ?k25 ?a26 ?i26 ?l26 ?c26 ?k26 ?a27 ?i27 ?l27 ?c27 ?k27 ?a28 ?i28 ?l28 ?c28 ?k28 ?a29 ?i29 ?l29 ?c29 ?k29 ?a30 ?l30 ?c30 ?k30 ?a31 ?l31 ?c31 ?k31 ?a32 ?l32 ?c32 ?k32 ?a33 ?l33 ?c33 ?k33 ?a34 ?l34 ?c34 ?k34 ?a35 ?l35 ?c35 ?k35 ?a36 ?l36 ?c36 ?k36 ?a37 ?l37 ?c37 ?k37 ?a38 ?l38 ?c38 ?k38 ?a39 ?l39 ?c39 ?k39 ?a40 ?l40 ?c40 ?k40 ?a41 ?l41 ?c41 ?k41 ?a42 ?l42 ?c42 ?k42 ?a43 ?l43 ?c43 ?k43 ?a44 ?l44 ?c44 ?k44 ?a45 ?l45 ?c45 ?k45 ?a46 ?l46 ?c46 ?k46 ?a47 ?l47 ?c47 ?k47 ?a48 ?l48 ?c48 ?k48 ?q0 ?q1 ?q2 ?q3 ?q4 ?z0 ?z1 ?z2 ?z3 ?z4 ?z5 ?z6 ?z7 ?z8 ?z9 ?z10 ?z11 ?z12 ?z13 ?z14 ?z15 ?z16 ?xL_NotLet ?xsa_NotLet ?xe_NotLet ?xt_NotLet ?xk_NotLet ?xi_NotLet ?xga_NotLet ?xgg_NotLet ?xhd_NotLet ?xca_NotLet ?xcg_NotLet ?xct_NotLet ?xmo_NotLet ?xn_NotLet_at ?xn_NotLet_why ?xs_NotLet_PearlError ?ye_PearlError ?yh_PearlError ?yt_PearlError ?vV ?ir1_Bead ?ir4_Bead ?ir1_Rule ?ir4_Rule ?ir1_String ?ir4_String ?xcg ?xct ?sn_Bead ?su_Bead ?no_Bead ?bb_Bead ?bl_Bead ?cf1 ?cf2 ?cf3 ?sn_String ?sS_int ?sS_str ?sS_bool ?sS_list ?sS_tuple ?suS_int ?noS_int ?suS_str ?noS_str ?suS_NoneType ?noS_NoneType ?suS_list ?noS_list ?bb_String
    (case aC_Bead => k_is)
    (case pg_Bead => k_is)
    (case hd_Bead => k_is)
    (case po_Bead => k_is)
    (case sa_Bead => k_is)
    (case mk_Bead => k_is)
    (case kc_Bead => k_is)
    (case n_Bead_number => k_is)
    (case n_Bead_across => k_is)
    (case n_Bead_weight => k_is)
    (case n_Bead_shade => k_is)
    (case n_Bead_form => k_is)
    (case n_Bead_drilled => k_is)
    (case aC_Rule => k_is)
    (case pg_Rule => k_is)
    (case hd_Rule => k_is)
    (case po_Rule => k_is)
    (case sa_Rule => k_is)
    (case mk_Rule => k_is)
    (case kc_Rule => k_is)
    (case n_Rule_least => k_is)
    (case n_Rule_most => k_is)
    (case n_Rule_match => k_is)
    (case n_Rule_shades => k_is)
    (case aC_String => k_is)
    (case pg_String => k_is)
    (case hd_String => k_is)
    (case po_String => k_is)
    (case sa_String => k_is)
    (case mk_String => k_is)
    (case kc_String => k_is)
    (case n_String_held => k_is)
    (case n_String_rule => k_is)
    (case aC_PearlError => k_is)
    (case aC_BadBead => k_is)
    (case aC_BadRule => k_is)
    (case aC_NotLet => k_is)
    (case a0 => k_is)
    (case i0 => k_is)
    (case l0 => k_is)
    (case d0 => k_is)
    (case c0 => k_is)
    (case k0 => k_is)
    (case a1 => k_is)
    (case i1 => k_is)
    (case l1 => k_is)
    (case c1 => k_is)
    (case k1 => k_is)
    (case a2 => k_is)
    (case l2 => k_is)
    (case c2 => k_is)
    (case k2 => k_is)
    (case a3 => k_is)
    (case l3 => k_is)
    (case c3 => k_is)
    (case k3 => k_is)
    (case a4 => k_is)
    (case l4 => k_is)
    (case c4 => k_is)
    (case k4 => k_is)
    (case a5 => k_is)
    (case l5 => k_is)
    (case c5 => k_is)
    (case k5 => k_is)
    (case a6 => k_is)
    (case l6 => k_is)
    (case c6 => k_is)
    (case k6 => k_is)
    (case a7 => k_is)
    (case l7 => k_is)
    (case c7 => k_is)
    (case k7 => k_is)
    (case a8 => k_is)
    (case i8 => k_is)
    (case l8 => k_is)
    (case d8 => k_is)
    (case c8 => k_is)
    (case k8 => k_is)
    (case a9 => k_is)
    (case i9 => k_is)
    (case l9 => k_is)
    (case c9 => k_is)
    (case k9 => k_is)
    (case a10 => k_is)
    (case i10 => k_is)
    (case l10 => k_is)
    (case c10 => k_is)
    (case k10 => k_is)
    (case a11 => k_is)
    (case l11 => k_is)
    (case c11 => k_is)
    (case k11 => k_is)
    (case a12 => k_is)
    (case l12 => k_is)
    (case c12 => k_is)
    (case k12 => k_is)
    (case a13 => k_is)
    (case l13 => k_is)
    (case c13 => k_is)
    (case k13 => k_is)
    (case a14 => k_is)
    (case l14 => k_is)
    (case c14 => k_is)
    (case k14 => k_is)
    (case a15 => k_is)
    (case l15 => k_is)
    (case c15 => k_is)
    (case k15 => k_is)
    (case a16 => k_is)
    (case l16 => k_is)
    (case c16 => k_is)
    (case k16 => k_is)
    (case a17 => k_is)
    (case i17 => k_is)
    (case l17 => k_is)
    (case c17 => k_is)
    (case k17 => k_is)
    (case a18 => k_is)
    (case i18 => k_is)
    (case l18 => k_is)
    (case c18 => k_is)
    (case k18 => k_is)
    (case a19 => k_is)
    (case i19 => k_is)
    (case l19 => k_is)
    (case c19 => k_is)
    (case k19 => k_is)
    (case a20 => k_is)
    (case i20 => k_is)
    (case l20 => k_is)
    (case c20 => k_is)
    (case k20 => k_is)
    (case a21 => k_is)
    (case i21 => k_is)
    (case l21 => k_is)
    (case c21 => k_is)
    (case k21 => k_is)
    (case a22 => k_is)
    (case i22 => k_is)
    (case l22 => k_is)
    (case c22 => k_is)
    (case k22 => k_is)
    (case a23 => k_is)
    (case i23 => k_is)
    (case l23 => k_is)
    (case c23 => k_is)
    (case k23 => k_is)
    (case a24 => k_is)
    (case l24 => k_is)
    (case c24 => k_is)
    (case k24 => k_is)
    (case a25 => k_is)
    (case i25 => k_is)
    (case l25 => k_is)
    (case d25 => k_is)
    (case c25 => k_is)
    (case k25 => k_is)
    (case a26 => k_is)
    (case i26 => k_is)
    (case l26 => k_is)
    (case c26 => k_is)
    (case k26 => k_is)
    (case a27 => k_is)
    (case i27 => k_is)
    (case l27 => k_is)
    (case c27 => k_is)
    (case k27 => k_is)
    (case a28 => k_is)
    (case i28 => k_is)
    (case l28 => k_is)
    (case c28 => k_is)
    (case k28 => k_is)
    (case a29 => k_is)
    (case i29 => k_is)
    (case l29 => k_is)
    (case c29 => k_is)
    (case k29 => k_is)
    (case a30 => k_is)
    (case l30 => k_is)
    (case c30 => k_is)
    (case k30 => k_is)
    (case a31 => k_is)
    (case l31 => k_is)
    (case c31 => k_is)
    (case k31 => k_is)
    (case a32 => k_is)
    (case l32 => k_is)
    (case c32 => k_is)
    (case k32 => k_is)
    (case a33 => k_is)
    (case l33 => k_is)
    (case c33 => k_is)
    (case k33 => k_is)
    (case a34 => k_is)
    (case l34 => k_is)
    (case c34 => k_is)
    (case k34 => k_is)
    (case a35 => k_is)
    (case l35 => k_is)
    (case c35 => k_is)
    (case k35 => k_is)
    (case a36 => k_is)
    (case l36 => k_is)
    (case c36 => k_is)
    (case k36 => k_is)
    (case a37 => k_is)
    (case l37 => k_is)
    (case c37 => k_is)
    (case k37 => k_is)
    (case a38 => k_is)
    (case l38 => k_is)
    (case c38 => k_is)
    (case k38 => k_is)
    (case a39 => k_is)
    (case l39 => k_is)
    (case c39 => k_is)
    (case k39 => k_is)
    (case a40 => k_is)
    (case l40 => k_is)
    (case c40 => k_is)
    (case k40 => k_is)
    (case a41 => k_is)
    (case l41 => k_is)
    (case c41 => k_is)
    (case k41 => k_is)
    (case a42 => k_is)
    (case l42 => k_is)
    (case c42 => k_is)
    (case k42 => k_is)
    (case a43 => k_is)
    (case l43 => k_is)
    (case c43 => k_is)
    (case k43 => k_is)
    (case a44 => k_is)
    (case l44 => k_is)
    (case c44 => k_is)
    (case k44 => k_is)
    (case a45 => k_is)
    (case l45 => k_is)
    (case c45 => k_is)
    (case k45 => k_is)
    (case a46 => k_is)
    (case l46 => k_is)
    (case c46 => k_is)
    (case k46 => k_is)
    (case a47 => k_is)
    (case l47 => k_is)
    (case c47 => k_is)
    (case k47 => k_is)
    (case a48 => k_is)
    (case l48 => k_is)
    (case c48 => k_is)
    (case k48 => k_is)
    (case q0 => k_is)
    (case q1 => k_is)
    (case q2 => k_is)
    (case q3 => k_is)
    (case q4 => k_is)
    (case z0 => k_is)
    (case z1 => k_is)
    (case z2 => k_is)
    (case z3 => k_is)
    (case z4 => k_is)
    (case z5 => k_is)
    (case z6 => k_is)
    (case z7 => k_is)
    (case z8 => k_is)
    (case z9 => k_is)
    (case z10 => k_is)
    (case z11 => k_is)
    (case z12 => k_is)
    (case z13 => k_is)
    (case z14 => k_is)
    (case z15 => k_is)
    (case z16 => k_is)
    (case xL_NotLet => k_is)
    (case xsa_NotLet => k_is)
    (case xe_NotLet => k_is)
    (case xt_NotLet => k_is)
    (case xk_NotLet => k_is)
    (case xi_NotLet => k_is)
    (case xga_NotLet => k_is)
    (case xgg_NotLet => k_is)
    (case xhd_NotLet => k_is)
    (case xca_NotLet => k_is)
    (case xcg_NotLet => k_is)
    (case xct_NotLet => k_is)
    (case xmo_NotLet => k_is)
    (case xn_NotLet_at => k_is)
    (case xn_NotLet_why => k_is)
    (case xs_NotLet_PearlError => k_is)
    (case ye_PearlError => k_is)
    (case yh_PearlError => k_is)
    (case yt_PearlError => k_is)
    (case vV => k_is)
    (case ir1_Bead => k_is)
    (case ir4_Bead => k_is)
    (case ir1_Rule => k_is)
    (case ir4_Rule => k_is)
    (case ir1_String => k_is)
    (case ir4_String => k_is)
    (case xcg => k_is)
    (case xct => k_is)
    (case sn_Bead => k_is)
    (case su_Bead => k_is)
    (case no_Bead => kit_is)
    (case bb_Bead => k_is)
    (case bl_Bead => k_is)
    (case cf1 => k_is)
    (case cf2 => k_is)
    (case cf3 => k_is)
    (case sn_String => k_is)
    (case sS_int => k_is)
    (case sS_str => k_is)
    (case sS_bool => k_is)
    (case sS_list => k_is)
    (case sS_tuple => k_is)
    (case suS_int => k_is)
    (case noS_int => kit_is)
    (case suS_str => k_is)
    (case noS_str => kit_is)
    (case suS_NoneType => k_is)
    (case noS_NoneType => kit_is)
    (case suS_list => k_is)
    (case noS_list => kit_is)
    (case bb_String => k_is)
