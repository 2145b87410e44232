import PyProof.Rows.All
import Wide.All
import OpenK.AllK
import Wide.FinOn
import HandS.ForMost
import HandS.IsInst
import HandS.Wide
import HandS.Walk
import HandS.TupAny
import HandS.Style
import HandS.Defaults
import HandS.MakeKw
import KE.IntTextLaws
import HandS.OwnEq
import HandS.ExcInit
import HandS.ExcField
import HandS.ExcIs
import HandS.ExcOwn
import HandS.WordsExc
import KE.KExcIs
import HandS.MakeKwOnly
import KE.KExcInit
import HandS.TryMany
import HandS.Conv
import KE.GoesRev
import HandS.FStr
import PyProof.InstSpecial
import PyProof.FString2
import KE.KCallOwn
import HandS.FStrTup
import HandS.Flow
import HandS.Iter
import KE.GoesEnum
import HandS.TupLe
import HandS.StrMore
import PySem.Challenge.RW_pearlrise_k24_whole_filled_and_emptied
set_option Elab.async false
set_option linter.all false
set_option maxRecDepth 100000
set_option maxHeartbeats 4000000
namespace KA
open PySem PySem.Spec PyProof.Rows L2
/-! ### heaps -/
theorem same_upd {H : Hp} {p : Addr} {o : HO} (h : H p = none) : Same H (upd H p o) := fun b x e => by
  rw [upd_ne (ne_of_none e h)]
  exact e
/-- all but what stands at d is as it was -/
def But (d : Addr) (H H' : Hp) : Prop := ∀ b o, b ≠ d → H b = some o → H' b = some o
theorem But.refl (d : Addr) (H : Hp) : But d H H := fun _ _ _ h => h
theorem But.trans {d : Addr} {H H1 H2 : Hp} (a : But d H H1) (b : But d H1 H2) : But d H H2 := fun c o n h => b c o n (a c o n h)
theorem But.of {d : Addr} {H H' : Hp} (s : Same H H') : But d H H' := fun b o _ h => s b o h
theorem But.at_ {d : Addr} {H : Hp} {o : HO} : But d H (upd H d o) := fun b x n h => by
  rw [upd_ne n]
  exact h
theorem But.new {d p : Addr} {H : Hp} {o : HO} (h : H p = none) : But d H (upd H p o) := But.of (same_upd h)
theorem But.same {d : Addr} {H0 H H' : Hp} (h0 : H0 d = none) (s : Same H0 H) (b : But d H H') : Same H0 H' := fun c o h => b c o (ne_of_none h h0) (s c o h)
theorem But.mut {d : Addr} {H0 H : Hp} {o : HO} {p : Addr} (b : But d H0 H) (h : H0 p = none) : But d H0 (upd H p o) := fun c x n e => by
  rw [upd_ne (ne_of_none e h)]
  exact b c x n e
theorem But.free {d p : Addr} {H H' : Hp} (b : But d H H') (n : p ≠ d) (h : H' p = none) : H p = none := by
  cases q : H p with
  | none => rfl
  | some o =>
    rw [b p o n q] at h
    cases h
theorem but_seq {K : PySem.W.Frag} {d a : Addr} {H H' : Hp} {xs : List V} (b : But d H H') (n : a ≠ d) (h : SqL K H a xs) : SqL K H' a xs := by
  rcases h with (h | ⟨o, h⟩) | h
  · exact .inl (.inl (b _ _ n h))
  · exact .inl (.inr ⟨o, b _ _ n h⟩)
  · exact .inr h
/-- the draws' list at d, its counter at most n -/
def Dr (P : Int → Prop) (d : Addr) (n : Nat) (H : Hp) : Prop := ∃ a b c : Int, H d = some (.lst [.int a, .int b, .int c]) ∧ P b ∧ 0 ≤ c ∧ c ≤ n
theorem Dr.same {P : Int → Prop} {d : Addr} {n : Nat} {H H' : Hp} (h : Dr P d n H) (s : Same H H') : Dr P d n H' := by
  obtain ⟨a, b, c, e, r⟩ := h
  exact ⟨a, b, c, s _ _ e, r⟩
theorem Dr.ne {P : Int → Prop} {d p : Addr} {n : Nat} {H : Hp} (h : Dr P d n H) (e : H p = none) : p ≠ d := by
  obtain ⟨a, b, c, z, _⟩ := h
  exact (ne_of_none z e).symm
theorem Dr.mono {P : Int → Prop} {d : Addr} {n m : Nat} {H : Hp} (h : Dr P d n H) (e : n ≤ m) : Dr P d m H := by
  obtain ⟨a, b, c, z, h1, h3, h4⟩ := h
  exact ⟨a, b, c, z, h1, h3, by omega⟩
theorem Dr.upd {P : Int → Prop} {d p : Addr} {n : Nat} {H : Hp} {o : HO} (h : Dr P d n H) (e : p ≠ d) : Dr P d n (L2.upd H p o) := by
  obtain ⟨a, b, c, z, r⟩ := h
  exact ⟨a, b, c, by rw [upd_ne e.symm]; exact z, r⟩
theorem yesT {σ : L2.St} {H : Hp} {A B : Hp → Prop} (h : A H) : tYes σ H (fun b H3 => if b = true then A H3 else B H3) := by
  show if true = true then A H else B H
  exact iteT h
/-! ### what is no own object -/
inductive Th (K : PySem.W.Frag) (H : Hp) : V → Prop
  | int (i : Int) : Th K H (.int i)
  | bl (b : Bool) : Th K H (.bl b)
  | str (z : Str) : Th K H (.str z)
  | non : Th K H .non
  | lst {a : Addr} (h : TyX K H (.ref a) (.type "list")) : Th K H (.ref a)
  | tup {a : Addr} (h : TyX K H (.ref a) (.type "tuple")) : Th K H (.ref a)
  | dct {a : Addr} (h : TyX K H (.ref a) (.type "dict")) : Th K H (.ref a)
def isI : V → Bool
  | .int _ => true
  | _ => false
def isB : V → Bool
  | .bl _ => true
  | _ => false
def isS : V → Bool
  | .str _ => true
  | _ => false
theorem isi_int {K : PySem.W.Frag} {H : Hp} {v : V} (h : Th K H v) : ∃ t, TyX K H v t ∧ PySem.W.kitOne K t (.type "int") = some (isI v || isB v) := by
  cases h with
  | int i => exact ⟨_, .base (.int i), kit_ty (r := true) (by decide +kernel)⟩
  | bl b => exact ⟨_, .base (.bl b), kit_ty (r := true) (by decide +kernel)⟩
  | str z => exact ⟨_, .base (.str z), kit_ty (r := false) (by decide +kernel)⟩
  | non => exact ⟨_, .base .non, kit_ty (r := false) (by decide +kernel)⟩
  | lst h => exact ⟨_, h, kit_ty (r := false) (by decide +kernel)⟩
  | tup h => exact ⟨_, h, kit_ty (r := false) (by decide +kernel)⟩
  | dct h => exact ⟨_, h, kit_ty (r := false) (by decide +kernel)⟩
theorem isi_bool {K : PySem.W.Frag} {H : Hp} {v : V} (h : Th K H v) : ∃ t, TyX K H v t ∧ PySem.W.kitOne K t (.type "bool") = some (isB v) := by
  cases h with
  | int i => exact ⟨_, .base (.int i), kit_ty (r := false) (by decide +kernel)⟩
  | bl b => exact ⟨_, .base (.bl b), kit_ty (r := true) (by decide +kernel)⟩
  | str z => exact ⟨_, .base (.str z), kit_ty (r := false) (by decide +kernel)⟩
  | non => exact ⟨_, .base .non, kit_ty (r := false) (by decide +kernel)⟩
  | lst h => exact ⟨_, h, kit_ty (r := false) (by decide +kernel)⟩
  | tup h => exact ⟨_, h, kit_ty (r := false) (by decide +kernel)⟩
  | dct h => exact ⟨_, h, kit_ty (r := false) (by decide +kernel)⟩
theorem isi_str {K : PySem.W.Frag} {H : Hp} {v : V} (h : Th K H v) : ∃ t, TyX K H v t ∧ PySem.W.kitOne K t (.type "str") = some (isS v) := by
  cases h with
  | int i => exact ⟨_, .base (.int i), kit_ty (r := false) (by decide +kernel)⟩
  | bl b => exact ⟨_, .base (.bl b), kit_ty (r := false) (by decide +kernel)⟩
  | str z => exact ⟨_, .base (.str z), kit_ty (r := true) (by decide +kernel)⟩
  | non => exact ⟨_, .base .non, kit_ty (r := false) (by decide +kernel)⟩
  | lst h => exact ⟨_, h, kit_ty (r := false) (by decide +kernel)⟩
  | tup h => exact ⟨_, h, kit_ty (r := false) (by decide +kernel)⟩
  | dct h => exact ⟨_, h, kit_ty (r := false) (by decide +kernel)⟩
/-! ### signs -/
def lower (c : Nat) : Bool := decide (97 ≤ c) && decide (c ≤ 122)
def figure (c : Nat) : Bool := decide (48 ≤ c) && decide (c ≤ 57)
theorem sgl_lt (a b : Nat) : (([a] : List Nat) < [b]) ↔ a < b := by
  rw [List.cons_lt_cons_iff]
  simp
theorem ge_a (c : Nat) : (!decide ((⟨#[c]⟩ : Str).cps.toList < ("a" : Str).cps.toList)) = decide (97 ≤ c) := by
  have e : ("a" : Str).cps.toList = [97] := by decide +kernel
  rw [e]
  show (!decide ([c] < [97])) = _
  rw [decide_eq_decide.mpr (sgl_lt c 97), ← decide_not, decide_eq_decide]
  omega
theorem le_z (c : Nat) : (!decide (("z" : Str).cps.toList < (⟨#[c]⟩ : Str).cps.toList)) = decide (c ≤ 122) := by
  have e : ("z" : Str).cps.toList = [122] := by decide +kernel
  rw [e]
  show (!decide ([122] < [c])) = _
  rw [decide_eq_decide.mpr (sgl_lt 122 c), ← decide_not, decide_eq_decide]
  omega
theorem in_az (c : Nat) : decide (c ∈ ("abcdefghijklmnopqrstuvwxyz" : Str).cps.toList) = lower c := by
  have e : ("abcdefghijklmnopqrstuvwxyz" : Str).cps.toList = (List.range 26).map (· + 97) := by decide +kernel
  unfold lower
  rw [e, ← Bool.decide_and, decide_eq_decide, List.mem_map]
  constructor
  · rintro ⟨a, ha, rfl⟩
    rw [List.mem_range] at ha
    omega
  · intro h
    exact ⟨c - 97, List.mem_range.mpr (by omega), by omega⟩
theorem in_09 (c : Nat) : decide (c ∈ ("0123456789" : Str).cps.toList) = figure c := by
  have e : ("0123456789" : Str).cps.toList = (List.range 10).map (· + 48) := by decide +kernel
  unfold figure
  rw [e, ← Bool.decide_and, decide_eq_decide, List.mem_map]
  constructor
  · rintro ⟨a, ha, rfl⟩
    rw [List.mem_range] at ha
    omega
  · intro h
    exact ⟨c - 48, List.mem_range.mpr (by omega), by omega⟩
/-! ### numbers by figures -/
open NumText TL
theorem fold_lt : ∀ (cs : List Nat) (a : Nat), AllDigits cs → a * 10 ^ cs.length ≤ cs.foldl (fun acc c => acc * 10 + (c - 48)) a ∧ cs.foldl (fun acc c => acc * 10 + (c - 48)) a < (a + 1) * 10 ^ cs.length
  | [], a, _ => by simp
  | c :: cs, a, h => by
    have hc := h.head
    have ih := fold_lt cs (a * 10 + (c - 48)) h.tail
    rw [List.foldl_cons, List.length_cons, Nat.pow_succ]
    have p : 0 < 10 ^ cs.length := Nat.pos_of_ne_zero (by simp)
    generalize 10 ^ cs.length = q at *
    refine ⟨Nat.le_trans ?_ ih.1, Nat.lt_of_lt_of_le ih.2 ?_⟩
    · have : a * (q * 10) = (a * 10) * q := by rw [Nat.mul_comm q 10, ← Nat.mul_assoc]
      rw [this]
      exact Nat.mul_le_mul_right q (by omega)
    · have : (a + 1) * (q * 10) = ((a + 1) * 10) * q := by rw [Nat.mul_comm q 10, ← Nat.mul_assoc]
      rw [this]
      exact Nat.mul_le_mul_right q (by omega)
theorem val_lt {cs : List Nat} (h : AllDigits cs) : digitsVal cs < 10 ^ cs.length := by
  have := (fold_lt cs 0 h).2
  rw [Nat.zero_add, Nat.one_mul] at this
  exact this
theorem val_ge {c : Nat} {cs : List Nat} (h : AllDigits (c :: cs)) (hc : c ≠ 48) : 10 ^ cs.length ≤ digitsVal (c :: cs) := by
  have h1 := h.head
  have := (fold_lt cs (0 * 10 + (c - 48)) h.tail).1
  refine Nat.le_trans ?_ this
  have : 1 * 10 ^ cs.length ≤ (0 * 10 + (c - 48)) * 10 ^ cs.length := Nat.mul_le_mul_right _ (by omega)
  omega
theorem val_zero {cs : List Nat} : digitsVal (48 :: cs) = digitsVal cs := rfl
/-- the figures of a number have as many signs as the word just where it has no nought ahead of others -/
theorem len_canon {c : Nat} {cs : List Nat} (h : AllDigits (c :: cs)) : (numL (digitsVal (c :: cs))).length = (c :: cs).length ↔ ¬ (c = 48 ∧ 1 < (c :: cs).length) := by
  constructor
  · rintro e ⟨rfl, hl⟩
    rw [val_zero] at e
    rw [List.length_cons] at e hl
    have := numL_len (n := digitsVal cs) (k := cs.length) (by omega) (val_lt h.tail)
    omega
  · intro hn
    by_cases hc : c = 48
    · subst hc
      have : cs = [] := by
        cases cs with
        | nil => rfl
        | cons d r =>
          exact absurd ⟨rfl, by rw [List.length_cons, List.length_cons]; omega⟩ hn
      subst this
      rw [val_zero]
      show (numL 0).length = 1
      rw [numL_lt (by decide)]
      rfl
    · have u := numL_len (n := digitsVal (c :: cs)) (k := (c :: cs).length) (by rw [List.length_cons]; omega) (val_lt h)
      have l := val_ge h hc
      have v := val_lt (numL_digits (digitsVal (c :: cs)))
      rw [numL_val] at v
      have w : 10 ^ cs.length < 10 ^ (numL (digitsVal (c :: cs))).length := Nat.lt_of_le_of_lt l v
      have := (Nat.pow_lt_pow_iff_right (by decide : 1 < 10)).mp w
      rw [List.length_cons] at *
      omega
/-- words of figures of one length and one worth are one -/
theorem fold_inj : ∀ (cs ds : List Nat) (a b : Nat), AllDigits cs → AllDigits ds → cs.length = ds.length → cs.foldl (fun acc c => acc * 10 + (c - 48)) a = ds.foldl (fun acc c => acc * 10 + (c - 48)) b → a = b ∧ cs = ds
  | [], [], a, b, _, _, _, e => ⟨e, rfl⟩
  | [], _ :: _, _, _, _, _, l, _ => by simp at l
  | _ :: _, [], _, _, _, _, l, _ => by simp at l
  | c :: cs, d :: ds, a, b, h1, h2, l, e => by
    have q := fold_inj cs ds (a * 10 + (c - 48)) (b * 10 + (d - 48)) h1.tail h2.tail (by simpa using l) e
    have hc := h1.head
    have hd := h2.head
    have e1 := q.1
    have : a = b ∧ c = d := by omega
    exact ⟨this.1, by rw [this.2, q.2]⟩
theorem canon_eq {c : Nat} {cs : List Nat} (h : AllDigits (c :: cs)) (hn : ¬ (c = 48 ∧ 1 < (c :: cs).length)) : numL (digitsVal (c :: cs)) = c :: cs :=
  (fold_inj _ _ 0 0 (numL_digits _) h ((len_canon h).mpr hn) (numL_val _)).2
section
variable {X : Cx}
/-- a text many times -/
def timesS (z : Str) (n : Nat) : Str := ⟨(List.replicate n z.cps).foldl (· ++ ·) #[]⟩
theorem times_fold (c : Nat) : ∀ (n : Nat) (a : Array Nat), ((List.replicate n #[c]).foldl (· ++ ·) a).toList = a.toList ++ List.replicate n c
  | 0, a => by simp
  | n + 1, a => by
    rw [List.replicate_succ, List.foldl_cons, times_fold c n (a ++ #[c]), Array.toList_append, List.append_assoc]
    rfl
theorem times_list {z : Str} {c n : Nat} (h : z.cps = #[c]) : (timesS z n).cps.toList = List.replicate n c := by
  unfold timesS
  show ((List.replicate n z.cps).foldl (· ++ ·) #[]).toList = _
  rw [h, times_fold c n #[]]
  rfl
theorem times_len {z : Str} {c n : Nat} (h : z.cps = #[c]) : (timesS z n).length = n := by
  show (timesS z n).cps.size = n
  rw [← Array.length_toList, times_list h, List.length_replicate]
theorem op_mulS : OpR X (binaryOp .Mult) (fun x y H Q => ∃ (z : Str) (k : Int), x = .str z ∧ y = .int k ∧ 2 ≤ k ∧ k ≤ 100000 ∧ (∃ c, z.cps = #[c]) ∧ Q (.str (timesS z k.toNat)) H) := by
  intro pins s σ H x y v u Q I rx ry h
  obtain ⟨z, k, rfl, rfl, h2, h3, ⟨c, hc⟩, q⟩ := h
  have hz : z.length = 1 := by
    show z.cps.size = 1
    rw [hc]
    rfl
  obtain ⟨t, rfl⟩ := rx
  obtain ⟨t', rfl⟩ := ry
  refine PySem.P.mul_str ?_ ?_ ?_ ?_
  · rw [decide_eq_false (by omega), decide_eq_false (by omega)]
    rfl
  · intro _ _
    rw [hz]
    have : (1 : Int) ≤ (2 ^ 63 - 1) / k := by
      have : (2 ^ 63 - 1 : Int) / k ≥ 1 := (Int.le_ediv_iff_mul_le (by omega)).mpr (by omega)
      exact this
    omega
  · intro _ _
    rw [hz]
    exact decide_eq_false (by
      have : (100000 : Nat) ≤ sizeLine := by decide
      show ¬ _ > _
      omega)
  · have hk1 : (k == 1) = false := by
      rw [beq_eq_false_iff_ne]
      omega
    rw [if_neg (by omega), if_neg (by rw [hk1, hz]; decide)]
    refine ⟨?_, ⟨.str (timesS z k.toNat), H, I.tok _, ⟨_, rfl⟩, q⟩⟩
    have e := times_len (n := k.toNat) hc
    have : (100000 : Nat) ≤ sizeLine := by decide
    show (timesS z k.toNat).length ≤ sizeLine
    omega
end

/-! ### comprehensions over a text -/
/-- [truth of each sign] -/
theorem lc_all {z : Str} {H : Hp} {D : Addr} (hD : H D = none) (hz : z.length ≤ 100000) (f : Nat → Bool) {g : TG} {tt : TT} {te : TE} {vs : List Nat} {σ : L2.St} {Qd : Hp → Prop}
    (turn : ∀ (c : Nat) (H2 : Hp) (R : V → Hp → Prop) (C : Hp → Prop), Same H H2 → R (.bl (f c)) H2 → g (.str ⟨#[c]⟩) (wipe σ vs) H2 fun σ2 H2 => wipe σ2 vs = wipe σ vs ∧ tt σ2 H2 fun b H3 => if b = true then te σ2 H3 R else C H3)
    (fin : ∀ H', Same H H' → H' D = some (.lst ((z.cps.toList.map f).map V.bl)) → Qd H') :
    ∃ W : Nat → Nat → Hp → Prop, (∃ m, W 0 m (upd H D (.lst []))) ∧ ∀ i m H, W i m H →
      ((Its z).stop i H ∧ Qd H) ∨ ((Its z).go i H ∧ ∃ Nx : Hp → Prop, (∀ H', Nx H' → ∃ m', m' < m ∧ W (i + 1) m' H') ∧ ∀ x H', (Its z).yld i H x H' → g x (wipe σ vs) H' fun σ2 H2 => wipe σ2 vs = wipe σ vs ∧ tt σ2 H2 fun b H3 =>
        if b = true then te σ2 H3 fun y H4 => ∃ acc, H4 D = some (.lst acc) ∧ acc.length < sizeLine ∧ Nx (upd H4 D (.lst (acc ++ [y]))) else Nx H3) := by
  have hzl : z.length ≤ sizeLine := Nat.le_trans hz (by decide)
  refine lc_it walk_str (fun i H' => Same H H' ∧ H' D = some (.lst (((z.cps.toList.take i).map f).map V.bl))) ⟨same_upd hD, upd_same⟩ (fun _ _ _ _ => trivial) ?_ ?_
  · rintro i x H1 H2 hi ⟨s1, e1⟩ ⟨rfl, c, hc, rfl⟩
    refine turn c _ _ _ s1 ?_
    have hc' : z.cps.toList[i]? = some c := by rw [Array.getElem?_toList]; exact hc
    refine ⟨_, e1, ?_, fun b o h => ?_, ?_⟩
    · rw [List.length_map, List.length_map, List.length_take]
      exact Nat.lt_of_le_of_lt (Nat.min_le_left _ _) (Nat.lt_of_lt_of_le hi hzl)
    · rw [upd_ne (ne_of_none h hD)]
      exact s1 _ _ h
    · rw [upd_same, List.take_add_one, hc', List.map_append, List.map_append]
      rfl
  · rintro H' ⟨s1, e1⟩
    have ef : z.cps.toList.take z.cps.size = z.cps.toList := List.take_of_length_le (by rw [Array.length_toList]; exact Nat.le_refl _)
    rw [ef] at e1
    exact fin H' s1 e1
def sg (c : Nat) : V := .str ⟨#[c]⟩
/-- [sign for sign in text if ..] -/
theorem lc_filter {z : Str} {H : Hp} {D : Addr} (hD : H D = none) (hz : z.length ≤ 100000) (f : Nat → Bool) {g : TG} {tt : TT} {te : TE} {vs : List Nat} {σ : L2.St} {Qd : Hp → Prop}
    (turn : ∀ (c : Nat) (H2 : Hp) (R : V → Hp → Prop) (C : Hp → Prop), Same H H2 → (f c = true → R (sg c) H2) → (f c = false → C H2) → g (.str ⟨#[c]⟩) (wipe σ vs) H2 fun σ2 H2 => wipe σ2 vs = wipe σ vs ∧ tt σ2 H2 fun b H3 => if b = true then te σ2 H3 R else C H3)
    (fin : ∀ H', Same H H' → H' D = some (.lst ((z.cps.toList.filter f).map sg)) → Qd H') :
    ∃ W : Nat → Nat → Hp → Prop, (∃ m, W 0 m (upd H D (.lst []))) ∧ ∀ i m H, W i m H →
      ((Its z).stop i H ∧ Qd H) ∨ ((Its z).go i H ∧ ∃ Nx : Hp → Prop, (∀ H', Nx H' → ∃ m', m' < m ∧ W (i + 1) m' H') ∧ ∀ x H', (Its z).yld i H x H' → g x (wipe σ vs) H' fun σ2 H2 => wipe σ2 vs = wipe σ vs ∧ tt σ2 H2 fun b H3 =>
        if b = true then te σ2 H3 fun y H4 => ∃ acc, H4 D = some (.lst acc) ∧ acc.length < sizeLine ∧ Nx (upd H4 D (.lst (acc ++ [y]))) else Nx H3) := by
  have hzl : z.length ≤ sizeLine := Nat.le_trans hz (by decide)
  refine lc_it walk_str (fun i H' => Same H H' ∧ H' D = some (.lst (((z.cps.toList.take i).filter f).map sg))) ⟨same_upd hD, upd_same⟩ (fun _ _ _ _ => trivial) ?_ ?_
  · rintro i x H1 H2 hi ⟨s1, e1⟩ ⟨rfl, c, hc, rfl⟩
    have hc' : z.cps.toList[i]? = some c := by rw [Array.getElem?_toList]; exact hc
    refine turn c _ _ _ s1 (fun hf => ?_) (fun hf => ?_)
    · refine ⟨_, e1, ?_, fun b o h => ?_, ?_⟩
      · rw [List.length_map]
        refine Nat.lt_of_le_of_lt (List.length_filter_le _ _) ?_
        rw [List.length_take]
        exact Nat.lt_of_le_of_lt (Nat.min_le_left _ _) (Nat.lt_of_lt_of_le hi hzl)
      · rw [upd_ne (ne_of_none h hD)]
        exact s1 _ _ h
      · rw [upd_same, List.take_add_one, hc', List.filter_append, List.map_append]
        show _ = some (HO.lst (_ ++ List.map sg (List.filter f [c])))
        rw [List.filter_cons_of_pos hf]
        rfl
    · refine ⟨s1, ?_⟩
      rw [e1, List.take_add_one, hc', List.filter_append, List.map_append]
      show _ = some (HO.lst (_ ++ List.map sg (List.filter f [c])))
      rw [List.filter_cons_of_neg (by rw [hf]; exact Bool.false_ne_true)]
      show _ = some (HO.lst (_ ++ []))
      rw [List.append_nil]
  · rintro H' ⟨s1, e1⟩
    have ef : z.cps.toList.take z.cps.size = z.cps.toList := List.take_of_length_le (by rw [Array.length_toList]; exact Nat.le_refl _)
    rw [ef] at e1
    exact fin H' s1 e1
/-- a list of signs beside [] -/
theorem dp_signs {K : PySem.W.Frag} {H : Hp} : ∀ cs : List Nat, DpAll K H (cs.map sg) (cs.map fun c => PyData.str ⟨#[c]⟩)
  | [] => .nil
  | c :: cs => .cons (.str _) (dp_signs cs)
theorem eqv_nil (ds : List PyData) : PyData.eqv (.list ds) (.list []) = ds.isEmpty := by
  cases ds with
  | nil => rfl
  | cons d r => rfl
theorem lay_signs : ∀ cs : List Nat, (∀ c ∈ cs, c < 128) → PyData.canLayAll0 (cs.map fun c => PyData.str ⟨#[c]⟩) = true
  | [], _ => rfl
  | c :: r, h => by
    have h1 := h c (List.mem_cons_self ..)
    have h2 := lay_signs r fun d hd => h d (List.mem_cons_of_mem _ hd)
    show (PyData.canLay0 (.str ⟨#[c]⟩) && PyData.canLayAll0 (r.map fun c => PyData.str ⟨#[c]⟩)) = true
    rw [h2, Bool.and_true]
    show (#[c].all (· < 0x110000)) = true
    simp
    omega
theorem dep_signs : ∀ cs : List Nat, PyData.depthAll (cs.map fun c => PyData.str ⟨#[c]⟩) = 0
  | [] => rfl
  | c :: r => by
    show max 0 (PyData.depthAll (r.map fun c => PyData.str ⟨#[c]⟩)) = 0
    rw [dep_signs r]
    rfl
theorem shp_signs {cs : List Nat} (h : ∀ c ∈ cs, c < 128) : SeqAt.shaped (.list (cs.map fun c => PyData.str ⟨#[c]⟩)) = true := by
  unfold SeqAt.shaped
  have e1 : PyData.canLay0 (.list (cs.map fun c => PyData.str ⟨#[c]⟩)) = true := lay_signs cs h
  have e2 : PyData.depth (.list (cs.map fun c => PyData.str ⟨#[c]⟩)) = 1 := by
    show PyData.depthAll _ + 1 = 1
    rw [dep_signs]
  rw [e1, e2]
  rfl
/-- signs below 128 alone -/
def Asc (z : Str) : Prop := ∀ c ∈ z.cps.toList, c < 128
theorem asc_cut {z : Str} (h : Asc z) (lo hi : Option Int) : Asc (cutS z lo hi) := fun c hc => h c (List.mem_of_mem_drop (List.mem_of_mem_take hc))
theorem asc_app {x y : Str} (hx : Asc x) (hy : Asc y) : Asc (x ++ y) := fun c hc => by
  have hc : c ∈ TL.tl (x ++ y) := hc
  rw [TL.tl_append] at hc
  rcases List.mem_append.mp hc with h | h
  · exact hx c h
  · exact hy c h
theorem asc_upper {z : Str} (h : Asc z) : Asc (Txt.upper z) ∧ (Txt.upper z).length = z.length := by
  rw [PyProof.Rows.upper_ascii h]
  refine ⟨fun c hc => ?_, ?_⟩
  · have hc : c ∈ (z.cps.map PyProof.Rows.up1).toList := hc
    rw [Array.toList_map] at hc
    obtain ⟨a, ha, rfl⟩ := List.mem_map.mp hc
    have := h a ha
    unfold PyProof.Rows.up1
    split <;> omega
  · show (z.cps.map PyProof.Rows.up1).size = z.cps.size
    rw [Array.size_map]
theorem asc_of {z : Str} {cs : List Nat} (h : z.cps.toList = cs) (hl : ∀ c ∈ cs, c < 128) : Asc z := fun c hc => hl c (by rw [← h]; exact hc)
theorem lower_lt {c : Nat} (h : lower c = true) : c < 128 := by
  unfold lower at h
  simp only [Bool.and_eq_true, decide_eq_true_eq] at h
  omega
theorem figure_lt {c : Nat} (h : figure c = true) : c < 128 := by
  unfold figure at h
  simp only [Bool.and_eq_true, decide_eq_true_eq] at h
  omega
theorem filter_none {l : List Nat} {f : Nat → Bool} : (l.filter (fun c => !f c)).isEmpty = l.all f := by
  induction l with
  | nil => rfl
  | cons c r ih =>
    rw [List.filter_cons, List.all_cons]
    cases h : f c with
    | true => simpa using ih
    | false => rfl
theorem str_sign {c d : Nat} {z : Str} (h : z.cps = #[d]) : decide (V.str ⟨#[c]⟩ = V.str z) = decide (c = d) := by
  obtain ⟨z⟩ := z
  rw [decide_eq_decide]
  constructor
  · intro e
    injection e with e
    injection e with e
    rw [show z = #[d] from h] at e
    injection e with e
    injection e
  · rintro rfl
    rw [show z = #[c] from h]
/-! ### a text joined of signs -/
open TL
theorem join_signs : ∀ cs : List Nat, joinL [] ((cs.map fun c => (⟨#[c]⟩ : Str)).map tl) = cs
  | [] => rfl
  | [c] => rfl
  | c :: d :: r => by
    show [c] ++ ([] ++ joinL [] (((d :: r).map fun c => (⟨#[c]⟩ : Str)).map tl)) = c :: d :: r
    rw [join_signs (d :: r)]
    rfl
theorem join_text {y : Str} (hy : tl y = []) (cs : List Nat) : (Txt.join y (cs.map fun c => (⟨#[c]⟩ : Str))).cps.toList = cs := by
  show tl (Txt.join y _) = cs
  rw [join_eq, tl_join, hy, join_signs]
theorem size_signs : ∀ cs : List Nat, ((cs.map fun c => (⟨#[c]⟩ : Str)).map (·.length)).sum = cs.length
  | [] => rfl
  | c :: r => by
    rw [List.map_cons, List.map_cons, List.sum_cons, size_signs r, List.length_cons]
    show 1 + r.length = _
    omega

/-- [.. for _ in range(k)], each a drawn sign -/
theorem lc_draw {P : Int → Prop} {d D : Addr} {n k : Nat} {H1 : Hp} (hD : H1 D = none) (dr : Dr P d n H1) (hk : k ≤ 1000) (p : Nat → Bool) {g : TG} {tt : TT} {te : TE} {vs : List Nat} {σ : L2.St} {Qd : Hp → Prop}
    (turn : ∀ (i : Nat) (H2 : Hp) (R : V → Hp → Prop) (C : Hp → Prop), i < k → Dr P d (n + i) H2 → (∀ H3 c, p c = true → But d H2 H3 → Dr P d (n + i + 1) H3 → R (sg c) H3) → g (.int (0 + i)) (wipe σ vs) H2 fun σ2 H2 => wipe σ2 vs = wipe σ vs ∧ tt σ2 H2 fun b H3 => if b = true then te σ2 H3 R else C H3)
    (fin : ∀ H' (cs : List Nat), cs.length = k → (∀ c ∈ cs, p c = true) → But d H1 H' → Dr P d (n + k) H' → H' D = some (.lst (cs.map sg)) → Qd H') :
    ∃ W : Nat → Nat → Hp → Prop, (∃ m, W 0 m (upd H1 D (.lst []))) ∧ ∀ i m H, W i m H →
      ((Itr 0 k).stop i H ∧ Qd H) ∨ ((Itr 0 k).go i H ∧ ∃ Nx : Hp → Prop, (∀ H', Nx H' → ∃ m', m' < m ∧ W (i + 1) m' H') ∧ ∀ x H', (Itr 0 k).yld i H x H' → g x (wipe σ vs) H' fun σ2 H2 => wipe σ2 vs = wipe σ vs ∧ tt σ2 H2 fun b H3 =>
        if b = true then te σ2 H3 fun y H4 => ∃ acc, H4 D = some (.lst acc) ∧ acc.length < sizeLine ∧ Nx (upd H4 D (.lst (acc ++ [y]))) else Nx H3) := by
  have nD : D ≠ d := dr.ne hD
  refine lc_range (lo := 0) (n := k) (fun i H' => ∃ cs : List Nat, cs.length = i ∧ (∀ c ∈ cs, p c = true) ∧ But d H1 H' ∧ Dr P d (n + i) H' ∧ H' D = some (.lst (cs.map sg))) ⟨[], rfl, (fun _ h => nomatch h), But.new hD, dr.upd nD, upd_same⟩ ?_ ?_
  · rintro i H2 hi ⟨cs, hl, hp, b2, dr2, e2⟩
    refine turn i H2 _ _ hi dr2 fun H3 c hc b3 dr3 => ?_
    refine ⟨_, b3 _ _ nD e2, ?_, cs ++ [c], ?_, ?_, ?_, ?_, ?_⟩
    · rw [List.length_map, hl]
      exact Nat.lt_of_lt_of_le (show i < 1000 by omega) (by decide)
    · rw [List.length_append, hl]
      rfl
    · intro x hx
      rcases List.mem_append.mp hx with h | h
      · exact hp x h
      · rw [List.mem_singleton.mp h]
        exact hc
    · exact (b2.trans b3).mut hD
    · exact (dr3.upd nD).mono (by omega)
    · rw [upd_same, List.map_append]
      rfl
  · rintro H' ⟨cs, hl, hp, b, dr', e⟩
    exact fin H' cs hl hp b dr' e
theorem map_sg (cs : List Nat) : (cs.map fun c => (⟨#[c]⟩ : Str)).map V.str = cs.map sg := by
  rw [List.map_map]
  rfl
theorem join_len {y : Str} (hy : TL.tl y = []) (cs : List Nat) : (Txt.join y (cs.map fun c => (⟨#[c]⟩ : Str))).length = cs.length := by
  have := join_text hy cs
  show (Txt.join y (cs.map fun c => (⟨#[c]⟩ : Str))).cps.size = _
  rw [← Array.length_toList, this]
theorem az_at {r : Int} (h0 : 0 ≤ r) (h1 : r < 26) : ∃ c, atI ("abcdefghijklmnopqrstuvwxyz" : Str).cps.toList r = some c ∧ lower c = true := by
  obtain ⟨j, rfl⟩ : ∃ j : Nat, r = (j : Int) := ⟨r.toNat, by omega⟩
  have e : ("abcdefghijklmnopqrstuvwxyz" : Str).cps.toList = (List.range 26).map (· + 97) := by decide +kernel
  refine ⟨j + 97, atI_nat ?_, ?_⟩
  · rw [e, List.getElem?_map, List.getElem?_range (by omega)]
    rfl
  · unfold lower
    rw [decide_eq_true (by omega), decide_eq_true (by omega)]
    rfl
theorem fig_at {r : Int} (h0 : 0 ≤ r) (h1 : r < 10) : ∃ c, atI ("0123456789" : Str).cps.toList r = some c ∧ figure c = true := by
  obtain ⟨j, rfl⟩ : ∃ j : Nat, r = (j : Int) := ⟨r.toNat, by omega⟩
  have e : ("0123456789" : Str).cps.toList = (List.range 10).map (· + 48) := by decide +kernel
  refine ⟨j + 48, atI_nat ?_, ?_⟩
  · rw [e, List.getElem?_map, List.getElem?_range (by omega)]
    rfl
  · unfold figure
    rw [decide_eq_true (by omega), decide_eq_true (by omega)]
    rfl
theorem log_small {m : Int} (h0 : 0 < m) (h : m < 2 ^ 200) : m.natAbs.log2 < 9000 := by
  refine Nat.lt_of_lt_of_le (PySem.Flt.log2_lt_of (k := 200) (by decide) ?_) (by decide)
  have e : ((2 : Int) ^ 200) = ((2 ^ 200 : Nat) : Int) := by decide
  rw [e] at h
  omega
theorem log_tiny {m : Int} (h0 : 0 < m) (h : m < 1000000000000000000000000000000) : m.natAbs.log2 < 9000 := log_small h0 (Int.lt_trans h (by decide))
theorem at_str {z : Str} {r : Int} (h0 : 0 ≤ r) (h1 : r < (z.length : Int)) : ∃ c, atI z.cps.toList r = some c ∧ c ∈ z.cps.toList := by
  obtain ⟨j, rfl⟩ : ∃ j : Nat, r = (j : Int) := ⟨r.toNat, by omega⟩
  have hj : j < z.cps.toList.length := by
    have : z.cps.toList.length = z.length := Array.length_toList
    omega
  exact ⟨_, atI_nat (List.getElem?_eq_getElem hj), List.getElem_mem hj⟩
theorem sz (n : Nat) (h : n ≤ 100000) : n ≤ sizeLine := Nat.le_trans h (by decide)
theorem tyx_same {K : PySem.W.Frag} {H H' : Hp} (s : Same H H') {v : V} {t : Value} (h : TyX K H v t) : TyX K H' v t := by
  cases h with
  | base h =>
    cases h with
    | non => exact .base .non
    | bl b => exact .base (.bl b)
    | int i => exact .base (.int i)
    | str z => exact .base (.str z)
    | flt x => exact .base (.flt x)
    | lst e => exact .base (.lst (s _ _ e))
    | frz e => exact .base (.frz (s _ _ e))
    | tup e => exact .base (.tup (s _ _ e))
    | dK e => exact .base (.dK (s _ _ e))
    | dT e => exact .base (.dT (s _ _ e))
    | ins e cl ha hn htk hm => exact .base (.ins (s _ _ e) cl ha hn htk hm)
  | byt b => exact .byt b
  | set e => exact .set (s _ _ e)
  | kList e c => exact .kList e c
  | kTuple e c => exact .kTuple e c
  | kDict e c => exact .kDict e c
  | fTuple e => exact .fTuple (s _ _ e)
  | fDict e => exact .fDict (s _ _ e)
theorem Th.same {K : PySem.W.Frag} {H H' : Hp} (s : Same H H') {v : V} (h : Th K H v) : Th K H' v := by
  cases h with
  | int i => exact .int i
  | bl b => exact .bl b
  | str z => exact .str z
  | non => exact .non
  | lst h => exact .lst (tyx_same s h)
  | tup h => exact .tup (tyx_same s h)
  | dct h => exact .dct (tyx_same s h)
theorem cells_int {ns : List Int} {n : Int} {lo hi : Option Int} {i : Nat} {x : V} (h : ([V.int n] ++ cutV (ns.map V.int) lo hi)[i]? = some x) : ∃ k, x = .int k := by
  have hm := List.mem_of_getElem? h
  rcases List.mem_append.mp hm with h | h
  · exact ⟨n, List.mem_singleton.mp h⟩
  · have := List.mem_of_mem_drop (List.mem_of_mem_take h)
    obtain ⟨k, _, rfl⟩ := List.mem_map.mp this
    exact ⟨k, rfl⟩
section
variable {P : Program} {w : World} {K : PySem.W.Frag} {mg : Str → Option Value} {base : Heap} {x qual : Str} {params : Arguments} {body : List Stmt} {scope : Scope} {dvs : List V} {kws : List (Str × V)} {f : Addr} {fd : FuncData}
theorem okD {N ps : List Str} {k : Nat} {sp : Sp} (F : FunD K x qual params body scope dvs kws f fd) (S : FnScope N ps scope) (len : ∀ vs H Q E, sp vs H Q E → vs.length = ps.length)
    (hbody : ∀ (cdv : Value) (A : Around) (outer : List Env) (s : Shared) (H : Hp) (vs : List V) (Q : VK) (E : XK), Room k (A.deeper (envOfC qual scope s.heap.objs.size f cdv)) → sp vs H Q E →
      ∃ t, PSs (cxOf CX0 P w K mg base N qual scope f cdv A outer s H E).nox body t ∧ t { nx := fun _ H' => Q .non H', rt := Q } (start N vs) H) : FnOk P w K mg base CX0 (k + 1) f fd ps sp :=
  F.ok S len fun cdv A outer s H vs Q E hr h => by
    obtain ⟨t, h, q⟩ := hbody cdv A outer s H vs Q E hr h
    exact ⟨t, h.nox, q⟩
end
end KA
namespace KA
open PySem PySem.Spec PyProof.Rows L2
/-- what is no list is as it was -/
def NL (H H' : Hp) : Prop := ∀ b o, (∀ xs, o ≠ .lst xs) → H b = some o → H' b = some o
theorem NL.of {H H' : Hp} (s : Same H H') : NL H H' := fun b o _ h => s b o h
theorem NL.at_ {H : Hp} {D : Addr} {xs : List V} {o : HO} (h : H D = some (.lst xs)) : NL H (upd H D o) := fun b u n e => by
  have : b ≠ D := fun z => by
    rw [z, h] at e
    exact n xs (Option.some.inj e).symm
  rw [upd_ne this]
  exact e
theorem NL.trans {H H1 H2 : Hp} (a : NL H H1) (b : NL H1 H2) : NL H H2 := fun c o n h => b c o n (a c o n h)
/-- a comprehension over a list: what it makes is told by G -/
theorem lc_gen {K : PySem.W.Frag} {a : Addr} {xs : List V} {H : Hp} {D : Addr} (hD : H D = none) (hS : SqL K H a xs) (hl : xs.length ≤ 10000) (G : Nat → V → Hp → Prop) (hG : ∀ j v H1 H2, NL H1 H2 → G j v H1 → G j v H2)
    {g : TG} {tt : TT} {te : TE} {vs : List Nat} {σ : L2.St} {Qd : Hp → Prop}
    (turn : ∀ (i : Nat) (x : V) (H2 : Hp) (R : V → Hp → Prop) (C : Hp → Prop), xs[i]? = some x → Same H H2 → (∀ v H3, Same H2 H3 → G i v H3 → R v H3) → g x (wipe σ vs) H2 fun σ2 H2 => wipe σ2 vs = wipe σ vs ∧ tt σ2 H2 fun b H3 => if b = true then te σ2 H3 R else C H3)
    (fin : ∀ H' acc, Same H H' → H' D = some (.lst acc) → acc.length = xs.length → (∀ j v, acc[j]? = some v → G j v H') → Qd H') :
    ∃ W : Nat → Nat → Hp → Prop, (∃ m, W 0 m (upd H D (.lst []))) ∧ ∀ i m H, W i m H →
      ((Itl K a).stop i H ∧ Qd H) ∨ ((Itl K a).go i H ∧ ∃ Nx : Hp → Prop, (∀ H', Nx H' → ∃ m', m' < m ∧ W (i + 1) m' H') ∧ ∀ x H', (Itl K a).yld i H x H' → g x (wipe σ vs) H' fun σ2 H2 => wipe σ2 vs = wipe σ vs ∧ tt σ2 H2 fun b H3 =>
        if b = true then te σ2 H3 fun y H4 => ∃ acc, H4 D = some (.lst acc) ∧ acc.length < sizeLine ∧ Nx (upd H4 D (.lst (acc ++ [y]))) else Nx H3) := by
  refine lc_list (K := K) (a := a) (xs := xs) (fun i H' => Same H H' ∧ ∃ acc, H' D = some (.lst acc) ∧ acc.length = i ∧ ∀ j v, acc[j]? = some v → G j v H') ⟨same_upd hD, [], upd_same, rfl, fun j v h => by simp at h⟩ (fun i H' _ h => h.1.seq hS) ?_ ?_
  · rintro i x H2 hi ⟨s2, acc, e2, l2, g2⟩
    have hil : i < xs.length := (List.getElem?_eq_some_iff.mp hi).1
    refine turn i x H2 _ _ hi s2 fun v H3 s3 hv => ?_
    have e3 := s3 _ _ e2
    refine ⟨acc, e3, ?_, fun b o h => ?_, acc ++ [v], upd_same, ?_, fun j w hj => ?_⟩
    · rw [l2]
      exact Nat.lt_of_lt_of_le (show i < 10000 by omega) (by decide)
    · rw [upd_ne (ne_of_none h hD)]
      exact s3 _ _ (s2 _ _ h)
    · rw [List.length_append, l2]
      rfl
    · refine hG j w H3 _ (NL.at_ e3) ?_
      by_cases h : j < acc.length
      · rw [List.getElem?_append_left h] at hj
        exact hG j w H2 H3 (NL.of s3) (g2 j w hj)
      · rw [List.getElem?_append_right (by omega)] at hj
        have : j = i := by
          have := (List.getElem?_eq_some_iff.mp hj).1
          rw [List.length_singleton] at this
          omega
        subst this
        rw [l2, Nat.sub_self] at hj
        have : v = w := Option.some.inj hj
        subst this
        exact hv
  · rintro H' ⟨s, acc, e, l, g⟩
    exact fin H' acc s e l g
/-- .. whose values are f of the place -/
theorem lc_vals {K : PySem.W.Frag} {a : Addr} {xs : List V} {H : Hp} {D : Addr} (hD : H D = none) (hS : SqL K H a xs) (hl : xs.length ≤ 10000) (f : Nat → V)
    {g : TG} {tt : TT} {te : TE} {vs : List Nat} {σ : L2.St} {Qd : Hp → Prop}
    (turn : ∀ (i : Nat) (x : V) (H2 : Hp) (R : V → Hp → Prop) (C : Hp → Prop), xs[i]? = some x → Same H H2 → R (f i) H2 → g x (wipe σ vs) H2 fun σ2 H2 => wipe σ2 vs = wipe σ vs ∧ tt σ2 H2 fun b H3 => if b = true then te σ2 H3 R else C H3)
    (fin : ∀ H', Same H H' → H' D = some (.lst ((List.range xs.length).map f)) → Qd H') :
    ∃ W : Nat → Nat → Hp → Prop, (∃ m, W 0 m (upd H D (.lst []))) ∧ ∀ i m H, W i m H →
      ((Itl K a).stop i H ∧ Qd H) ∨ ((Itl K a).go i H ∧ ∃ Nx : Hp → Prop, (∀ H', Nx H' → ∃ m', m' < m ∧ W (i + 1) m' H') ∧ ∀ x H', (Itl K a).yld i H x H' → g x (wipe σ vs) H' fun σ2 H2 => wipe σ2 vs = wipe σ vs ∧ tt σ2 H2 fun b H3 =>
        if b = true then te σ2 H3 fun y H4 => ∃ acc, H4 D = some (.lst acc) ∧ acc.length < sizeLine ∧ Nx (upd H4 D (.lst (acc ++ [y]))) else Nx H3) := by
  refine lc_gen hD hS hl (fun j v _ => v = f j) (fun _ _ _ _ _ h => h) (fun i x H2 R C hi s hR => turn i x H2 R C hi s (hR _ _ (Same.refl _) rfl)) fun H' acc s e l g => fin H' s ?_
  rw [e]
  congr 2
  refine List.ext_getElem? fun j => ?_
  by_cases h : j < xs.length
  · rw [List.getElem?_map, List.getElem?_range h]
    have : j < acc.length := by omega
    rw [List.getElem?_eq_getElem this]
    exact congrArg some (g j _ (List.getElem?_eq_getElem this))
  · rw [List.getElem?_eq_none (by omega), List.getElem?_eq_none (by rw [List.length_map, List.length_range]; omega)]
/-- a comprehension over a list that leaves some out; the heap stays -/
theorem lc_some {K : PySem.W.Frag} {a : Addr} {xs : List V} {H : Hp} {D : Addr} (hD : H D = none) (hS : SqL K H a xs) (hl : xs.length ≤ 10000) (p : V → Bool) (f : V → V)
    {g : TG} {tt : TT} {te : TE} {vs : List Nat} {σ : L2.St} {Qd : Hp → Prop}
    (turn : ∀ (i : Nat) (x : V) (H2 : Hp) (R : V → Hp → Prop) (C : Hp → Prop), xs[i]? = some x → Same H H2 → (p x = true → R (f x) H2) → (p x = false → C H2) → g x (wipe σ vs) H2 fun σ2 H2 => wipe σ2 vs = wipe σ vs ∧ tt σ2 H2 fun b H3 => if b = true then te σ2 H3 R else C H3)
    (fin : ∀ H', Same H H' → H' D = some (.lst ((xs.filter p).map f)) → Qd H') :
    ∃ W : Nat → Nat → Hp → Prop, (∃ m, W 0 m (upd H D (.lst []))) ∧ ∀ i m H, W i m H →
      ((Itl K a).stop i H ∧ Qd H) ∨ ((Itl K a).go i H ∧ ∃ Nx : Hp → Prop, (∀ H', Nx H' → ∃ m', m' < m ∧ W (i + 1) m' H') ∧ ∀ x H', (Itl K a).yld i H x H' → g x (wipe σ vs) H' fun σ2 H2 => wipe σ2 vs = wipe σ vs ∧ tt σ2 H2 fun b H3 =>
        if b = true then te σ2 H3 fun y H4 => ∃ acc, H4 D = some (.lst acc) ∧ acc.length < sizeLine ∧ Nx (upd H4 D (.lst (acc ++ [y]))) else Nx H3) := by
  refine lc_list (K := K) (a := a) (xs := xs) (fun i H' => Same H H' ∧ H' D = some (.lst (((xs.take i).filter p).map f))) ⟨same_upd hD, upd_same⟩ (fun i H' _ h => h.1.seq hS) ?_ ?_
  · rintro i x H2 hi ⟨s2, e2⟩
    have hil : i < xs.length := (List.getElem?_eq_some_iff.mp hi).1
    refine turn i x H2 _ _ hi s2 (fun hp => ?_) (fun hp => ?_)
    · refine ⟨_, e2, ?_, fun b o h => ?_, ?_⟩
      · rw [List.length_map]
        refine Nat.lt_of_le_of_lt (List.length_filter_le _ _) ?_
        rw [List.length_take]
        exact Nat.lt_of_le_of_lt (Nat.min_le_left _ _) (Nat.lt_of_lt_of_le (show i < 10000 by omega) (by decide))
      · rw [upd_ne (ne_of_none h hD)]
        exact s2 _ _ h
      · rw [upd_same, List.take_add_one, hi, List.filter_append, List.map_append]
        show _ = some (HO.lst (_ ++ List.map f (List.filter p [x])))
        rw [List.filter_cons_of_pos hp]
        rfl
    · refine ⟨s2, ?_⟩
      rw [e2, List.take_add_one, hi, List.filter_append, List.map_append]
      show _ = some (HO.lst (_ ++ List.map f (List.filter p [x])))
      rw [List.filter_cons_of_neg (by rw [hp]; exact Bool.false_ne_true)]
      show _ = some (HO.lst (_ ++ []))
      rw [List.append_nil]
  · rintro H' ⟨s, e⟩
    rw [List.take_of_length_le (Nat.le_refl _)] at e
    exact fin H' s e
theorem cut_to (xs : List V) (i : Nat) : cutV xs none (some (i : Int)) = xs.take i := by
  unfold cutV
  rw [HT.sIx_none, show HT.sIx xs.length xs.length (some (i : Int)) = min i xs.length from HT.sIx_nat xs.length xs.length i, Nat.sub_zero, List.drop_zero]
  by_cases h : i ≤ xs.length
  · rw [Nat.min_eq_left h]
  · rw [Nat.min_eq_right (by omega), List.take_of_length_le (Nat.le_refl _), List.take_of_length_le (by omega)]
theorem cut_from (xs : List V) (i : Nat) : cutV xs (some (i : Int)) none = xs.drop i := by
  unfold cutV
  rw [HT.sIx_none, show HT.sIx xs.length 0 (some (i : Int)) = min i xs.length from HT.sIx_nat xs.length 0 i]
  by_cases h : i ≤ xs.length
  · rw [Nat.min_eq_left h, List.take_of_length_le (by rw [List.length_drop]; omega)]
  · rw [Nat.min_eq_right (by omega), List.drop_of_length_le (Nat.le_refl _), List.drop_of_length_le (by omega)]
    exact List.take_nil
section
variable {X : Cx} {K' : PySem.W.Frag}
/-! the rules with the written part by its own name (for blocks) -/
theorem pe_fldK (hK : X.K = K') {e : Expr} {f : Str} {pos : Pos} {ta : TE} (ha : PE X e ta) (hb : attributeBase e f X.env (eval e X.env) = eval e X.env) : PE X (.Attribute e f pos) (tFld K' ta f) := by
  subst hK
  exact pe_fld ha hb
theorem ix_listK (hK : X.K = K') : IxR X (rIxL K') := by
  subst hK
  exact ix_list
theorem ix_tupK (hK : X.K = K') : IxR X (rIxT K') := by
  subst hK
  exact ix_tup
theorem sl_listK (hK : X.K = K') : SlR X (rSlL K') := by
  subst hK
  exact sl_list
theorem sl_tupAK (hK : X.K = K') : SlR X (rSlA K') := by
  subst hK
  exact sl_tupA
theorem op_eqDK (hK : X.K = K') (hu : X.A.units + 64 < cLine) : OpR X (compareOp .Eq) (rEqD K') := by
  subst hK
  exact op_eqD hu
theorem op_neDK (hK : X.K = K') (hu : X.A.units + 64 < cLine) : OpR X (compareOp .NotEq) (rNeD K') := by
  subst hK
  exact op_neD hu
theorem op_in_seqK (hK : X.K = K') : OpR X (compareOp .In) (rIn K' false) := by
  subst hK
  exact op_in_seq
end
section
variable {X : Cx}
/-- a statement and what follows it, with a word between -/
def tCutJ (t u : TS) : TS := fun D σ H => ∃ Mid : L2.St → Hp → Prop, t { D with nx := Mid } σ H ∧ ∀ σ' H', Mid σ' H' → u D σ' H'
theorem pss_cutJ {st : Stmt} {rest : List Stmt} {t u : TS} (h1 : PS X st t) (h2 : PSs X rest u) : PSs X (st :: rest) (tCutJ t u) := by
  refine ⟨fun pins s σ H D I h => ?_⟩
  obtain ⟨Mid, hm, hu⟩ := h
  refine wpAny_execs_cons (thn (h1.run pins s σ H { D with nx := Mid } I hm) fun f s1 q => ?_)
  cases f with
  | next =>
    obtain ⟨σ', H', I', q⟩ := q
    exact h2.run pins s1 σ' H' D I' (hu σ' H' q)
  | ret v => exact q
  | brk => exact q
  | cont => exact q
end
theorem nl_tup {K : PySem.W.Frag} {H H' : Hp} {a : Addr} {xs : List V} (s : NL H H') (h : SqT K H a xs) : SqT K H' a xs := by
  rcases h with (h | ⟨o, h⟩) | h
  · exact .inl (.inl (s _ _ (fun _ z => by cases z) h))
  · exact .inl (.inr ⟨o, s _ _ (fun _ z => by cases z) h⟩)
  · exact .inr h
theorem mem_cut {xs : List V} {lo hi : Option Int} {v : V} (h : v ∈ cutV xs lo hi) : v ∈ xs := List.mem_of_mem_drop (List.mem_of_mem_take h)
theorem len_cut (xs : List V) (lo hi : Option Int) : (cutV xs lo hi).length ≤ xs.length := by
  unfold cutV
  rw [List.length_take, List.length_drop]
  omega
/-- a comprehension over a list that leaves places out; the heap stays -/
theorem lc_someI {K : PySem.W.Frag} {a : Addr} {xs : List V} {H : Hp} {D : Addr} (hD : H D = none) (hS : SqL K H a xs) (hl : xs.length ≤ 10000) (p : Nat → Bool) (f : Nat → V)
    {g : TG} {tt : TT} {te : TE} {vs : List Nat} {σ : L2.St} {Qd : Hp → Prop}
    (turn : ∀ (i : Nat) (x : V) (H2 : Hp) (R : V → Hp → Prop) (C : Hp → Prop), xs[i]? = some x → Same H H2 → (p i = true → R (f i) H2) → (p i = false → C H2) → g x (wipe σ vs) H2 fun σ2 H2 => wipe σ2 vs = wipe σ vs ∧ tt σ2 H2 fun b H3 => if b = true then te σ2 H3 R else C H3)
    (fin : ∀ H', Same H H' → H' D = some (.lst (((List.range xs.length).filter p).map f)) → Qd H') :
    ∃ W : Nat → Nat → Hp → Prop, (∃ m, W 0 m (upd H D (.lst []))) ∧ ∀ i m H, W i m H →
      ((Itl K a).stop i H ∧ Qd H) ∨ ((Itl K a).go i H ∧ ∃ Nx : Hp → Prop, (∀ H', Nx H' → ∃ m', m' < m ∧ W (i + 1) m' H') ∧ ∀ x H', (Itl K a).yld i H x H' → g x (wipe σ vs) H' fun σ2 H2 => wipe σ2 vs = wipe σ vs ∧ tt σ2 H2 fun b H3 =>
        if b = true then te σ2 H3 fun y H4 => ∃ acc, H4 D = some (.lst acc) ∧ acc.length < sizeLine ∧ Nx (upd H4 D (.lst (acc ++ [y]))) else Nx H3) := by
  refine lc_list (K := K) (a := a) (xs := xs) (fun i H' => Same H H' ∧ H' D = some (.lst (((List.range i).filter p).map f))) ⟨same_upd hD, upd_same⟩ (fun i H' _ h => h.1.seq hS) ?_ ?_
  · rintro i x H2 hi ⟨s2, e2⟩
    have hil : i < xs.length := (List.getElem?_eq_some_iff.mp hi).1
    refine turn i x H2 _ _ hi s2 (fun hp => ?_) (fun hp => ?_)
    · refine ⟨_, e2, ?_, fun b o h => ?_, ?_⟩
      · rw [List.length_map]
        refine Nat.lt_of_le_of_lt (List.length_filter_le _ _) ?_
        rw [List.length_range]
        exact Nat.lt_of_lt_of_le (show i < 10000 by omega) (by decide)
      · rw [upd_ne (ne_of_none h hD)]
        exact s2 _ _ h
      · rw [upd_same, List.range_succ, List.filter_append, List.map_append, List.filter_cons_of_pos hp]
        rfl
    · refine ⟨s2, ?_⟩
      rw [e2, List.range_succ, List.filter_append, List.map_append, List.filter_cons_of_neg (by rw [hp]; exact Bool.false_ne_true)]
      show _ = some (HO.lst (_ ++ []))
      rw [List.append_nil]
  · rintro H' ⟨s, e⟩
    exact fin H' s e
section
variable {X : Cx} {CX : CXT} {k : Nat} {f : Addr} {fd : FuncData} {ps ks : List Str} {sp : Sp} {E : XK} {x : Str} {p pos : Pos} {kws : List Keyword} {tk : TA} {g : List Value → List Value → List Value} {gV : List V → List V → List V}
/-- f(k = v, ..) -/
theorem pe_callN0 (F : FnOk X.prog X.w X.K X.mg X.base CX k f fd ps sp) (hr : Room k X.A) (hg : Gl X x) (hm : X.mg x = some (.ref f)) (hk : PySem.W.keepIn X.K (.ref f) = true) (hb : KBn X.K fd ps 0 ks g gV) (hx : Passes CX X E) (hkw : PK X kws tk)
    (hall : (backToKw pos (keywordEach kws X.env)).all (·.1.isSome) = true := by rfl) (hks : (backToKw pos (keywordEach kws X.env)).filterMap (·.1) = ks := by rfl) (hdb : (x == ("__debug__" : Str)) = false := by decide)
    (hpl : ((backTo pos (starEach [] X.env)).any (·.1) || (backToKw pos (keywordEach kws X.env)).any (·.1.isNone)) = false := by rfl) :
    PE X (.Call (.Name x p) [] kws pos) (tCallN 0 ks.length sp gV E tNil tk) := by
  refine ⟨fun pins s σ H Q I h => ?_⟩
  refine wpAny_Call_Name_kw (ld_glob I hg hm ?_ hdb)
  refine PySem.W.callWith_KW0 (h₀ := X.base) I.ok.mod.kin hk hall ?_ hpl
  refine thn (hkw.run pos pins s σ H _ I h) fun ws s2 ⟨zs, H2, I2, rz, l1, l2, q2⟩ => ⟨I2.kIn, ?_⟩
  rw [hks]
  exact run_fnN (us := []) (vs := []) F hr hb hx I2 .nil rz rfl l2 q2
end
/-- keywords of a def without defaults -/
theorem kbn_of {K : PySem.W.Frag} {x qual : Str} {st : Stmt} {f : Addr} {fd : FuncData} {ps : List Str} (F : Fun K x qual st f fd) (n : Nat) (ks : List Str) (g : List Value → List Value → List Value) (gV : List V → List V → List V)
    (hrel : ∀ {vs : List V} {us : List Value} {zs : List V} {ws : List Value}, Vals vs us → Vals zs ws → Vals (gV vs zs) (g us ws))
    (h : ∀ (kV doc pm : Value) (an : Option Addr) (cdv ct : Value) (us ws : List Value), us.length = n → ws.length = ks.length → bindArgs (PySem.W.fnOf x qual (defArgs st) (defBody st) (defScope st) .none kV doc pm an cdv ct) ⟨us, ks.zip ws⟩ = pure (ps.zip (g us ws))) : KBn K fd ps n ks g gV := by
  obtain ⟨oc, od, kV, doc, pm, an, cdv, ct, osl, rfl, lk, hcd⟩ := F.ex
  exact ⟨fun s us ws _ l1 l2 => .of_eq (h kV doc pm an cdv ct us ws l1 l2), hrel⟩
def gsw {α : Type} (l : List α) : List α := match l with
  | [a, b] => [b, a]
  | l => l
theorem gsw_rel {zs : List V} {ws : List Value} (h : Vals zs ws) : Vals (gsw zs) (gsw ws) := by
  cases h with
  | nil => exact .nil
  | cons r1 h =>
    cases h with
    | nil => exact .cons r1 .nil
    | cons r2 h =>
      cases h with
      | nil => exact .cons r2 (.cons r1 .nil)
      | cons r3 h => exact .cons r1 (.cons r2 (.cons r3 h))
/-- a comprehension over range(n): what it makes is told by G -/
theorem lc_genR {n : Nat} {H : Hp} {D : Addr} (hD : H D = none) (hl : n ≤ 10000) (G : Nat → V → Hp → Prop) (hG : ∀ j v H1 H2, NL H1 H2 → G j v H1 → G j v H2)
    {g : TG} {tt : TT} {te : TE} {vs : List Nat} {σ : L2.St} {Qd : Hp → Prop}
    (turn : ∀ (i : Nat) (H2 : Hp) (R : V → Hp → Prop) (C : Hp → Prop), i < n → Same H H2 → (∀ v H3, Same H2 H3 → G i v H3 → R v H3) → g (.int (0 + i)) (wipe σ vs) H2 fun σ2 H2 => wipe σ2 vs = wipe σ vs ∧ tt σ2 H2 fun b H3 => if b = true then te σ2 H3 R else C H3)
    (fin : ∀ H' acc, Same H H' → H' D = some (.lst acc) → acc.length = n → (∀ j v, acc[j]? = some v → G j v H') → Qd H') :
    ∃ W : Nat → Nat → Hp → Prop, (∃ m, W 0 m (upd H D (.lst []))) ∧ ∀ i m H, W i m H →
      ((Itr 0 n).stop i H ∧ Qd H) ∨ ((Itr 0 n).go i H ∧ ∃ Nx : Hp → Prop, (∀ H', Nx H' → ∃ m', m' < m ∧ W (i + 1) m' H') ∧ ∀ x H', (Itr 0 n).yld i H x H' → g x (wipe σ vs) H' fun σ2 H2 => wipe σ2 vs = wipe σ vs ∧ tt σ2 H2 fun b H3 =>
        if b = true then te σ2 H3 fun y H4 => ∃ acc, H4 D = some (.lst acc) ∧ acc.length < sizeLine ∧ Nx (upd H4 D (.lst (acc ++ [y]))) else Nx H3) := by
  refine lc_range (lo := 0) (n := n) (fun i H' => Same H H' ∧ ∃ acc, H' D = some (.lst acc) ∧ acc.length = i ∧ ∀ j v, acc[j]? = some v → G j v H') ⟨same_upd hD, [], upd_same, rfl, fun j v h => by simp at h⟩ ?_ ?_
  · rintro i H2 hi ⟨s2, acc, e2, l2, g2⟩
    refine turn i H2 _ _ hi s2 fun v H3 s3 hv => ?_
    have e3 := s3 _ _ e2
    refine ⟨acc, e3, ?_, fun b o h => ?_, acc ++ [v], upd_same, ?_, fun j w hj => ?_⟩
    · rw [l2]
      exact Nat.lt_of_lt_of_le (show i < 10000 by omega) (by decide)
    · rw [upd_ne (ne_of_none h hD)]
      exact s3 _ _ (s2 _ _ h)
    · rw [List.length_append, l2]
      rfl
    · refine hG j w H3 _ (NL.at_ e3) ?_
      by_cases h : j < acc.length
      · rw [List.getElem?_append_left h] at hj
        exact hG j w H2 H3 (NL.of s3) (g2 j w hj)
      · rw [List.getElem?_append_right (by omega)] at hj
        have : j = i := by
          have := (List.getElem?_eq_some_iff.mp hj).1
          rw [List.length_singleton] at this
          omega
        subst this
        rw [l2, Nat.sub_self] at hj
        have : v = w := Option.some.inj hj
        subst this
        exact hv
  · rintro H' ⟨s, acc, e, l, g⟩
    exact fin H' acc s e l g
/-- [k for k in range(n) if a draw ..] -/
theorem lc_drawK {P : Int → Prop} {d D : Addr} {m n : Nat} {H1 : Hp} (hD : H1 D = none) (dr : Dr P d m H1) (hn : n ≤ 1000) {g : TG} {tt : TT} {te : TE} {vs : List Nat} {σ : L2.St} {Qd : Hp → Prop}
    (turn : ∀ (i : Nat) (H2 : Hp) (R : V → Hp → Prop) (C : Hp → Prop), i < n → Dr P d (m + i) H2 → (∀ H3, But d H2 H3 → Dr P d (m + i + 1) H3 → R (.int (i : Int)) H3 ∧ C H3) → g (.int (0 + i)) (wipe σ vs) H2 fun σ2 H2 => wipe σ2 vs = wipe σ vs ∧ tt σ2 H2 fun b H3 => if b = true then te σ2 H3 R else C H3)
    (fin : ∀ H' (ks : List Nat), (∀ k ∈ ks, k < n) → ks.length ≤ n → But d H1 H' → Dr P d (m + n) H' → H' D = some (.lst (ks.map fun (k : Nat) => V.int (k : Int))) → Qd H') :
    ∃ W : Nat → Nat → Hp → Prop, (∃ m, W 0 m (upd H1 D (.lst []))) ∧ ∀ i m H, W i m H →
      ((Itr 0 n).stop i H ∧ Qd H) ∨ ((Itr 0 n).go i H ∧ ∃ Nx : Hp → Prop, (∀ H', Nx H' → ∃ m', m' < m ∧ W (i + 1) m' H') ∧ ∀ x H', (Itr 0 n).yld i H x H' → g x (wipe σ vs) H' fun σ2 H2 => wipe σ2 vs = wipe σ vs ∧ tt σ2 H2 fun b H3 =>
        if b = true then te σ2 H3 fun y H4 => ∃ acc, H4 D = some (.lst acc) ∧ acc.length < sizeLine ∧ Nx (upd H4 D (.lst (acc ++ [y]))) else Nx H3) := by
  have nD : D ≠ d := dr.ne hD
  refine lc_range (lo := 0) (n := n) (fun i H' => ∃ ks : List Nat, (∀ k ∈ ks, k < n) ∧ ks.length ≤ i ∧ But d H1 H' ∧ Dr P d (m + i) H' ∧ H' D = some (.lst (ks.map fun (k : Nat) => V.int (k : Int)))) ⟨[], (fun _ h => nomatch h), Nat.le_refl _, But.new hD, dr.upd nD, upd_same⟩ ?_ ?_
  · rintro i H2 hi ⟨ks, hk, hl, b2, dr2, e2⟩
    refine turn i H2 _ _ hi dr2 fun H3 b3 dr3 => ⟨?_, ks, hk, by omega, b2.trans b3, dr3, b3 _ _ nD e2⟩
    refine ⟨_, b3 _ _ nD e2, ?_, ks ++ [i], ?_, ?_, ?_, ?_, ?_⟩
    · rw [List.length_map]
      exact Nat.lt_of_lt_of_le (show ks.length < 1001 by omega) (by decide)
    · intro k h
      rcases List.mem_append.mp h with h | h
      · exact hk k h
      · rw [List.mem_singleton.mp h]
        exact hi
    · rw [List.length_append, List.length_singleton]
      omega
    · exact (b2.trans b3).mut hD
    · exact (dr3.upd nD).mono (by omega)
    · rw [upd_same, List.map_append]
      rfl
  · rintro H' ⟨ks, hk, hl, b, dr', e⟩
    exact fin H' ks hk hl b dr' e
theorem in_ints (k : Nat) (S : List Nat) : inV (.int (k : Int)) (S.map fun (j : Nat) => V.int (j : Int)) = decide (k ∈ S) := by
  unfold inV
  rw [List.any_map]
  induction S with
  | nil => rfl
  | cons j S ih =>
    rw [List.any_cons, ih]
    show (((j : Int) == (k : Int)) || decide (k ∈ S)) = _
    rw [Bool.eq_iff_iff, Bool.or_eq_true, beq_iff_eq, decide_eq_true_eq, decide_eq_true_eq, List.mem_cons]
    constructor
    · rintro (h | h)
      · exact .inl (by omega)
      · exact .inr h
    · rintro (h | h)
      · exact .inl (by omega)
      · exact .inr h
theorem flat_ints (S : List Nat) : (S.map fun (j : Nat) => V.int (j : Int)).all flatV = true := by
  rw [List.all_eq_true]
  intro v hv
  obtain ⟨j, _, rfl⟩ := List.mem_map.mp hv
  rfl
end KA
namespace KA
open PySem PySem.SeqAt
open AutoSeq1 (wpAny_loadPart')
open MeetsSeq MeetsSeq2 MeetsSeq3 SeqRoads2
section
variable {prog : Program} {w : World} {A : Around} {R : Result → Shared → Prop}
/-- two lists whose items are equal, turn by turn: != is False -/
theorem ne_turns (p q : Addr) (N : Nat) (J : Nat → Shared → Prop) (hJ : GQ.ListI prog w A (fun e s' => R (.error e) s') p q N J)
    (done : ∀ s, J N s → R (.ok (.ret (.bool false))) s) : ∀ (k i : Nat), N - i = k → i ≤ N → ∀ s, J i s →
      wpAny (model prog w) A.in1 (Builtin.«list.__eq__.loop» ⟨[.ref p, .ref q, rawInt i, rawInt 3], []⟩) (GQ.FinOf prog w A R) (fun e s' => R (.error e) s') s
  | 0, i, hk, hi, s, hs => by
    obtain ⟨xs, ys, m, m2, gp, gq, zp, zq, _⟩ := hJ _ _ hs
    have iN : i = N := by omega
    have last : R (.ok (.ret (.bool false))) s := done s (iN ▸ hs)
    obtain ⟨hh, gg, dd, kk, oo⟩ := s
    wp_walk using wpAny_loadPart' gp, wpAny_loadPart' gq
    have n1 : xs[((i : Nat) : Int).toNat]? = none := by simp; omega
    have n2 : ys[((i : Nat) : Int).toNat]? = none := by simp; omega
    rw [n1, n2]
    wp_walk using wpAny_loadPart' gp, wpAny_loadPart' gq
    show R (.ok (.ret (.bool (xs.size != ys.size)))) _
    rw [zp, zq]
    simpa using last
  | k + 1, i, hk, hi, s, hs => by
    obtain ⟨xs, ys, m, m2, gp, gq, zp, zq, tn⟩ := hJ _ _ hs
    have ip : i < xs.size := by omega
    have iq : i < ys.size := by omega
    have tt := tn ip iq
    obtain ⟨hh, gg, dd, kk, oo⟩ := s
    wp_walk using wpAny_loadPart' gp, wpAny_loadPart' gq
    have n1 : xs[((i : Nat) : Int).toNat]? = some xs[i] := by simp [ip]
    have n2 : ys[((i : Nat) : Int).toNat]? = some ys[i] := by simp [iq]
    have up : ((i : Int) + 1) = ((i + 1 : Nat) : Int) := by omega
    rw [n1, n2]
    refine wpAny_bind (wpAny_mono tt (fun r s2 h2 => ?_) fun _ _ x => x)
    obtain ⟨er, h2⟩ := h2
    subst er
    have next := ne_turns p q N J hJ done k (i + 1) (by omega) (by omega) s2 h2
    obtain ⟨hh2, gg2, dd2, kk2, oo2⟩ := s2
    wp_walk
    rw [up]
    exact ⟨plainId_quiet plain_eq_loop _, codeAny_builtin entry_eq_loop (by rw [Around.under_plainId plain_eq_loop _]; exact next)⟩
theorem ne_lists (p q : Addr) (N : Nat) (J : Nat → Shared → Prop) (hJ : GQ.ListI prog w A (fun e s' => R (.error e) s') p q N J)
    (done : ∀ s, J N s → R (.ok (.ret (.bool false))) s) {s : Shared} (hs : J 0 s) :
    wpAny (model prog w) A.in1 (Builtin.«list.__ne__» ⟨[.ref p, .ref q], []⟩) (GQ.FinOf prog w A R) (fun e s' => R (.error e) s') s := by
  obtain ⟨xs, ys, m, m2, gp, gq, zp, zq, _⟩ := hJ _ _ hs
  have all := ne_turns (A := A) (R := R) p q N J hJ done _ 0 rfl (Nat.zero_le _) s hs
  obtain ⟨hh, gg, dd, kk, oo⟩ := s
  have sub := AutoSeq1.sub_list_list
  have same : ¬ (xs.size != ys.size) = true := by simp [zp, zq]
  wp_walk using wpAny_loadPart' gp, wpAny_loadPart' gq
  exact ⟨plainId_quiet plain_eq_loop _, codeAny_builtin entry_eq_loop (by rw [Around.under_plainId plain_eq_loop _]; exact all)⟩
end
section
variable {prog : Program} {w : World} {A : Around} {E : Value → Shared → Prop} {s : Shared}
theorem rc_ne {p q : Addr} {N : Nat} {Q : Value → Shared → Prop} (hu : A.units < cLine) (J : Nat → Shared → Prop) (hJ : GQ.ListI prog w A E p q N J)
    (done : ∀ s, J N s → Q (.bool false) s) (hs : J 0 s) : wpAny (model prog w) A (richCompare .NotEq (.ref p) (.ref q)) Q E s := by
  obtain ⟨xs, ys, m, m2, gp, gq, _, _, _⟩ := hJ _ _ hs
  refine wpAny_richCompare_same_room (op := .NotEq) ⟨_, gp, rfl⟩ ⟨_, gq, rfl⟩ F.slot_list_ne (GQ.call_here F.slot_list_ne ⟨_, gp, rfl⟩ F.entry_list_ne (F.args_list_ne_2 _ _) ?_) hu
  exact ne_lists (R := wants (fun v s' => v ≠ .notImplemented ∧ Q v s') E) p q N J hJ (fun s' z => ⟨(fun x => nomatch x), done s' z⟩) hs
end
open L2 in
/-- xs != ys, where the items are equal by their own == : False -/
def rNeG (D : Eqv) : R2 := fun x y H Q => DList D x y H ∧ ∀ H', Ext H H' → Q (.bl false) H'
open L2 in
theorem op_neG {X : Cx} {n : Nat} {D : Eqv} (hD : Mon D) (h : EqG X n D) (hr : Room (n + 1) X.A) : OpR X (compareOp .NotEq) (rNeG D) := by
  intro pins s σ H x y v u Q I rx ry hq
  obtain ⟨⟨a, b, xs, ys, rfl, rfl, ha, hb, p⟩, q⟩ := hq
  cases rx
  cases ry
  show wpAny (model X.prog X.w) X.A (richCompare .NotEq (.ref a) (.ref b)) (EP X pins σ Q) X.xe s
  refine rc_ne (N := xs.length) hr.units0 (fun _ s' => LoopI X pins σ H s') (fun i s' z => ?_) (fun s' z => ?_) ⟨H, I, Ext.rfl'⟩
  · obtain ⟨H1, I1, e1⟩ := id z
    obtain ⟨_, its, k, r, e⟩ := I1.hok a _ (e1 _ _ ha)
    obtain ⟨_, its2, k2, r2, e2⟩ := I1.hok b _ (e1 _ _ hb)
    exact ⟨its.toArray, its2.toArray, k, k2, e, e2, by rw [List.size_toArray, ← r.length], by rw [List.size_toArray, ← r2.length, ← p.1], fun g1 g2 => turnG hD h ⟨hr, rfl⟩ p r r2 i g1 g2 s' z⟩
  · obtain ⟨H1, I1, e1⟩ := z
    exact ⟨.bl false, H1, I1, rfl, q H1 e1⟩
end KA
namespace KA
open PySem PySem.Spec PyProof.Rows L2
/-- a comprehension over a list that leaves places out; what it asks may make new things -/
theorem lc_someX {K : PySem.W.Frag} {a : Addr} {xs : List V} {H : Hp} {D : Addr} (hD : H D = none) (hS : SqL K H a xs) (hl : xs.length ≤ 10000) (p : Nat → Bool) (f : Nat → V)
    {g : TG} {tt : TT} {te : TE} {vs : List Nat} {σ : L2.St} {Qd : Hp → Prop}
    (turn : ∀ (i : Nat) (x : V) (H2 : Hp) (R : V → Hp → Prop) (C : Hp → Prop), xs[i]? = some x → Same H H2 → (p i = true → ∀ H3, Same H2 H3 → R (f i) H3) → (p i = false → ∀ H3, Same H2 H3 → C H3) → g x (wipe σ vs) H2 fun σ2 H2 => wipe σ2 vs = wipe σ vs ∧ tt σ2 H2 fun b H3 => if b = true then te σ2 H3 R else C H3)
    (fin : ∀ H', Same H H' → H' D = some (.lst (((List.range xs.length).filter p).map f)) → Qd H') :
    ∃ W : Nat → Nat → Hp → Prop, (∃ m, W 0 m (upd H D (.lst []))) ∧ ∀ i m H, W i m H →
      ((Itl K a).stop i H ∧ Qd H) ∨ ((Itl K a).go i H ∧ ∃ Nx : Hp → Prop, (∀ H', Nx H' → ∃ m', m' < m ∧ W (i + 1) m' H') ∧ ∀ x H', (Itl K a).yld i H x H' → g x (wipe σ vs) H' fun σ2 H2 => wipe σ2 vs = wipe σ vs ∧ tt σ2 H2 fun b H3 =>
        if b = true then te σ2 H3 fun y H4 => ∃ acc, H4 D = some (.lst acc) ∧ acc.length < sizeLine ∧ Nx (upd H4 D (.lst (acc ++ [y]))) else Nx H3) := by
  refine lc_list (K := K) (a := a) (xs := xs) (fun i H' => Same H H' ∧ H' D = some (.lst (((List.range i).filter p).map f))) ⟨same_upd hD, upd_same⟩ (fun i H' _ h => h.1.seq hS) ?_ ?_
  · rintro i x H2 hi ⟨s2, e2⟩
    have hil : i < xs.length := (List.getElem?_eq_some_iff.mp hi).1
    refine turn i x H2 _ _ hi s2 (fun hp H3 s3 => ?_) (fun hp H3 s3 => ?_)
    · refine ⟨_, s3 _ _ e2, ?_, fun b o h => ?_, ?_⟩
      · rw [List.length_map]
        refine Nat.lt_of_le_of_lt (List.length_filter_le _ _) ?_
        rw [List.length_range]
        exact Nat.lt_of_lt_of_le (show i < 10000 by omega) (by decide)
      · rw [upd_ne (ne_of_none h hD)]
        exact s3 _ _ (s2 _ _ h)
      · rw [upd_same, List.range_succ, List.filter_append, List.map_append, List.filter_cons_of_pos hp]
        rfl
    · refine ⟨s2.trans s3, ?_⟩
      rw [s3 _ _ e2, List.range_succ, List.filter_append, List.map_append, List.filter_cons_of_neg (by rw [hp]; exact Bool.false_ne_true)]
      show _ = some (HO.lst (_ ++ []))
      rw [List.append_nil]
  · rintro H' ⟨s, e⟩
    exact fin H' s e
theorem lc_someR {n : Nat} {H : Hp} {D : Addr} (hD : H D = none) (hl : n ≤ 10000) (p : Nat → Bool) (f : Nat → V)
    {g : TG} {tt : TT} {te : TE} {vs : List Nat} {σ : L2.St} {Qd : Hp → Prop}
    (turn : ∀ (i : Nat) (H2 : Hp) (R : V → Hp → Prop) (C : Hp → Prop), i < n → Same H H2 → (p i = true → ∀ H3, Same H2 H3 → R (f i) H3) → (p i = false → ∀ H3, Same H2 H3 → C H3) → g (.int (0 + i)) (wipe σ vs) H2 fun σ2 H2 => wipe σ2 vs = wipe σ vs ∧ tt σ2 H2 fun b H3 => if b = true then te σ2 H3 R else C H3)
    (fin : ∀ H', Same H H' → H' D = some (.lst (((List.range n).filter p).map f)) → Qd H') :
    ∃ W : Nat → Nat → Hp → Prop, (∃ m, W 0 m (upd H D (.lst []))) ∧ ∀ i m H, W i m H →
      ((Itr 0 n).stop i H ∧ Qd H) ∨ ((Itr 0 n).go i H ∧ ∃ Nx : Hp → Prop, (∀ H', Nx H' → ∃ m', m' < m ∧ W (i + 1) m' H') ∧ ∀ x H', (Itr 0 n).yld i H x H' → g x (wipe σ vs) H' fun σ2 H2 => wipe σ2 vs = wipe σ vs ∧ tt σ2 H2 fun b H3 =>
        if b = true then te σ2 H3 fun y H4 => ∃ acc, H4 D = some (.lst acc) ∧ acc.length < sizeLine ∧ Nx (upd H4 D (.lst (acc ++ [y]))) else Nx H3) := by
  refine lc_range (lo := 0) (n := n) (fun i H' => Same H H' ∧ H' D = some (.lst (((List.range i).filter p).map f))) ⟨same_upd hD, upd_same⟩ ?_ ?_
  · rintro i H2 hil ⟨s2, e2⟩
    refine turn i H2 _ _ hil s2 (fun hp H3 s3 => ?_) (fun hp H3 s3 => ?_)
    · refine ⟨_, s3 _ _ e2, ?_, fun b o h => ?_, ?_⟩
      · rw [List.length_map]
        refine Nat.lt_of_le_of_lt (List.length_filter_le _ _) ?_
        rw [List.length_range]
        exact Nat.lt_of_lt_of_le (show i < 10000 by omega) (by decide)
      · rw [upd_ne (ne_of_none h hD)]
        exact s3 _ _ (s2 _ _ h)
      · rw [upd_same, List.range_succ, List.filter_append, List.map_append, List.filter_cons_of_pos hp]
        rfl
    · refine ⟨s2.trans s3, ?_⟩
      rw [s3 _ _ e2, List.range_succ, List.filter_append, List.map_append, List.filter_cons_of_neg (by rw [hp]; exact Bool.false_ne_true)]
      show _ = some (HO.lst (_ ++ []))
      rw [List.append_nil]
  · rintro H' ⟨s, e⟩
    exact fin H' s e
end KA
namespace KA
open PySem PySem.Spec PyProof.Rows L2
/-! ### shares as pairs -/
/-- by what both are divided -/
def prt (n d : Int) : Int := if d < 0 then -(Int.gcd n d : Int) else (Int.gcd n d : Int)
def shr (n d : Int) : Int × Int := (n.fdiv (prt n d), d.fdiv (prt n d))
theorem gcd_pos {n d : Int} (h : d ≠ 0) : 0 < Int.gcd n d := by
  have : Int.gcd n d ≠ 0 := fun z => h (Int.gcd_eq_zero_iff.mp z).2
  omega
theorem prt_ne {n d : Int} (h : d ≠ 0) : prt n d ≠ 0 := by
  have := gcd_pos (n := n) h
  unfold prt
  split <;> omega
theorem prt_dvd1 (n d : Int) : prt n d ∣ n := by
  unfold prt
  split
  · exact Int.neg_dvd.mpr (Int.gcd_dvd_left ..)
  · exact Int.gcd_dvd_left ..
theorem prt_dvd2 (n d : Int) : prt n d ∣ d := by
  unfold prt
  split
  · exact Int.neg_dvd.mpr (Int.gcd_dvd_right ..)
  · exact Int.gcd_dvd_right ..
theorem shr1 (n d : Int) : prt n d * (shr n d).1 = n := by
  show prt n d * n.fdiv (prt n d) = n
  rw [Int.fdiv_eq_ediv_of_dvd (prt_dvd1 n d)]
  exact Int.mul_ediv_cancel' (prt_dvd1 n d)
theorem shr2 (n d : Int) : prt n d * (shr n d).2 = d := by
  show prt n d * d.fdiv (prt n d) = d
  rw [Int.fdiv_eq_ediv_of_dvd (prt_dvd2 n d)]
  exact Int.mul_ediv_cancel' (prt_dvd2 n d)
theorem shr_pos {n d : Int} (h : d ≠ 0) : 0 < (shr n d).2 := by
  have e := shr2 n d
  have g := gcd_pos (n := n) h
  by_cases hd : d < 0
  · have hp : prt n d < 0 := by unfold prt; rw [if_pos hd]; omega
    rcases Int.lt_trichotomy (shr n d).2 0 with z | z | z
    · have := Int.mul_pos_of_neg_of_neg hp z
      omega
    · rw [z] at e
      omega
    · exact z
  · have hp : 0 < prt n d := by unfold prt; rw [if_neg hd]; omega
    rcases Int.lt_trichotomy (shr n d).2 0 with z | z | z
    · have := Int.mul_neg_of_pos_of_neg hp z
      omega
    · rw [z] at e
      omega
    · exact z
theorem prt_abs (n d : Int) : (prt n d).natAbs = Int.gcd n d := by
  unfold prt
  split <;> omega
theorem shr_low {n d : Int} (h : d ≠ 0) : Int.gcd (shr n d).1 (shr n d).2 = 1 := by
  have g := gcd_pos (n := n) h
  have e : Int.gcd (prt n d * (shr n d).1) (prt n d * (shr n d).2) = (prt n d).natAbs * Int.gcd (shr n d).1 (shr n d).2 := Int.gcd_mul_left ..
  rw [shr1, shr2, prt_abs] at e
  have : Int.gcd n d * 1 = Int.gcd n d * Int.gcd (shr n d).1 (shr n d).2 := by omega
  exact (Nat.eq_of_mul_eq_mul_left g this).symm
/-- of the worth u over g -/
def Eqf (x : Int × Int) (u g : Int) : Prop := x.1 * g = u * x.2
theorem shr_eqf (n d : Int) : Eqf (shr n d) n d := by
  have a := shr1 n d
  have b := shr2 n d
  show (shr n d).1 * d = n * (shr n d).2
  generalize prt n d = p at a b
  generalize (shr n d).1 = x at a ⊢
  generalize (shr n d).2 = y at b ⊢
  subst a b
  grind
theorem eqf_trans {n d u g : Int} (h : d ≠ 0) (e : n * g = u * d) : Eqf (shr n d) u g := by
  have a := shr_eqf n d
  unfold Eqf at a ⊢
  refine Int.eq_of_mul_eq_mul_right h ?_
  grind
theorem eqf_plus {x y : Int × Int} {a b c d : Int} (hx : Eqf x a b) (hy : Eqf y c d) (x0 : 0 < x.2) (y0 : 0 < y.2) : Eqf (shr (x.1 * y.2 + y.1 * x.2) (x.2 * y.2)) (a * d + c * b) (b * d) := by
  unfold Eqf at hx hy
  refine eqf_trans (Int.mul_ne_zero (by omega) (by omega)) ?_
  grind
theorem eqf_minus {x y : Int × Int} {a b c d : Int} (hx : Eqf x a b) (hy : Eqf y c d) (x0 : 0 < x.2) (y0 : 0 < y.2) : Eqf (shr (x.1 * y.2 - y.1 * x.2) (x.2 * y.2)) (a * d - c * b) (b * d) := by
  unfold Eqf at hx hy
  refine eqf_trans (Int.mul_ne_zero (by omega) (by omega)) ?_
  grind
theorem eqf_times {x y : Int × Int} {a b c d : Int} (hx : Eqf x a b) (hy : Eqf y c d) (x0 : 0 < x.2) (y0 : 0 < y.2) : Eqf (shr (x.1 * y.1) (x.2 * y.2)) (a * c) (b * d) := by
  unfold Eqf at hx hy
  refine eqf_trans (Int.mul_ne_zero (by omega) (by omega)) ?_
  grind
def sgn (m : Int) : Int := if m < 0 then -1 else 1
theorem below_iff {x y : Int × Int} {a b c d : Int} (hx : Eqf x a b) (hy : Eqf y c d) (x0 : 0 < x.2) (y0 : 0 < y.2) (hb : b ≠ 0) (hd : d ≠ 0) : (x.1 * y.2 < y.1 * x.2) ↔ (sgn (b * d) * a * d < sgn (b * d) * c * b) := by
  unfold Eqf at hx hy
  have bd : b * d ≠ 0 := Int.mul_ne_zero hb hd
  have hp : 0 < sgn (b * d) * (b * d) := by
    unfold sgn
    split <;> omega
  have xy : 0 < x.2 * y.2 := Int.mul_pos x0 y0
  rw [← Int.mul_lt_mul_right hp, ← Int.mul_lt_mul_right (a := x.2 * y.2) (b := sgn (b * d) * a * d) xy]
  have e1 : x.1 * y.2 * (sgn (b * d) * (b * d)) = sgn (b * d) * a * d * (x.2 * y.2) := by grind
  have e2 : y.1 * x.2 * (sgn (b * d) * (b * d)) = sgn (b * d) * c * b * (x.2 * y.2) := by grind
  rw [e1, e2]
/-! ### sums -/
def PP : List (Int × Int) → Int
  | [] => 1
  | x :: l => x.2 * PP l
def NN : List (Int × Int) → Int
  | [] => 0
  | x :: l => x.1 * PP l + NN l * x.2
theorem PP_app : ∀ l m : List (Int × Int), PP (l ++ m) = PP l * PP m
  | [], m => by show PP m = 1 * PP m; omega
  | x :: l, m => by
    show x.2 * PP (l ++ m) = x.2 * PP l * PP m
    rw [PP_app l m, Int.mul_assoc]
theorem NN_app : ∀ l m : List (Int × Int), NN (l ++ m) = NN l * PP m + NN m * PP l
  | [], m => by
    show NN m = 0 * PP m + NN m * 1
    omega
  | x :: l, m => by
    show x.1 * PP (l ++ m) + NN (l ++ m) * x.2 = (x.1 * PP l + NN l * x.2) * PP m + NN m * (x.2 * PP l)
    rw [NN_app l m, PP_app l m]
    grind
theorem PP_snoc (l : List (Int × Int)) (x : Int × Int) : PP (l ++ [x]) = PP l * x.2 := by
  rw [PP_app]
  show PP l * (x.2 * 1) = _
  rw [Int.mul_one]
theorem NN_snoc (l : List (Int × Int)) (x : Int × Int) : NN (l ++ [x]) = NN l * x.2 + x.1 * PP l := by
  rw [NN_app]
  show NN l * (x.2 * 1) + (x.1 * 1 + 0 * x.2) * PP l = _
  grind
theorem PP_rev : ∀ l : List (Int × Int), PP l.reverse = PP l
  | [] => rfl
  | x :: l => by
    rw [List.reverse_cons, PP_snoc, PP_rev l]
    exact Int.mul_comm ..
theorem NN_rev : ∀ l : List (Int × Int), NN l.reverse = NN l
  | [] => rfl
  | x :: l => by
    rw [List.reverse_cons, NN_snoc, NN_rev l, PP_rev l]
    show NN l * x.2 + x.1 * PP l = x.1 * PP l + NN l * x.2
    omega
/-! ### sizes -/
def Sz (k : Nat) (n : Int) : Prop := n.natAbs < 2 ^ k
theorem Sz.mono {k m : Nat} {n : Int} (h : Sz k n) (e : k ≤ m) : Sz m n := Nat.lt_of_lt_of_le h (Nat.pow_le_pow_right (by decide) e)
theorem Sz.mul {k m : Nat} {a b : Int} (ha : Sz k a) (hb : Sz m b) : Sz (k + m) (a * b) := by
  unfold Sz
  rw [Int.natAbs_mul, Nat.pow_add]
  exact Nat.mul_lt_mul'' ha hb
theorem Sz.add {k : Nat} {a b : Int} (ha : Sz k a) (hb : Sz k b) : Sz (k + 1) (a + b) := by
  unfold Sz at *
  rw [Nat.pow_succ]
  omega
theorem Sz.sub {k : Nat} {a b : Int} (ha : Sz k a) (hb : Sz k b) : Sz (k + 1) (a - b) := by
  unfold Sz at *
  rw [Nat.pow_succ]
  omega
theorem Sz.mw {k m : Nat} {a b : Int} (ha : Sz k a) (hb : Sz m b) (h : k + m + 2 ≤ 1000000) : CMulW a b := wide_mul (ha.mono (Nat.le_succ k)) (hb.mono (Nat.le_succ m)) (by omega) (by omega) (by omega)
theorem Sz.div {k : Nat} {n d : Int} (p : Int) (h : Sz k n) (e : p * d = n) (hp : p ≠ 0) : Sz k d := by
  unfold Sz at *
  subst e
  rw [Int.natAbs_mul] at h
  refine Nat.lt_of_le_of_lt ?_ h
  exact Nat.le_mul_of_pos_left _ (by omega)
theorem shr_sz {k : Nat} {n d : Int} (hd : d ≠ 0) (hn : Sz k n) (h : Sz k d) : Sz k (shr n d).1 ∧ Sz k (shr n d).2 := ⟨hn.div (prt n d) (shr1 n d) (prt_ne hd), h.div (prt n d) (shr2 n d) (prt_ne hd)⟩
/-- // by any number but 0 below 2 ^ 9000 -/
def CDivX (_ j : Int) : Prop := j ≠ 0 ∧ j.natAbs.log2 < 9000
theorem op_fdivX {X : Cx} : OpR X (binaryOp .FloorDiv) (rI CDivX fun i j => .int (i.fdiv j)) := opI fun i j _ _ _ _ _ hc q => floordiv_int hc.1 q (.inl (PyProof.noPylong_of_log2 hc.2))
theorem gcd_turn (a b : Nat) (h : 0 < b) : Nat.gcd b (a % b) = Nat.gcd a b := by
  rw [Nat.gcd_comm a b, Nat.gcd_rec b a, Nat.gcd_comm]
theorem pg_tupK {X : Cx} {K' : PySem.W.Frag} (hK : X.K = K') {es : List Expr} {k : Nat} {pos : Pos} {t : TGs} {n : Nat} (hc : X.calm = true) (h : PGs X es t)
    (hn : (assignEach es X.env).length = n := by rfl) (hst : (assignEach es X.env).findIdx? (·.1) = none := by rfl) : PG X (.Tuple es k pos) (gTup K' n t) := by
  subst hK
  exact pg_tup hc h hn hst
end KA
namespace KA
open PySem PySem.Spec PyProof.Rows L2
/-- what isinstance asks of an own class -/
structure ICls (K : PySem.W.Frag) (C : Addr) : Prop where
  ha : PySem.W.findIn K (.ref C) "__class__" = some (some (.builtin "object.__class__"))
  hn : PySem.W.specialIn K (.builtin "object.__class__") "__get__" = some (some (.builtin "getset_descriptor.__get__"))
  htk : PySem.W.takesIn K (.builtin "object.__class__") = some true
  hm : PySem.W.mroIn K C (.type "object") = some true
  kit : PySem.W.kitOne K (.ref C) (.ref C) = some true
theorem ICls.ty {K : PySem.W.Frag} {C : Addr} (i : ICls K C) (cl : Cls K C) {H : Hp} {p dx : Addr} {fs : List (Str × V)} (h : H p = some (.ins C dx fs)) : TyX K H (.ref p) (.ref C) := .base (.ins h cl i.ha i.hn i.htk i.hm)
theorem prt_log {n d : Int} {k : Nat} (hd : d ≠ 0) (h : Sz k d) (hk : k ≤ 8000) : (prt n d).natAbs.log2 < 9000 := by
  rw [prt_abs]
  refine Nat.lt_of_lt_of_le (PySem.Flt.log2_lt_of (k := k + 1) (by omega) ?_) (by omega : k + 1 ≤ 9000)
  have : Int.gcd n d ≤ d.natAbs := Nat.le_of_dvd (by omega) (Int.gcd_dvd_natAbs_right n d)
  exact Nat.lt_of_le_of_lt this (h.mono (Nat.le_succ k))
theorem abs_nat (n : Int) : (if n < 0 then -n else n) = (n.natAbs : Int) := by
  split <;> omega
end KA
namespace KA
open PySem PySem.Spec PyProof.Rows L2
/-! ### isinstance of a caught error that has fields of its own -/
theorem xd_at {P : Program} {w : World} {H : Hp} {h : Heap} {dd : Addr} {fs : List (Str × V)} (hok : HOk P w H h) (e : H dd = some (.xd fs)) : ∃ od, h.get? dd = some od := by
  obtain ⟨mA, ⟨od, es, ep, ho, _⟩, _⟩ := (show ObjOk P w H h dd (.xd fs) from hok dd _ e)
  exact ⟨od, ho⟩
theorem kit_exc {K : PySem.W.Frag} {D x : Addr} {ox : Obj} {od : Option Obj} (C : ExcC K D) : PySem.W.KitX K (.ref x) (.ref D) (fun h => PySem.W.InstAt h x ox D od) :=
  PySem.W.kitx_exc (by obtain ⟨cd, hc, _⟩ := PySem.W.any_some C.hd; rw [hc]; rfl) C.hg C.hk C.hs C.ha C.hn C.ht C.hm
def rIsD (K : PySem.W.Frag) (a : Addr) (cls : Value) (d : Option Addr) : List V → Hp → VK → Prop := fun xs H Q => ∃ (D dd : Addr) (fs : List (Str × V)) (c : V) (u : Value) (b : Bool), xs = [.ref a, c] ∧ cls = .ref D ∧ d = some dd ∧ H dd = some (.xd fs) ∧ ExcC K D ∧ ClsV c u ∧ PySem.W.kitOne K (.ref D) u = some b ∧ Q (.bl b) H
def rIsDT (K : PySem.W.Frag) (a : Addr) (cls : Value) (d : Option Addr) : List V → Hp → VK → Prop := fun xs H Q => ∃ (D dd tp : Addr) (fs : List (Str × V)) (cs : List V) (us : List Value) (b : Bool), xs = [.ref a, .ref tp] ∧ cls = .ref D ∧ d = some dd ∧ H dd = some (.xd fs) ∧ ExcC K D ∧ H tp = some (.tup cs) ∧ Paired ClsV cs us ∧ PySem.W.kitAny K (.ref D) us = some b ∧ Q (.bl b) H
section
variable {X : Cx} {a : Addr} {oe : Obj} {cls : Value} {d : Option Addr} {pn : List (Addr × Obj)}
theorem inst_of {pins : List (Addr × Obj)} {σ : L2.St} {H : Hp} {s : Shared} {D dd : Addr} {fs : List (Str × V)} (hz : Zc (.ref D) (some dd) oe) (hf : ∃ vs, oe.data = .fields vs) (I : Inv (X.suite a ((a, oe) :: pn)) pins σ H s) (e : H dd = some (.xd fs)) : ∃ od, PySem.W.InstAt s.heap a oe D (some od) := by
  obtain ⟨hget, _⟩ := I.pin (a, oe) (List.mem_append.mpr (.inl List.mem_cons_self))
  obtain ⟨vs, hv⟩ := hf
  obtain ⟨od, ho⟩ := xd_at I.hok e
  exact ⟨od, hget, hz.1, by unfold PySem.W.notCls; rw [hv] <;> rfl, by rw [hz.2]; exact ho⟩
theorem call_isD (hz : Zc cls d oe) (hf : ∃ vs, oe.data = .fields vs) : CallR (X.suite a ((a, oe) :: pn)) (.builtin "isinstance") (rIsD X.K a cls d) := by
  intro pins s σ H xs us Q I r h
  obtain ⟨D, dd, fs, c, u, b, rfl, rfl, rfl, e, C, k, hk, q⟩ := h
  obtain ⟨u1, u2, rfl, r1, r2⟩ := vals2 r
  cases (show u1 = Value.ref a from r1)
  have e2 := k.eq r2
  subst e2
  obtain ⟨od, J⟩ := inst_of hz hf I e
  exact PySem.W.kia_one (kit_exc C) I.kIn J hk (fun z => nomatch z) fun tk => ⟨.bl b, H, I.tok tk, rfl, q⟩
theorem call_isDT (hz : Zc cls d oe) (hf : ∃ vs, oe.data = .fields vs) : CallR (X.suite a ((a, oe) :: pn)) (.builtin "isinstance") (rIsDT X.K a cls d) := by
  intro pins s σ H xs us Q I r h
  obtain ⟨D, dd, tp, fs, cs, ws, b, rfl, rfl, rfl, e, C, hT, k, hk, q⟩ := h
  obtain ⟨u1, u2, rfl, r1, r2⟩ := vals2 r
  cases (show u1 = Value.ref a from r1)
  cases (show u2 = Value.ref tp from r2)
  obtain ⟨od, J⟩ := inst_of hz hf I e
  obtain ⟨_, its, rv, o, h1, h2, n, h3⟩ := (show ObjOk X.prog X.w H s.heap tp (.tup cs) from I.hok tp _ hT)
  have e3 := ClsV.all k rv
  subst e3
  obtain ⟨oc, od', dt, sl⟩ := o
  simp only at h2 h3
  subst h2 h3
  exact PySem.W.kia_tup (kit_exc C) I.kIn J h1 hk (fun z => nomatch z) fun tk => ⟨.bl b, H, I.tok tk, rfl, q⟩
end
theorem call_isiS {X : Cx} {K' : PySem.W.Frag} (hK : X.K = K') : CallR X (.builtin "isinstance") (rIsi K') := by
  subst hK
  exact call_isi
/-! ### calls that let nothing out, bodies that are never run -/
theorem passF {X : Cx} : Passes (L2.CX X.prog X.w) X E0 := passes_call takes0 (fun _ _ _ _ h => h)
/-! ### keywords: which of what is handed in, of the defaults, of the keywords stands where -/
def kw1 {α : Type} (p : Nat × Nat) (us its ws : List α) : List α := match p with
  | (0, i) => us[i]?.toList
  | (1, i) => its[i]?.toList
  | (_, i) => ws[i]?.toList
def kw {α : Type} : List (Nat × Nat) → List α → List α → List α → List α
  | [], _, _, _ => []
  | p :: f, us, its, ws => kw1 p us its ws ++ kw f us its ws
theorem vals_at : ∀ {xs : List V} {us : List Value}, Vals xs us → ∀ i : Nat, (xs[i]? = none ∧ us[i]? = none) ∨ ∃ x u, xs[i]? = some x ∧ us[i]? = some u ∧ RelV x u
  | _, _, .nil, _ => .inl ⟨rfl, rfl⟩
  | _, _, .cons r _, 0 => .inr ⟨_, _, rfl, rfl, r⟩
  | _, _, .cons _ t, i + 1 => by
    rw [List.getElem?_cons_succ, List.getElem?_cons_succ]
    exact vals_at t i
theorem vals_one {xs : List V} {us : List Value} (h : Vals xs us) (i : Nat) : Vals xs[i]?.toList us[i]?.toList := by
  rcases vals_at h i with ⟨e1, e2⟩ | ⟨x, u, e1, e2, r⟩
  · rw [e1, e2]
    exact .nil
  · rw [e1, e2]
    exact .cons r .nil
theorem kw_rel : ∀ (f : List (Nat × Nat)) {vs ds zs : List V} {us is ws : List Value}, Vals vs us → Vals ds is → Vals zs ws → Vals (kw f vs ds zs) (kw f us is ws)
  | [], _, _, _, _, _, _, _, _, _ => .nil
  | (0, i) :: f, _, _, _, _, _, _, h1, h2, h3 => (vals_one h1 i).append (kw_rel f h1 h2 h3)
  | (1, i) :: f, _, _, _, _, _, _, h1, h2, h3 => (vals_one h2 i).append (kw_rel f h1 h2 h3)
  | (_ + 2, i) :: f, _, _, _, _, _, _, h1, h2, h3 => (vals_one h3 i).append (kw_rel f h1 h2 h3)
/-! ### PearlError's own way: one field -/
def spPearl (K : PySem.W.Frag) (f : Str) : Sp := fun vs H Q _ => ∃ (a C : Addr) (v : V), vs = [.ref a, v] ∧ OexC K C ∧ PySem.W.findIn K (.ref C) f = some none ∧ H a = some (exo a C none) ∧
  ∀ dx, H dx = none → dx ≠ a → Q .non (upd (upd H dx (exd dx [(f, v)])) a (exo a C (some dx)))
theorem pearl_same {H : Hp} {a dx : Addr} {o1 o2 o3 : HO} {fs : List (Str × V)} (ha : H a = none) (hd : H dx = none) : Same H (upd (del (upd (upd (upd H a o1) dx o2) a o3) a) dx (.xd fs)) := fun b o e => by
  rw [upd_ne (ne_of_none e hd), del_ne (ne_of_none e ha), upd_ne (ne_of_none e ha), upd_ne (ne_of_none e hd), upd_ne (ne_of_none e ha)]
  exact e
end KA
/-! errors of own classes over any built-in class of errors: made, stored into -/
namespace KA
open PySem PySem.W PySem.Calls PyProof.Rows
section
open Builtin Builtin.ObjectAttr
variable {prog : Program} {w : World} {A : Around} {E : Value → Shared → Prop} {R : Result → Shared → Prop} {hp : Heap} {g : Array GenState} {d : Drawn} {t : Nat} {os : OsState} {B : String} {bmB : List Value}
theorem gosa {K : W.Frag} {name : Str} {tk : Tok} {v : Value} {x C : Addr} {fv : Array Value} {cd : ClassData} {bm : List Value} (SF : StoreFacts B bmB "object.__setattr__" "object")
    (X : K.In hp) (hx : hp.get? x = some { cls := .ref C, data := .fields fv }) (hcd : W.clsIn K C = some cd) (hmr : cd.mro = .ref C :: bm) (hm : W.excTail bmB bm = true) (hh : cd.hasDict = true) (ha : W.findIn K (.ref C) name = some none)
    (hq : ∀ h' tk' dx, (∀ b o, b ≠ x → hp.get? b = some o → h'.get? b = some o) → hp.objs.size ≤ dx → dx ≠ x → h'.get? x = some { cls := .ref C, dict := some dx, data := .fields fv } →
      h'.Ns1 dx (fun y => if y = name then some v else none) → R (.ok (.ret .none)) ⟨h', g, d, tk', os⟩) :
    codeAny (model prog w) A (.call (.builtin "object.__setattr__") ⟨[.ref x, .str name tk, v], []⟩) R ⟨hp, g, d, t, os⟩ := by
  have I : W.InstAt hp x { cls := .ref C, data := .fields fv } C none := ⟨hx, rfl, rfl, trivial⟩
  have hxs : x ≠ hp.objs.size := Nat.ne_of_lt (Heap.lt_size hx)
  have tl : W.excTail bmB cd.mro = true := by rw [hmr]; exact hm
  have hob : cd.mro.contains (.type "object") = true := (W.excTail_contains "object" _ tl).trans SF.hasOwner
  have sub : W.Looks (model prog w) hp (isInstance (.ref x) (.type "object")) true := I.type.andThen (W.looks_mroIn X (by unfold W.mroIn; rw [hcd, Option.bind_some, if_neg (by rw [hmr]; simp), hob]))
  have SO := F.store_object
  refine codeAny_call_builtin SO.slot.plain SO.entry (@W.check_slot (model prog w) _ _ ⟨hp, g, d, t, os⟩ "object.__setattr__" "object" "__setattr__" (.ref x) [.str name tk, v] [] _ SO.kind SO.split sub (SO.args (.ref x) (.str name tk) v) ?_)
  have L1 : W.Looks (model prog w) hp (mroOf (.ref C)) cd.mro := (W.looks_clsIn X hcd).andThen .now
  have L2 : W.Looks (model prog w) hp (storeTaker? none) none := .now
  have L3 : W.Looks (model prog w) hp (classData C) cd := W.looks_clsIn X hcd
  rw [W.osa_eq, refuse_eq]
  refine wpAny_bind (wpAny_bind (I.type.at (wpAny_bind (L1.at ?_))))
  rw [W.excTail_pass _ (SF.passes _) _ tl]
  refine wpAny_pure (wpAny_bind (I.type.at (wpAny_bind ((W.looks_findIn X ha).at (wpAny_bind (L2.at ?_))))))
  show wpAny _ _ (storeInOwnDict (.ref x) (.ref C) (.str name tk) name v false) _ _ _
  obtain ⟨nm, bs, mro, ns, qn, hd, sn, sb, ab, col, del⟩ := cd
  dsimp only at hh
  subst hh
  unfold storeInOwnDict ownDictForStores
  repeat (first | with_reducible refine HandSPX.store_in_new ?_ ?_ | with_reducible refine wpAny_loadPart_at hx ?_ | with_reducible refine L3.at ?_ | wp_step)
  · exact ⟨_, #[], _, (Heap.get?_update_ne _ _ _ _ hxs.symm).trans (Heap.get?_push_at rfl rfl), rfl, fun e he => absurd he (by simp), fun _ => rfl⟩
  · intro h' tk' hn' hs
    have hx₁ : (hp.push { cls := .type "dict", data := .dict #[] }).get? x = some { cls := .ref C, data := .fields fv } := Heap.get?_push_of_some _ hx
    refine hq h' tk' hp.objs.size (fun b o hb ho => ?_) (Nat.le_refl _) hxs.symm ?_ hn'
    · exact (hs.2 b (Nat.ne_of_lt (Heap.lt_size ho))).trans ((Heap.get?_update_ne _ _ _ _ hb).trans (Heap.get?_push_of_some _ ho))
    · exact (hs.2 x hxs).trans (Heap.get?_update_self _ hx₁ rfl)
theorem gosa_old {K : W.Frag} {name : Str} {tk : Tok} {v : Value} {x C dx : Addr} {fv : Array Value} {cd : ClassData} {bm : List Value} {m0 : Str → Option Value} {nl : List Str} (SF : StoreFacts B bmB "object.__setattr__" "object")
    (X : K.In hp) (hx : hp.get? x = some { cls := .ref C, dict := some dx, data := .fields fv }) (hns : hp.Ns1 dx m0) (hw : Within m0 nl) (hz : nl.length ≤ 1000) (hcd : W.clsIn K C = some cd) (hmr : cd.mro = .ref C :: bm) (hm : W.excTail bmB bm = true) (hh : cd.hasDict = true)
    (ha : W.findIn K (.ref C) name = some none)
    (hq : ∀ h' tk', (∀ b o, b ≠ dx → hp.get? b = some o → h'.get? b = some o) → h'.Ns1 dx (fun y => if y = name then some v else m0 y) → R (.ok (.ret .none)) ⟨h', g, d, tk', os⟩) :
    codeAny (model prog w) A (.call (.builtin "object.__setattr__") ⟨[.ref x, .str name tk, v], []⟩) R ⟨hp, g, d, t, os⟩ := by
  obtain ⟨oD, esD, epD, hoD, hdD, _⟩ := hns.count hw
  have I : W.InstAt hp x { cls := .ref C, dict := some dx, data := .fields fv } C (some oD) := ⟨hx, rfl, rfl, hoD⟩
  have tl : W.excTail bmB cd.mro = true := by rw [hmr]; exact hm
  have hob : cd.mro.contains (.type "object") = true := (W.excTail_contains "object" _ tl).trans SF.hasOwner
  have sub : W.Looks (model prog w) hp (isInstance (.ref x) (.type "object")) true := I.type.andThen (W.looks_mroIn X (by unfold W.mroIn; rw [hcd, Option.bind_some, if_neg (by rw [hmr]; simp), hob]))
  have SO := F.store_object
  refine codeAny_call_builtin SO.slot.plain SO.entry (@W.check_slot (model prog w) _ _ ⟨hp, g, d, t, os⟩ "object.__setattr__" "object" "__setattr__" (.ref x) [.str name tk, v] [] _ SO.kind SO.split sub (SO.args (.ref x) (.str name tk) v) ?_)
  have L1 : W.Looks (model prog w) hp (mroOf (.ref C)) cd.mro := (W.looks_clsIn X hcd).andThen .now
  have L2 : W.Looks (model prog w) hp (storeTaker? none) none := .now
  have L3 : W.Looks (model prog w) hp (classData C) cd := W.looks_clsIn X hcd
  rw [W.osa_eq, refuse_eq]
  refine wpAny_bind (wpAny_bind (I.type.at (wpAny_bind (L1.at ?_))))
  rw [W.excTail_pass _ (SF.passes _) _ tl]
  refine wpAny_pure (wpAny_bind (I.type.at (wpAny_bind ((W.looks_findIn X ha).at (wpAny_bind (L2.at ?_))))))
  show wpAny _ _ (storeInOwnDict (.ref x) (.ref C) (.str name tk) name v false) _ _ _
  obtain ⟨nm, bs, mro, ns, qn, hd, sn, sb, ab, col, del⟩ := cd
  dsimp only at hh
  subst hh
  unfold storeInOwnDict ownDictForStores
  repeat (first | with_reducible refine OEX.store_in_old hns hw hz ?_ | with_reducible refine wpAny_loadPart_at hx ?_ | with_reducible refine L3.at ?_ | wp_step)
  intro h' tk' hn' hs
  exact hq h' tk' (fun b o hb ho => (hs.2 b hb).trans ho) hn'
end
end KA
namespace KA
open PySem PySem.Spec PyProof.Rows L2
/-- what the written part says of a class of errors over the built-in one B -/
structure OexB (newId : String) (bmB : List Value) (K : PySem.W.Frag) (C : Addr) : Prop where
  cls : ∃ nm q N bs bm sn sub ab col dd k0 k1 k2 k3 k5, K.lookup C = some (excClassObj nm q C N bs bm true sn sub ab col dd k0 k1 k2 k3 k5 newId) ∧ PySem.W.excTail bmB bm = true
  sa : PySem.W.findIn K (.ref C) "__setattr__" = some (some (.builtin "object.__setattr__"))
  exC : PySem.W.subIn K (.ref C) (.type "BaseException") = some true
  tyC : PySem.W.typeIn K (.ref C) = some (.type "type")
  kC : PySem.W.keepIn K (.ref C) = true
section
variable {X : Cx} {pins : List (Addr × Obj)} {σ : L2.St} {H : Hp} {s : Shared} {a C dx : Addr} {f : Str} {y : V} {u : Value} {fs : List (Str × V)} {Q : Unit → Shared → Prop} {E : Value → Shared → Prop} {A : Around} {B newId initId : String} {bmB : List Value}
theorem gost_new (SF : StoreFacts B bmB "object.__setattr__" "object") (T : OexB newId bmB X.K C) (I : L2.Inv X pins σ H s) (e : H a = some (exo a C none)) (hno : PySem.W.findIn X.K (.ref C) f = some none) (ry : RelV y u)
    (h : ∀ dx s', H dx = none → dx ≠ a → L2.Inv X pins σ (upd (upd H dx (exd dx [(f, y)])) a (exo a C (some dx))) s' → Q () s') : wpAny (model X.prog X.w) A (setAttr (.ref a) f u) Q E s := by
  obtain ⟨nm, q, N, bs, bm, sn, sub, ab, col, dd, k0, k1, k2, k3, k5, hC, hbm⟩ := T.cls
  have hcl : PySem.W.clsIn X.K C = some { name := nm, bases := bs, mro := .ref C :: bm, ns := N, qualname := q, hasDict := true, slotNames := sn, subclasses := sub, abstract := ab, collection := col, hasDel := false } := by unfold PySem.W.clsIn; rw [hC] <;> rfl
  obtain ⟨t1, ho⟩ := exo_at I.hok e
  obtain ⟨hp, g, d, t, os⟩ := s
  refine PySem.W.set_plain I.kIn (ox := { cls := .ref C, dict := none, data := .fields #[.ref t1, .none, .none, .none, .bool false, .none] }) (od := none) ⟨ho, rfl, rfl, trivial⟩ T.sa ?_
  refine gosa SF I.kIn ho hcl rfl hbm rfl hno (fun h' tk' dx k dn dne hx hn => ?_)
  have hnd : H dx = none := I.hok.fresh dn
  have nd : ∀ {b : Addr} {o : Obj}, hp.get? b = some o → b ≠ dx := fun {b o} q => Nat.ne_of_lt (Nat.lt_of_lt_of_le (Heap.lt_size q) dn)
  have na : ∀ {b : Addr}, H b = none → b ≠ a := fun {b} n z => by
    rw [z, e] at n
    cases n
  have U : Un X.fs [] H (upd (upd H dx (exd dx [(f, y)])) a (exo a C (some dx))) hp h' := {
    keep := fun b o q n _ _ => k b o (na n) q
    slot := fun b o q n _ _ => ⟨o.slots, k b o (na n) q⟩
    free := fun b o q n _ => by rw [upd_ne (na n), upd_ne (nd q)]; exact n
    there := fun b o q _ => by
      by_cases hb : b = a
      · exact ⟨_, by rw [hb]; exact hx⟩
      · exact ⟨o, k b o hb q⟩
    tups := fun b xs q => by rw [upd_ne (at_ne e q exo_tup), upd_ne (ne_of_none q hnd)]; exact q
    frzs := fun b o v q => by rw [upd_ne (at_ne e q exo_frz), upd_ne (ne_of_none q hnd)]; exact q
    tbls := fun b ps q => ⟨#[], by rw [upd_ne (at_ne e q exo_tbl), upd_ne (ne_of_none q hnd), q]; simp⟩ }
  refine h dx _ hnd dne (I.un (t' := tk') U fun b o q => ?_)
  by_cases hb : b = a
  · subst hb
    rw [upd_same] at q
    cases q
    exact exo_ok hx
  · rw [upd_ne hb] at q
    by_cases hd : b = dx
    · subst hd
      rw [upd_same] at q
      cases q
      exact exd_ok hn (relO_put (fs := []) ry fun g => True.intro)
    · rw [upd_ne hd] at q
      exact (I.hok b o q).stay (fun c v hc z => k c v (by
          rcases hc with hc | hc
          · rw [hc]
            exact hb
          · exact at_ne e hc exo_own) z)
        (fun c hc => by rw [upd_ne (at_ne e hc exo_own), upd_ne (ne_of_none hc hnd)]; exact hc) (fun c xs hc => by rw [upd_ne (at_ne e hc exo_tup), upd_ne (ne_of_none hc hnd)]; exact hc)
theorem gost_old (SF : StoreFacts B bmB "object.__setattr__" "object") (T : OexB newId bmB X.K C) (I : L2.Inv X pins σ H s) (e : H a = some (exo a C (some dx))) (ed : H dx = some (exd dx fs)) (hl : fs.length ≤ 900) (hno : PySem.W.findIn X.K (.ref C) f = some none) (ry : RelV y u)
    (h : ∀ s', L2.Inv X pins σ (upd H dx (exd dx ((f, y) :: fs))) s' → Q () s') : wpAny (model X.prog X.w) A (setAttr (.ref a) f u) Q E s := by
  obtain ⟨nm, q, N, bs, bm, sn, sub, ab, col, dd, k0, k1, k2, k3, k5, hC, hbm⟩ := T.cls
  have hcl : PySem.W.clsIn X.K C = some { name := nm, bases := bs, mro := .ref C :: bm, ns := N, qualname := q, hasDict := true, slotNames := sn, subclasses := sub, abstract := ab, collection := col, hasDel := false } := by unfold PySem.W.clsIn; rw [hC] <;> rfl
  obtain ⟨t1, ho⟩ := exo_at I.hok e
  obtain ⟨mA, hns, rel⟩ := exd_at I.hok ed
  have hw := within_of rel
  obtain ⟨hp, g, d, t, os⟩ := s
  obtain ⟨oD, _, _, hoD, _, _⟩ := hns.count hw
  refine PySem.W.set_plain I.kIn (ox := { cls := .ref C, dict := some dx, data := .fields #[.ref t1, .none, .none, .none, .bool false, .none] }) (od := some oD) ⟨ho, rfl, rfl, hoD⟩ T.sa ?_
  refine gosa_old SF I.kIn ho hns hw (by rw [List.length_map]; omega) hcl rfl hbm rfl hno (fun h' tk' k hn => ?_)
  have hd : ∃ o, h'.get? dx = some o := by
    obtain ⟨o, _, _, e', _⟩ := hn
    exact ⟨o, e'⟩
  exact h _ (I.write (t' := tk') (x := dx) (e := dx) (o := exd dx ((f, y) :: fs)) (by rw [ed]; exact True.intro) (.inl rfl) k hd (exd_ok hn (relO_put ry rel)))
theorem goinit {us : List Value} {Q : Value → Shared → Prop} (FB : ExcBaseFacts B newId initId bmB) (T : OexB newId bmB X.K C) (I : L2.Inv X pins σ H s) (e : H a = some (exo a C none)) (hl : us.length ≤ sizeLine) (h : ∀ s', L2.Inv X pins σ H s' → Q .none s') :
    wpAny (model X.prog X.w) A (call (.builtin initId) (.ref a :: us)) Q E s := by
  obtain ⟨nm, q, N, bs, bm, sn, sub, ab, col, dd, k0, k1, k2, k3, k5, hC, hbm⟩ := T.cls
  obtain ⟨t1, ho⟩ := exo_at I.hok e
  obtain ⟨hp, g, d, t, os⟩ := s
  refine wpAny_call (PySem.HandSPX.init_base FB (fun Y => PySem.W.excTail_contains Y bm hbm) (I.kIn _ _ hC) ho hl fun h' t2 k hx => ?_)
  have J := I.write (t' := t) (x := a) (e := a) (o := exo a C none) (by rw [e]; exact True.intro) (.inl rfl) k ⟨_, hx⟩ (exo_ok hx)
  have eu : upd H a (exo a C none) = H := by
    funext b
    by_cases hb : b = a
    · rw [hb, upd_same, e]
    · rw [upd_ne hb]
  rw [eu] at J
  exact h _ J
end
/-- B.__init__(self, ..) -/
def tBI (newId : String) (bmB : List Value) (K : PySem.W.Frag) (ta : TA) : TE := fun σ H Q => ta σ H fun vs H1 => ∃ (a C : Addr) (ws : List V), vs = .ref a :: ws ∧ ws.length ≤ 1000 ∧ OexB newId bmB K C ∧ H1 a = some (exo a C none) ∧ Q .non H1
/-- self.f = e -/
def tOstB (newId : String) (bmB : List Value) (K : PySem.W.Frag) (f : Str) (to te : TE) : TS := fun D σ H => te σ H fun y H1 => to σ H1 fun x H2 => ∃ a C : Addr, x = .ref a ∧ OexB newId bmB K C ∧ PySem.W.findIn K (.ref C) f = some none ∧
  ((H2 a = some (exo a C none) ∧ ∀ dx, H2 dx = none → dx ≠ a → D.nx σ (upd (upd H2 dx (exd dx [(f, y)])) a (exo a C (some dx)))) ∨
    ∃ (dx : Addr) (fs : List (Str × V)), H2 a = some (exo a C (some dx)) ∧ H2 dx = some (exd dx fs) ∧ fs.length ≤ 900 ∧ D.nx σ (upd H2 dx (exd dx ((f, y) :: fs))))
section
variable {X : Cx} {o e : Expr} {es : List Expr} {to te : TE} {ta : TA} {f : Str} {p p' p1 p2 pos : Pos} {B newId initId : String} {bmB : List Value}
/-- B.__init__(self, ..) of a built-in class of errors -/
theorem pe_binit {pl : Sem Bool} {x : Str} (FB : ExcBaseFacts B newId initId bmB) (hg : Gl X x) (hm : X.mg x = none) (hv : bootBuiltins x = some (.type B)) (htp : typeOf (.type B) = pure (.type "type")) (hst : Manifest.isStub B = false) (hhi : PySem.W.handedIn (.builtin initId) = true)
    (vV : PySem.W.findCls X.K (.type B) (.type "type") "__init__" = some (.val (.builtin initId))) (ha : PA X (e :: es) ta)
    (hc : eval (.Call (.Attribute (.Name x p1) "__init__" p2) (e :: es) [] pos) X.env = (do
      let ov ← eval (.Name x p1) X.env
      standAt p2.atName
      let (f, first) ← holding [ov] (getMethod ov "__init__" pl)
      callWith pos f first (backTo pos (starEach (e :: es) X.env)) (backToKw pos (keywordEach [] X.env))) := by rfl)
    (he : starEach (e :: es) X.env = (false, eval e X.env) :: starEach es X.env := by rfl) (hpl : (backTo pos (starEach es X.env)).any (·.1) = false := by rfl) (hn : x ≠ "__name__" := by decide) (hdb : (x == ("__debug__" : Str)) = false := by decide) :
    PE X (.Call (.Attribute (.Name x p1) "__init__" p2) (e :: es) [] pos) (tBI newId bmB X.K ta) := by
  refine ⟨fun pins s σ H Q I h => ?_⟩
  refine PySem.W.methodCall_KW (ld_blt I hg hm hv ?_ hn hdb) hc
  obtain ⟨m, fr⟩ := I.fr
  refine PySem.W.method_type fr I.ok.mod.kin htp hst vV hhi ?_
  show wpAny _ _ (callWith pos (Value.builtin initId) [] (backTo pos (starEach (e :: es) X.env)) []) _ _ _
  refine PyProof.Rows.callWith_method1 (thn (ha.run pos pins _ σ H _ (I.tok _) h) fun us s1 ⟨vs, H1, I1, r1, a, C, ws, ev, hl, T, ea, q⟩ => ?_) he hpl
  subst ev
  cases r1 with
  | @cons _ u0 _ ur ra rw' =>
    obtain rfl : u0 = Value.ref a := ra
    have hlen : ur.length ≤ sizeLine := by
      rw [← Paired.length rw', sizeLine_eq]
      omega
    exact goinit FB T I1 ea hlen fun s' J => ⟨.non, H1, J, rfl, q⟩
theorem ps_ostB (SF : StoreFacts B bmB "object.__setattr__" "object") (ho : PE X o to) (he : PE X e te) (hs : swapsWith e (some (.Attribute o f p')) pos.line X.env = pure false := by rfl) : PS X (.Assign [.Attribute o f p'] e pos) (tOstB newId bmB X.K f to te) := by
  refine ⟨fun pins s σ H D I h => ?_⟩
  refine plainObj_wpAny_Assign_Attribute (thn (he.run pins s σ H _ I h) fun v s1 ⟨y, H1, I1, r1, q1⟩ => thn (ho.run pins s1 σ H1 _ I1 q1) fun u s2 ⟨x, H2, I2, r2, a, C, ex, T, hno, q⟩ => ?_) hs
  subst ex
  obtain rfl : u = Value.ref a := r2
  rcases q with ⟨ea, q⟩ | ⟨dx, fs, ea, ed, hl, q⟩
  · exact gost_new SF T I2 ea hno r1 fun dx s' n ne J => ⟨σ, _, J, q dx n ne⟩
  · exact gost_old SF T I2 ea ed hl hno r1 fun s' J => ⟨σ, _, J, q⟩
theorem pmk_gex {CX : CXT} {x : Str} {C fI : Addr} {k : Nat} {fd : FuncData} {ps : List Str} {sp : Sp} {ds : List Value} {dvs : List V} (FB : ExcBaseFacts B newId initId bmB) (T : OexB newId bmB X.K C) (iC : PySem.W.findIn X.K (.ref C) "__init__" = some (some (.ref fI))) (tI : PySem.W.typeIn X.K (.ref fI) = some (.type "function"))
    (F1 : FnOk X.prog X.w X.K X.mg X.base CX k fI fd ps sp) (hr : Room (k + 1) X.A) (hb : Binds X.K fd ps ds) (hd : Vals dvs ds) (hx : Passes CX X (fun _ _ _ => False)) (hg : Gl X x) (hm : X.mg x = some (.ref C)) (ha : PA X (e :: es) ta)
    (hdb : (x == ("__debug__" : Str)) = false := by decide) (he : starEach (e :: es) X.env = (false, eval e X.env) :: starEach es X.env := by rfl) (hpl : (backTo pos (starEach es X.env)).any (·.1) = false := by rfl) :
    PMk X (.Call (.Name x p) (e :: es) [] pos) (tMkO C sp dvs ta) := by
  intro pins s σ H Q I h
  obtain ⟨nm, q, N, bs, bm, sn, sub, ab, col, dd, k0, k1, k2, k3, k5, hC, hbm⟩ := T.cls
  refine wpAny_Call_Name_kw (ld_glob I hg hm ?_ hdb)
  refine PySem.W.callWith_K (h₀ := X.base) I.ok.mod.kin T.kC (thn (ha.run pos pins s σ H _ I h) fun us s1 ⟨vs, H1, I1, r1, hz, q1⟩ => ⟨I1.kIn, ?_⟩) he hpl
  show wpAny _ _ (call (.ref C) us) _ _ _
  obtain ⟨hp, g, dr, tk, os⟩ := s1
  have hsz : hp.objs.size ≤ hp.objs.size + 1 := Nat.le_succ _
  have hn : H1 (hp.objs.size + 1) = none := I1.hok.fresh hsz
  have hq := q1 (hp.objs.size + 1) hn
  have kk : ∀ b o, hp.get? b = some o → ((hp.push (PySem.W.kdv_tup us)).push (PySem.HandSPX.excO C hp.objs.size)).get? b = some o := fun b o e => Heap.get?_push_of_some _ (Heap.get?_push_of_some _ e)
  have hget : ((hp.push (PySem.W.kdv_tup us)).push (PySem.HandSPX.excO C hp.objs.size)).get? (hp.objs.size + 1) = some (PySem.HandSPX.excO C hp.objs.size) := by heap_get
  have I2 : L2.Inv X pins σ (upd H1 (hp.objs.size + 1) (exo (hp.objs.size + 1) C none)) ⟨(hp.push (PySem.W.kdv_tup us)).push (PySem.HandSPX.excO C hp.objs.size), g, dr, tk, os⟩ :=
    I1.laid (t' := tk) (a := hp.objs.size + 1) (o := exo (hp.objs.size + 1) C none) (h' := (hp.push (PySem.W.kdv_tup us)).push (PySem.HandSPX.excO C hp.objs.size)) kk hsz (exo_ok hget)
  have r2 : Vals (V.ref (hp.objs.size + 1) :: (vs ++ dvs)) (Value.ref (hp.objs.size + 1) :: (us ++ ds)) := .cons rfl (r1.append hd)
  have hl : (Value.ref (hp.objs.size + 1) :: us ++ ds).length = ps.length := by
    have e := r2.length
    rw [F1.len _ _ _ _ hq] at e
    exact e.symm
  have hus : us.length ≤ sizeLine := by
    rw [← Paired.length r1, sizeLine_eq]
    omega
  refine wpAny_call (PySem.HandSPX.call_own FB (fun Y => PySem.W.excTail_contains Y bm hbm) (I1.kIn _ _ hC) (PySem.W.looks_findIn I1.kIn iC) (fun self => PySem.W.bind_fn I1.kIn self tI) hus
    (codeAny_mono (F1.run _ X.stack _ _ ⟨Value.ref (hp.objs.size + 1) :: us, []⟩ (Value.ref (hp.objs.size + 1) :: (us ++ ds)) _ _ (fun _ _ _ => False) (hr.make C us []) (I2.env0.make C us []) (hb _ (Value.ref (hp.objs.size + 1) :: us) I2.kIn hl) r2 hq) fun r s' hq' => ?_))
  cases r with
  | error er => exact hx pins σ _ _ er s' I2 hq'
  | ok fl =>
    cases fl with
    | ret u =>
      obtain ⟨v, H2, os2, bare2, un2, hok2, rv, ev, d, fs, ea, ed, hd1, q2⟩ := hq'
      subst ev
      obtain ⟨h2, g2, d2, t2, os'⟩ := s'
      exact ⟨rv, mk_end (raises_own T.exC T.tyC) I1 hsz kk un2 hok2 os2 bare2 ea ed hd1 q2⟩
    | next => exact False.elim hq'
    | brk => exact False.elim hq'
    | cont => exact False.elim hq'
end
/-- what a B.__init__ + one field of its own promises: E(v) with field f -/
def spErr (newId : String) (bmB : List Value) (K : PySem.W.Frag) (f : Str) : Sp := fun vs H Q _ => ∃ (a C : Addr) (v : V), vs = [.ref a, v] ∧ OexB newId bmB K C ∧ PySem.W.findIn K (.ref C) f = some none ∧ H a = some (exo a C none) ∧
  ∀ dx, H dx = none → dx ≠ a → Q .non (upd (upd H dx (exd dx [(f, v)])) a (exo a C (some dx)))
abbrev zdT : List Value := [.type "ZeroDivisionError", .type "ArithmeticError", .type "Exception", .type "BaseException", .type "object"]
abbrev ixT : List Value := [.type "IndexError", .type "LookupError", .type "Exception", .type "BaseException", .type "object"]
abbrev luT : List Value := [.type "LookupError", .type "Exception", .type "BaseException", .type "object"]
theorem typ_ZD : typeOf (.type "ZeroDivisionError") = pure (.type "type") := by kernel_rfl
theorem typ_IX : typeOf (.type "IndexError") = pure (.type "type") := by kernel_rfl
theorem typ_LU : typeOf (.type "LookupError") = pure (.type "type") := by kernel_rfl
end KA
namespace KA
open PySem PySem.Spec PyProof.Rows L2
/-! a try with several except clauses, each with a name of its own -/
def endsAs (D : Ends) (j : Nat) : Ends where
  nx := fun τ G => D.nx (τ.set j none) G
  rt := D.rt
  bk := fun τ G => D.bk (τ.set j none) G
  ct := fun τ G => D.ct (τ.set j none) G
abbrev HSpec := Value × Nat × (Addr → Value → Option Addr → TS)
def wAll (K : PySem.W.Frag) (Wo : WX) (D : Ends) : List HSpec → WX
  | [] => Wo
  | (c, j, t) :: more => fun k o τ G => ∃ b, PySem.W.exmOne K k c = some b ∧ (b = true → ∀ z, G z = none → t z k o (endsAs D j) (τ.set j (some (.ref z))) G) ∧ (b = false → wAll K Wo D more k o τ G)
inductive HAs (X : Cx) : List ExceptHandler → List HSpec → Prop
  | nil : HAs X [] []
  | cons {x n : Str} {c : Value} {j : Nat} {t : Addr → Value → Option Addr → TS} {s0 : Stmt} {su : List Stmt} {np hp : Pos} {hs : List ExceptHandler} {l : List HSpec} (nm : Names X x c) (hj : X.N[j]? = some n) (hl : X.env.kindOf n = some .local)
      (run : ∀ (z : Addr) (ob : Obj) (k : Value) (o : Option Addr) (pn : List (Addr × Obj)), Zc k o ob → (∃ ws, ob.data = .fields ws) → PSs (X.suite z ((z, ob) :: pn)) (s0 :: su) (t z k o)) (more : HAs X hs l) :
      HAs X (.ExceptHandler (some (.Name x np)) (some n) (s0 :: su) hp :: hs) ((c, j, t) :: l)
section
variable {X : Cx} {body : List Stmt} {h1 : ExceptHandler} {hs : List ExceptHandler} {l : List HSpec} {pos : Pos} {tb : WX → TS} {Wo : WX}
theorem ps_try_all (st : X.stack = X.env :: X.outer) (fr : X.env.frame = some X.env.locals) (nd : X.N.Nodup) (tk : Takes X Wo)
    (hb : ∀ (W : WX) (pn : List (Addr × Obj)) (xe : Value → Shared → Prop), Takes (X.tr pn xe) W → PassesOwn (model X.prog X.w) X.A X.env xe → PSs (X.tr pn xe) body (tb W))
    (hh : HAs X (h1 :: hs) l) : PS X (.Try body (h1 :: hs) [] [] pos) (fun D σ H => tb (wAll X.K Wo D l) D σ H) := by
  constructor
  intro pins s σ H D I h
  have ok := I.ok
  have frs' : X.A.frames = some (X.env :: X.outer) := ok.frames.trans (congrArg some st)
  apply wpAny_Try_except
  let xe' : Value → Shared → Prop := fun u s1 => wpAny (model X.prog X.w) X.A (noteFrame u X.env) (fun _ s2 => wpAny (model X.prog X.w) X.A (setFlight u none) (fun _ s3 => wpAny (model X.prog X.w) X.A (handleBy u X.env (h1 :: hs)) (SP X pins D) X.xe s3) X.xe s2) X.xe s1
  have land : Takes (X.tr (X.pn ++ pins) xe') (wAll X.K Wo D l) := by
    rintro u s' ⟨z, B, sI, qins, τ, G, k, o, rfl, J0, c1, c2, c3, c4, c5, c6, c7⟩
    have J : Inv X pins τ G sI := J0.ofTry ok
    have sky : Sky B (X.env :: X.outer) z (Zc k o) X.env.locals s'.heap := by
      rw [← st]
      exact c3
    show wpAny (model X.prog X.w) X.A (noteFrame (.ref z) X.env) _ _ _
    refine Sky.land Zc.steady frs' fr sky fun g fl u3 => ?_
    have J3 : Inv X pins τ G { s' with heap := g } := J.landed c1 fl.1 (c2.trans u3) c5 c6
    obtain ⟨ob, ws, e3, z3, d3⟩ := fl.there
    have noFr : z ∉ frs (X.env :: X.outer) := fun hm => by
      obtain ⟨_, ob', e', nf⟩ := Heap.FunFrames.mem fl.2.2.1 hm
      have := e3.symm.trans e'
      cases this
      exact nf _ d3
    have noL : z ≠ X.env.locals := fun q => noFr (List.mem_filterMap.mpr ⟨X.env, List.mem_cons_self, fr.trans (congrArg some q.symm)⟩)
    have noS : z ∉ X.fs := fun hm => by
      obtain ⟨en, hen, q⟩ := List.mem_filterMap.mp hm
      exact noFr (List.mem_filterMap.mpr ⟨en, List.mem_cons_of_mem _ hen, q⟩)
    have S3 := J3.suite e3 d3 c4 noL noS
    have LT : PySem.W.Looks (model X.prog X.w) g (typeOf (.ref z)) k := fun A Q E t0 kk q => wpAny_typeOf_ref (kk _ _ e3) (by rw [z3.1]; exact q)
    have each : ∀ {hs' : List ExceptHandler} {l' : List HSpec}, HAs X hs' l' → wAll X.K Wo D l' k o τ G → wpAny (model X.prog X.w) X.A (handleBy (.ref z) X.env hs') (SP X pins D) X.xe { s' with heap := g } := by
      intro hs' l' hk
      induction hk with
      | nil =>
        intro wo
        apply wpAny_handleBy_nil
        obtain ⟨k1, k2, k3, oe, vs, T, oT, ts', he, hz, hd, hT, hr⟩ := id fl
        unfold PySem.passOn
        refine wpAny_bind (wpAny_field he hd hT ?_)
        have nn : ¬ ((Value.ref T == Value.none) = true) := by simp
        rw [if_neg nn]
        have out : wpAny (model X.prog X.w) X.A (setFlight (.ref z) X.env.frame) (fun _ s4 => wpAny (model X.prog X.w) X.A (throw (.ref z) : Sem Flow) (SP X pins D) X.xe s4) X.xe { s' with heap := g } := by
          rw [fr]
          refine HandSPX.setFlight_upZ fl fun g4 f4 u4 => wpAny_throw (tk _ _ ⟨z, B, sI, pins, τ, G, k, o, rfl, J, c1, (c2.trans u3).trans u4, .inr (.inr ?_), c4, c5, c6, wo⟩)
          rw [st]
          exact f4
        first
          | exact wpAny_bind (wpAny_pure (wpAny_bind out))
          | exact wpAny_bind out
      | @cons x n c j t s0 su np hp hs2 l2 nm hj hl run more ih =>
        rintro ⟨b, hb1, yes, no⟩
        refine wpAny_handleBy_cons (codeAny_handlers_test ?_) (fun q => by cases q)
        have ask : ∀ {Q : Value → Shared → Prop} {E : Value → Shared → Prop}, Q c { s' with heap := g } → wpAny (model X.prog X.w) (X.A.mark (some (.ref z))) (eval (.Name x np) X.env) Q E { s' with heap := g } := fun {Q E} q => by
          rcases nm with ⟨n1, n2, m1 | ⟨m1, m2, m3⟩⟩
          · exact ld_glob (X := X.suite z ((z, ob) :: (X.pn ++ pins))) S3 n1 m1 q n2
          · exact ld_blt (X := X.suite z ((z, ob) :: (X.pn ++ pins))) S3 n1 m1 m2 q m3 n2
        refine ask ((PySem.W.exm_one (M := model X.prog X.w) J3.kIn LT hb1).here ?_)
        cases b with
        | false => exact ih (no rfl)
        | true =>
          refine codeAny_handlers_suite_as (HandSPX.lands_againZ fl fun g4 f4 u4 => ?_)
          have J4 : Inv X pins τ G { s' with heap := g4 } := J.landed c1 f4.1 ((c2.trans u3).trans u4) c5 c6
          obtain ⟨ob4, ws4, e4, z4, d4⟩ := f4.there
          have S4 := J4.suite e4 d4 c4 noL noS
          refine store_ok (X := X.suite z ((z, ob4) :: (X.pn ++ pins))) (v := .ref z) S4 nd hj (.inl hl) rfl (fun s5 S5 => ?_) (.inr hl)
          have ran := (run z ob4 k o (X.pn ++ pins) z4 ⟨_, d4⟩).run [] s5 _ G _ S5 (yes rfl z c4)
          have close : ∀ {s6 : Shared} {τ6 : L2.St} {G6 : Hp} {Q : Shared → Prop}, Inv (X.suite z ((z, ob4) :: (X.pn ++ pins))) [] τ6 G6 s6 → (∀ s7, Inv X pins (τ6.set j none) G6 s7 → Q s7) →
              wpAny (model X.prog X.w) X.A (do bindName X.env n .none; unbindBehindTheSuite X.env n hp) (fun _ s7 => Q s7) X.xe s6 := fun S6 hq => gone_ok (S6.unsuite ok) nd hj hl hq
          refine wpAny_mono ran (fun fl6 s6 hsp => ?_) (fun _ _ q => q.elim)
          cases fl6 with
          | ret u =>
            obtain ⟨v6, τ6, G6, S6, r6, q6⟩ := hsp
            exact close S6 fun s7 J7 => ⟨_, _, _, J7, r6, q6⟩
          | next =>
            obtain ⟨τ6, G6, S6, q6⟩ := hsp
            exact close S6 fun s7 J7 => ⟨_, _, J7, q6⟩
          | brk =>
            obtain ⟨τ6, G6, S6, q6⟩ := hsp
            exact close S6 fun s7 J7 => ⟨_, _, J7, q6⟩
          | cont =>
            obtain ⟨τ6, G6, S6, q6⟩ := hsp
            exact close S6 fun s7 J7 => ⟨_, _, J7, q6⟩
    exact each hh c7
  refine wpAny_mono ((hb (wAll X.K Wo D l) (X.pn ++ pins) xe' land PassesOwn.looking).run [] s σ H D (I.toTry _) h) (fun fl s1 hsp => ?_) (fun u s1 hu => hu)
  cases fl with
  | ret u =>
    obtain ⟨v, τ, G, J, r, q⟩ := hsp
    exact ⟨v, τ, G, J.ofTry ok, r, q⟩
  | next =>
    obtain ⟨τ, G, J, q⟩ := hsp
    exact wpAny_execs_nil ⟨τ, G, J.ofTry ok, q⟩
  | brk =>
    obtain ⟨τ, G, J, q⟩ := hsp
    exact ⟨τ, G, J.ofTry ok, q⟩
  | cont =>
    obtain ⟨τ, G, J, q⟩ := hsp
    exact ⟨τ, G, J.ofTry ok, q⟩
end
end KA
namespace KA
open PySem PySem.Spec PyProof.Rows L2
/-- B.__init__(self, ..), B an own class: a def of the class, called as it stands there -/
structure ClsFn (K : PySem.W.Frag) (C : Addr) (nm : Str) (f : Addr) : Prop where
  ga : PySem.W.specialIn K (.ref C) "__getattribute__" = some (some (.builtin "type.__getattribute__"))
  rd : PySem.W.readsIn K C (.type "type") = true
  fd : PySem.W.findCls K (.ref C) (.type "type") nm = some (.val (.ref f))
  kp : PySem.W.keepIn K (.ref f) = true
section
variable {X : Cx} {CX : CXT} {k : Nat} {f C : Addr} {fd : FuncData} {ps : List Str} {ds : List Value} {dvs : List V} {sp : Sp} {E : XK} {x nm : Str} {p1 p2 pos : Pos} {e : Expr} {es : List Expr} {t : TA}
theorem pe_cfn {pl : Sem Bool} (c : ClsFn X.K C nm f) (F : FnOk X.prog X.w X.K X.mg X.base CX k f fd ps sp) (hr : Room k X.A) (hg : Gl X x) (hm : X.mg x = some (.ref C)) (hb : Binds X.K fd ps ds) (hd : Vals dvs ds) (hx : Passes CX X E)
    (ha : PA X (e :: es) t) (hdb : (x == ("__debug__" : Str)) = false := by decide)
    (hc : eval (.Call (.Attribute (.Name x p1) nm p2) (e :: es) [] pos) X.env = (do
      let ov ← eval (.Name x p1) X.env
      standAt p2.atName
      let (g, first) ← holding [ov] (getMethod ov nm pl)
      callWith pos g first (backTo pos (starEach (e :: es) X.env)) (backToKw pos (keywordEach [] X.env))) := by rfl)
    (he : starEach (e :: es) X.env = (false, eval e X.env) :: starEach es X.env := by rfl) (hpl : (backTo pos (starEach es X.env)).any (·.1) = false := by rfl) :
    PE X (.Call (.Attribute (.Name x p1) nm p2) (e :: es) [] pos) (tCall sp dvs E t) := by
  constructor
  intro pins s σ H Q I h
  refine PySem.W.methodCall_KW (ld_glob I hg hm ?_ hdb) hc
  refine PySem.W.method_cls I.kIn c.ga (PySem.W.cls_value I.kIn c.rd c.fd rfl ?_)
  have I' := I.tok (s.toks + 1)
  refine PySem.W.callWith_K (first := []) (h₀ := X.base) I.ok.mod.kin c.kp (thn (ha.run pos pins _ σ H _ I' h) fun us s1 ⟨vs, H1, I1, r, q⟩ => ⟨I1.kIn, ?_⟩) he hpl
  exact run_fn F hr hb hd hx I1 r q
end
/-! methods with keywords alone, and methods within a try -/
def tMN (C : Addr) (nm : Str) (m : Nat) (sp : Sp) (gV : List V → List V → List V) (E : L2.St → XK) (ta : TE) (tk : TA) : TE := fun σ H Q => ta σ H fun x H1 => ∃ (a dx : Addr) (fs : List (Str × V)), x = .ref a ∧ H1 a = some (.ins C dx fs) ∧ fs.lookup nm = none ∧
  tk σ H1 fun zs H2 => zs.length = m ∧ sp (gV [.ref a] zs) H2 Q (E σ)
section
variable {X : Cx} {CX : CXT} {k : Nat} {f C : Addr} {fd : FuncData} {ps ks : List Str} {sp : Sp} {E : L2.St → XK} {nm : Str} {apos pos : Pos} {o : Expr} {kws : List Keyword} {ta : TE} {tk : TA} {g : List Value → List Value → List Value} {gV : List V → List V → List V}
theorem pe_methN {pl : Sem Bool} (ho : PE X o ta) (c : Cls X.K C) (hm : Meth X.K C nm f) (F : FnOk X.prog X.w X.K X.mg X.base CX k f fd ps sp) (hr : Room k X.A) (hb : KBn X.K fd ps 1 ks g gV) (hx : ∀ σ, PassesAt CX X σ (E σ)) (hkw : PK X kws tk)
    (hall : (backToKw pos (keywordEach kws X.env)).all (·.1.isSome) = true := by rfl) (hks : (backToKw pos (keywordEach kws X.env)).filterMap (·.1) = ks := by rfl)
    (hpl : ((backTo pos (starEach [] X.env)).any (·.1) || (backToKw pos (keywordEach kws X.env)).any (·.1.isNone)) = false := by rfl)
    (ht : eval (.Call (.Attribute o nm apos) [] kws pos) X.env = (do
      let ov ← eval o X.env
      standAt apos.atName
      let (g, first) ← holding [ov] (getMethod ov nm pl)
      callWith pos g first (backTo pos (starEach [] X.env)) (backToKw pos (keywordEach kws X.env))) := by rfl) :
    PE X (.Call (.Attribute o nm apos) [] kws pos) (tMN C nm ks.length sp gV E ta tk) := by
  constructor
  intro pins s σ H Q I h
  refine PySem.W.methodCall_KW (pl := pl) (thn (ho.run pins s σ H _ I h) fun u s1 ⟨x, H1, I1, rx, a, dx, fs, ex, ea, lk, q⟩ => ?_) ht
  subst ex
  obtain rfl : u = Value.ref a := rx
  refine getmeth_ok I1 ea c hm lk ?_
  refine PySem.W.callWith_KW0 (first := [.ref a]) (h₀ := X.base) I.ok.mod.kin hm.kp hall ?_ hpl
  refine thn (hkw.run pos pins s1 σ H1 _ I1 q) fun ws s2 ⟨zs, H2, I2, rz, l2, q2⟩ => ⟨I2.kIn, ?_⟩
  rw [hks]
  have r1 : Vals [V.ref a] [Value.ref a] := .cons rfl .nil
  refine wpAny_call (codeAny_mono (F.run X.A X.stack s2 H2 ⟨[Value.ref a], ks.zip ws⟩ (g [Value.ref a] ws) (gV [V.ref a] zs) Q (E σ) hr I2.env0 (hb.to s2 [Value.ref a] ws I2.kIn rfl (rz.length.symm.trans l2)) (hb.rel r1 rz) q2) fun r s' hq => ?_)
  match r, hq with
  | .error er, hq => exact hx σ pins H2 s2 er s' I2 hq
  | .ok (.ret u), hq => exact I2.after hq
  | .ok .next, hq => exact hq.elim
  | .ok .brk, hq => exact hq.elim
  | .ok .cont, hq => exact hq.elim
end
end KA
namespace KA
open PySem PySem.Spec PyProof.Rows L2
section
variable {prog : Program} {w : World} {A : Around} {E : Value → Shared → Prop} {s : Shared}
theorem place_one (a b i : Int) : (Builtin.Range.rangePlace? a b 1 i).isSome = (decide (a ≤ i) && decide (i < b)) := by
  unfold Builtin.Range.rangePlace?
  simp only [show (1 : Int) > 0 from by decide, if_true, Int.emod_one, beq_self_eq_true, Bool.and_true]
  cases (decide (a ≤ i) && decide (i < b)) <;> rfl
theorem has_range {r : Addr} {a b i : Int} {t u v k : Tok} {Q : Value → Shared → Prop} (hr : IsRange s.heap r a b 1 t u v) (h : Q (.bool (decide (a ≤ i) && decide (i < b))) s) :
    wpAny (model prog w) A (call (.builtin "range.__contains__") [.ref r, .int i k]) Q E s := by
  have hT : s.TypeIs (.ref r) "range" := ⟨_, hr, rfl⟩
  refine wpAny_call_entry PySem.F.slot_range_contains hT PySem.F.entry_range_contains ?_ (PySem.F.args_range_contains_2 _ _)
  unfold Builtin.«range.__contains__»
  refine wpAny_bind (wpAny_of_eq (a := (Value.ref r, [Value.int i k])) rfl ?_)
  dsimp only [Builtin.Range.rangeExactInt?]
  refine wpAny_bind (wpAny_rule (wpAny_bind (PySem.wpAny_rangeFields hr ?_)))
  dsimp only
  rw [place_one]
  exact wpAny_pure ⟨_, rfl, h⟩
theorem notIn_range {r : Addr} {a b i : Int} {t u v k : Tok} {Q : Value → Shared → Prop} (hr : IsRange s.heap r a b 1 t u v) (h : Q (.bool (!(decide (a ≤ i) && decide (i < b)))) s) :
    wpAny (model prog w) A (compareOp .NotIn (.int i k) (.ref r)) Q E s := by
  have hT : s.TypeIs (.ref r) "range" := ⟨_, hr, rfl⟩
  show wpAny _ _ (do return .bool (!(← contains (.ref r) (.int i k)))) Q E s
  exact wpAny_bind (wpAny_contains_slot hT PySem.F.slot_range_contains (has_range hr (wpAny_pure (wpAny_pure h))))
end
section
variable {X : Cx} {a e : Expr} {ta : TE} {te : L2.St → Hp → (Int → Int → Hp → Prop) → Prop} {pos : Pos}
/-- x not in range(..) -/
def tNiR (ta : TE) (te : L2.St → Hp → (Int → Int → Hp → Prop) → Prop) : TT := fun σ H Q => ta σ H fun x H1 => ∃ i, x = .int i ∧ te σ H1 fun lo hi H2 => Q (!(decide (lo ≤ i) && decide (i < hi))) H2
theorem pt_notInRg (ha : PE X a ta) (he : PRg X e te) (hm : behindInMarks .NotIn e = false := by rfl) : PT X (.Compare a [.NotIn] [e] pos) (tNiR ta te) := by
  constructor
  intro pins s σ H Q I h
  refine wpAny_isTrue_Compare1 (thn (ha.run pins s σ H _ I h) fun v s1 ⟨x, H1, I1, r1, i, ex, q1⟩ => ?_) hm
  subst ex
  obtain ⟨tk, rfl⟩ := r1
  refine thn (he pins s1 σ H1 _ I1 q1) fun u s2 ⟨r, lo, hi, t1, t2, t3, H2, eu, hr, I2, q2⟩ => ?_
  subst eu
  exact notIn_range hr (wpAny_truthy_bool ⟨H2, I2, q2⟩)
end
end KA
namespace KA
open PySem PySem.Spec PyProof.Rows L2
section
variable {X : Cx} {n : Nat}
/-- x == y (or another comparison), x an instance of the class at C whose own def keeps sp, y of any kind -/
def rOwn (K : PySem.W.Frag) (C : Addr) (sp : Sp) (E : XK) : R2 := fun x y H Q => ∃ (a dx : Addr) (fs : List (Str × V)) (t : Value), x = .ref a ∧ H a = some (.ins C dx fs) ∧ TyX K H y t ∧ PySem.W.notFirst K C t = true ∧ sp [.ref a, y] H (fun v H' => (∃ b, v = .bl b) ∧ Q v H') E
theorem op_own {op : CmpOp} {CX : CXT} {C f : Addr} {fd : FuncData} {ps : List Str} {sp : Sp} {E : XK} (F : FnOk X.prog X.w X.K X.mg X.base CX n f fd ps sp)
    (hs : PySem.W.findIn X.K (.ref C) (cmpInfo op).2.1 = some (some (.ref f))) (hf : PySem.W.isFn X.K (.ref f) = true) (hb : Binds X.K fd ps []) (hx : Passes CX X E) (hr : Room n X.A) (ho : compareOp op = richCompare op := by rfl) : OpR X (compareOp op) (rOwn X.K C sp E) := by
  intro pins s σ H x y u v Q I rx ry d
  obtain ⟨a, dx, fs, t, rfl, ha, ty, hn, hsp⟩ := d
  cases rx
  obtain ⟨mA, J, _⟩ := ins_get I.hok ha
  obtain ⟨od, J, _⟩ := J.look
  obtain ⟨Pz, Z, p, _⟩ := kit_of I ry ty
  obtain ⟨m, hF⟩ := I.fr
  rw [ho]
  refine PySem.W.cmp_K (op := op) (tb := t) hr.units0 hF I.ok.mod.kin J (Z.ty _ _ I.kIn p) hn hs hf ?_
  have hl := F.len _ _ _ _ hsp
  have r2 : Vals [V.ref a, y] [Value.ref a, v] := .cons rfl (.cons ry .nil)
  refine wpAny_call (codeAny_mono (F.run X.A X.stack s H ⟨[.ref a, v], []⟩ [.ref a, v] [.ref a, y] _ E hr I.env0 (by
    have := hb s [.ref a, v] I.kIn (by simpa using hl)
    simpa using this) r2 hsp) fun r s' hq => ?_)
  cases r with
  | error e => exact hx pins σ H s e s' I hq
  | ok fl =>
    cases fl with
    | ret w =>
      obtain ⟨z, H', I', rz, ⟨b, ez⟩, q⟩ := I.after hq
      subst ez
      cases rz
      exact ⟨.bl b, H', I', rfl, q⟩
    | next => exact False.elim hq
    | brk => exact False.elim hq
    | cont => exact False.elim hq
end
end KA
namespace KA
open PySem PySem.Spec PySem.W PyProof.Rows
section
variable {prog : Program} {w : World} {A : Around} {E : Value → Shared → Prop} {s : Shared} {K : Frag} {x C f : Addr} {ox : Obj} {od : Option Obj}
theorem repr_K {Q : Value → Shared → Prop} (hu : A.in1.units < cLine) (X : K.In s.heap) (I : InstAt s.heap x ox C od) (hs : findIn K (.ref C) "__repr__" = some (some (.ref f))) (hf : isFn K (.ref f) = true)
    (hcall : wpAny (model prog w) A.in1 (call (.ref f) [.ref x]) (fun r s' => ∃ m tk, r = .str m tk ∧ Q (.str m tk) s') E s) :
    wpAny (model prog w) A (call (.builtin "repr") [.ref x]) Q E s := by
  refine Calls.call_function_entry F.kind_repr F.plain_repr F.entry_repr (F.args_repr1 _) ?_
  unfold Builtin.«repr»
  refine wpAny_bind (m := oneArg "repr" _) (wpAny_pure ?_)
  refine wpAny_bind (wpAny_cRoomFor hu ?_)
  refine wpAny_bind (wpAny_bind (I.type.here ((looks_findIn X hs).here ?_)))
  show wpAny _ _ (if (some (Value.ref f)).isNone = true then _ else _) _ _ _
  rw [if_neg (by simp)]
  refine wpAny_bind (m := callSpecialIfBound? (.ref x) (Str.ofString "__repr__") _) (ifBound_K X I hs hf (wpAny_mono hcall (fun r s' hr => ?_) fun _ _ y => y))
  obtain ⟨m, tk, rfl, hq⟩ := hr
  refine wpAny_bind (wpAny_isInstance (typeIs_str _ _ _) isSubtype_str_str ?_)
  first
    | exact wpAny_pure ⟨_, rfl, hq⟩
    | (rw [if_pos rfl]; exact wpAny_pure ⟨_, rfl, hq⟩)
    | (simp only [if_true]; exact wpAny_pure ⟨_, rfl, hq⟩)
end
end KA
namespace KA
open PySem PySem.Spec PyProof.Rows L2
section
variable {X : Cx} {n : Nat} {CX : CXT} {C f : Addr} {fd : FuncData} {ps : List Str} {sp : Sp} {E : XK}
/-- repr(x), str(x): x an instance of the class at C, whose own def keeps sp -/
def rShow (C : Addr) (sp : Sp) (E : XK) : List V → Hp → VK → Prop := fun xs H Q => ∃ (a dx : Addr) (fs : List (Str × V)), xs = [.ref a] ∧ H a = some (.ins C dx fs) ∧ sp [.ref a] H (fun v H' => (∃ m, v = .str m) ∧ Q v H') E
theorem run_self {A : Around} {pins : List (Addr × Obj)} {σ : L2.St} {H : Hp} {s : Shared} {a : Addr} {Q : VK} (F : FnOk X.prog X.w X.K X.mg X.base CX n f fd ps sp) (hb : Binds X.K fd ps []) (hx : Passes CX X E) (hr : Room n A) (hA : A.frames = X.A.frames) (I : L2.Inv X pins σ H s)
    (hsp : sp [.ref a] H (fun v H' => (∃ m, v = .str m) ∧ Q v H') E) : wpAny (model X.prog X.w) A (call (.ref f) [.ref a]) (fun r s' => ∃ m tk, r = .str m tk ∧ EP X pins σ Q (.str m tk) s') X.xe s := by
  have e0 : Env0 X.prog X.w X.K X.mg X.base A X.stack s H := by
    have e := I.env0
    exact ⟨by rw [hA]; exact e.frames, e.mod, e.bs, e.bsz, e.funs, e.frf, e.hok, e.bare⟩
  have hl := F.len _ _ _ _ hsp
  have r2 : Vals [V.ref a] [Value.ref a] := .cons rfl .nil
  refine wpAny_call (codeAny_mono (F.run A X.stack s H ⟨[.ref a], []⟩ [.ref a] [.ref a] _ E hr e0 (by
    have := hb s [.ref a] I.kIn (by simpa using hl)
    simpa using this) r2 hsp) fun r s' hq => ?_)
  cases r with
  | error e => exact hx pins σ H s e s' I hq
  | ok fl =>
    cases fl with
    | ret w =>
      obtain ⟨z, H', I', rz, ⟨m, ez⟩, q⟩ := I.after hq
      subst ez
      obtain ⟨tk, rfl⟩ := (show ∃ t, w = Value.str m t from rz)
      exact ⟨m, tk, rfl, .str m, H', I', ⟨tk, rfl⟩, q⟩
    | next => exact False.elim hq
    | brk => exact False.elim hq
    | cont => exact False.elim hq
theorem call_reprO (F : FnOk X.prog X.w X.K X.mg X.base CX n f fd ps sp) (hs : PySem.W.findIn X.K (.ref C) "__repr__" = some (some (.ref f))) (hf : PySem.W.isFn X.K (.ref f) = true) (hb : Binds X.K fd ps []) (hx : Passes CX X E) (hr : Room (n + 1) X.A) :
    CallR X (.builtin "repr") (rShow C sp E) := by
  intro pins s σ H xs us Q I r h
  obtain ⟨a, dx, fs, rfl, ha, hsp⟩ := h
  obtain ⟨u, rfl, r1⟩ := vals1 r
  cases (show u = Value.ref a from r1)
  obtain ⟨mA, J, _⟩ := ins_get I.hok ha
  obtain ⟨od, J, _⟩ := J.look
  exact repr_K hr.in1.units0 I.kIn J hs hf (run_self F hb hx hr.in1 rfl I hsp)
theorem call_strO (F : FnOk X.prog X.w X.K X.mg X.base CX n f fd ps sp) (hs : PySem.W.findIn X.K (.ref C) "__str__" = some (some (.ref f))) (hf : PySem.W.isFn X.K (.ref f) = true) (hb : Binds X.K fd ps []) (hx : Passes CX X E) (hr : Room (n + 2) X.A) :
    CallR X (.type "str") (rShow C sp E) := by
  intro pins s σ H xs us Q I r h
  obtain ⟨a, dx, fs, rfl, ha, hsp⟩ := h
  obtain ⟨u, rfl, r1⟩ := vals1 r
  cases (show u = Value.ref a from r1)
  obtain ⟨mA, J, _⟩ := ins_get I.hok ha
  obtain ⟨od, J, _⟩ := J.look
  refine PySem.W.kso_call hr.in1.in1.units0 I.kIn J hs hf (wpAny_mono (run_self F hb hx hr.in1.in1 rfl I hsp) (fun r s' hr => ?_) fun _ _ y => y)
  obtain ⟨m, tk, rfl, q⟩ := hr
  exact q
/-- {x}: a text, an int, a truth -/
def tFmtB (te : TE) : TE := fun σ H Q => te σ H fun x H1 => (∃ y : Str, x = .str y ∧ y.length ≤ sizeLine ∧ Q (.str y) H1) ∨ (∃ i : Int, x = .int i ∧ i.natAbs.log2 < 1920 ∧ Q (.str (toString i)) H1) ∨ ∃ b : Bool, x = .bl b ∧ Q (.str (if b then "True" else "False")) H1
theorem pe_fmtB {e : Expr} {te : TE} {pos : Pos} (he : PE X e te) : PE X (.FormattedValue e (-1) none pos) (tFmtB te) := by
  refine ⟨fun pins s σ H Q I h => ?_⟩
  refine wpAny_FormattedValue_plain (thn (he.run pins s σ H _ I h) fun v s1 hv => ?_)
  obtain ⟨x, H1, I1, r1, q⟩ := hv
  rcases q with ⟨y, rfl, hz, q⟩ | ⟨i, rfl, hz, q⟩ | ⟨b, rfl, q⟩
  · obtain ⟨t, rfl⟩ := r1
    exact wpAny_formatField_str ⟨.str y, H1, I1, ⟨t, rfl⟩, q⟩ ⟨.str y, H1, I1.tok _, ⟨_, rfl⟩, q⟩ hz
  · obtain ⟨t, rfl⟩ := r1
    exact wpAny_formatField_int hz ⟨.str (toString i), H1, I1.tok _, ⟨_, rfl⟩, q⟩
  · cases (show v = Value.bool b from r1)
    exact wpAny_formatField_bool ⟨.str (if b then "True" else "False"), H1, I1.tok _, ⟨_, rfl⟩, q⟩
end
end KA
namespace KA
open PySem PySem.Spec PyProof.Rows L2
section
variable {prog : Program} {w : World} {A : Around} {E : Value → Shared → Prop} {s : Shared} {a : Addr} {o : Obj}
theorem lrep_head {Q : Fin → Shared → Prop} {x : Value} {l : List Value} {n : Nat} {b : Nat} (hget : s.heap.get? a = some o) (hd : o.data = .seq (x :: l).toArray n)
    (h1 : wpAny (model prog w) A (do again (.builtin "list.__repr__.loop" ⟨[.ref a, rawInt 0, ← newList [], rawInt b], []⟩)) Q E s) (h2 : ∀ u tk, Q (.done (.ret (.str "[...]" u))) { s with toks := tk }) :
    wpAny (model prog w) A (Builtin.listReprAt b ⟨[.ref a], []⟩) Q E s := by
  unfold Builtin.listReprAt
  show wpAny _ _ (Builtin.List.listItems (.ref a) >>= _) _ _ s
  refine wpAny_bind (wpAny_listItems hget hd ?_)
  refine PySem.W.KFB.if_not rfl ?_
  refine wpAny_bind (wpAny_stack_any fun st => ?_)
  dsimp only
  split
  · refine wpAny_bind (wpAny_rule ?_)
    exact wpAny_bind (wpAny_mkStr (wpAny_pure (h2 _ _)) (by decide +kernel))
  · exact h1
theorem lrep_way : ("[...]" : Str).length ≤ 5 := by decide +kernel
/-- list.__repr__, whatever is under way -/
theorem lrep_call {Q : Value → Shared → Prop} {x : Value} {l : List Value} {n : Nat} {ts : List Str} (hc : o.cls = .type "list") (ha : s.heap.get? a = some o) (hd : o.data = .seq (x :: l).toArray n) (hlen : ts.length = (x :: l).toArray.size)
    (hT : ∀ (i : Nat) (y : Value), (x :: l).toArray[i]? = some y → ∃ t, ts[i]? = some t ∧ ReprIs prog w y t) (hsz : (listText ts).length ≤ sizeLine)
    (h : ∀ h' (m : Str) u tk, (∀ b z, s.heap.get? b = some z → h'.get? b = some z) → m.length ≤ (listText ts).length + 5 → Q (.str m u) { s with heap := h', toks := tk }) :
    wpAny (model prog w) A (call (.builtin "list.__repr__") [.ref a]) Q E s := by
  refine wpAny_call (codeAny_call_builtin F.slot_list_repr.plain F.entry_list_repr (F.slot_list_repr.check _ _ _ _ _ _ _ _ ⟨o, ha, hc⟩ (F.args_list_repr_1 _) ?_))
  refine lrep_head (b := 0) ha hd ?_ (fun u tk => h s.heap _ u tk (fun _ _ e => e) (Nat.le_trans lrep_way (Nat.le_add_left _ _)))
  refine wpAny_bind (m := newList []) (wpAny_newObj_type ?_)
  refine wpAny_pure ⟨F.quiet_list_repr_loop _, ?_⟩
  refine codeAny_list_repr_start (P := s.heap.objs.size) (Nat.ne_of_lt (Heap.lt_size ha)) hlen hT (Heap.get?_push_of_some _ ha) hd (Heap.get?_push_size _ rfl) (fun h' u tk hk => ?_) (by omega)
  exact h h' _ u tk (fun b z e => hk b z (Nat.ne_of_lt (Heap.lt_size e)) (Heap.get?_push_of_some _ e)) (Nat.le_add_right _ _)

theorem drep_way : ("{...}" : Str).length ≤ 5 := by decide +kernel
/-- dict.__repr__ of {}, whatever is under way -/
theorem drep_call {Q : Value → Shared → Prop} {ep : Nat} (hc : o.cls = .type "dict") (ha : s.heap.get? a = some o) (hd : o.data = .dict #[] ep) (hsys : (a == sysModules) = false)
    (h : ∀ (m : Str) u tk, m.length ≤ 10 → Q (.str m u) { s with toks := tk }) : wpAny (model prog w) A (call (.builtin "dict.__repr__") [.ref a]) Q E s := by
  refine wpAny_call (codeAny_call_builtin_own (Code.quiet_builtin _ (by decide +kernel)) F.entry_dict_repr (F.slot_dict_repr.check _ _ _ _ _ _ _ _ ⟨o, ha, hc⟩ (F.args_dict_repr_1 _) (wpOwn_of_wpAny ?_)))
  show wpAny _ _ (Builtin.dictReprAt 0 ⟨[.ref a], []⟩) _ _ s
  unfold Builtin.dictReprAt
  refine wpAny_bind ?_
  unfold Builtin.Dict.dictSlotNone
  refine wpAny_bind (wpAny_notOrdered_dict ⟨o, ha, hc⟩ ?_)
  show wpAny _ _ (pure (Value.ref a)) _ _ s
  refine wpAny_pure ?_
  rw [dictReprRunning_eq]
  refine wpAny_bind (wpAny_bind (wpAny_stack_any fun st => wpAny_pure ?_))
  split
  · refine wpAny_bind (wpAny_rule ?_)
    exact wpAny_bind (wpAny_mkStr (wpAny_pure (h _ _ _ (Nat.le_trans drep_way (by decide)))) (by decide +kernel))
  · show wpAny _ _ (Builtin.Dict.addrOf (.ref a) >>= _) _ _ s
    refine wpAny_bind (wpAny_pure ?_)
    show wpAny _ _ (Builtin.Dict.showsAll a >>= _) _ _ s
    unfold Builtin.Dict.showsAll
    rw [if_neg (by rw [hsys]; exact Bool.false_ne_true)]
    refine wpAny_bind (wpAny_pure (wpAny_bind (wpAny_dictEpoch ha hd (wpAny_bind (wpAny_dictEntries ha hd ?_)))))
    refine wpAny_bind ?_
    rw [Std.Legacy.Range.forIn_eq_forIn_range']
    show wpAny _ _ (forIn [] _ _) _ _ s
    refine wpAny_pure ?_
    refine wpAny_bind (wpAny_mkStr (wpAny_pure (h _ _ _ ?_)) (by decide +kernel))
    decide +kernel
end
/-- str() of what is shown by its __repr__ -/
theorem str_by {prog : Program} {w : World} {A : Around} {E : Value → Shared → Prop} {s : Shared} {a : Addr} {o : Obj} {Q : Value → Shared → Prop} {T idr : String} {N : Nat} (hu : A.units + 3 < cLine) (hc : o.cls = .type T) (ha : s.heap.get? a = some o)
    (slotStr : Slot T "__str__" "object.__str__") (slotRepr : SlotG T "__repr__" idr)
    (rep : ∀ (prog' : Program) (w' : World) (A' : Around) (E' : Value → Shared → Prop) (s' : Shared) (Q' : Value → Shared → Prop), s'.heap.get? a = some o →
      (∀ h' (m : Str) u tk, (∀ b z, s'.heap.get? b = some z → h'.get? b = some z) → m.length ≤ N → Q' (.str m u) { s' with heap := h', toks := tk }) → wpAny (model prog' w') A' (call (.builtin idr) [.ref a]) Q' E' s')
    (h : ∀ h' (m : Str) u tk, (∀ b z, s.heap.get? b = some z → h'.get? b = some z) → m.length ≤ N → Q (.str m u) { s with heap := h', toks := tk }) :
    wpAny (model prog w) A (call (.type "str") [.ref a]) Q E s :=
  callType_new F.called_str (by decide) (F.typeCall_str_1 _) (F.newCall_str_1 _) (fun obj => F.args_object_init_2 obj _) F.entry_str_new
    (meets_str_new (S := fun A' R s' => A'.units + 2 < cLine ∧ s'.heap.get? a = some o ∧
        ∀ h' (m : Str) u tk, (∀ b z, s'.heap.get? b = some z → h'.get? b = some z) → m.length ≤ N → R (.ok (.ret (.str m u))) { s' with heap := h', toks := tk })
      fun prog' w' A' R s' g => wpAny_strOf_slot rfl (by show A'.units + 1 + 1 < cLine; have := g.1; omega) ⟨o, g.2.1, hc⟩ slotStr slotRepr (rep prog' w' _ _ s' _ g.2.1 fun h' m u tk hk hm => ⟨m, u, rfl, g.2.2 h' m u tk hk hm⟩))
    ⟨by show A.units + 1 + 2 < cLine; omega, ha, fun h' m u tk hk hm => ⟨typeIs_str _ _ _, h h' m u tk hk hm⟩⟩
/-- a thing without parts, of bounded text -/
inductive Leaf : V → Prop
  | int (i : Int) (h : i.natAbs.log2 < 1000) : Leaf (.int i)
  | str (z : Str) (h : z.length ≤ 1000) (hc : ∀ c ∈ z.cps.toList, c < 16 ^ 8) : Leaf (.str z)
  | bl (b : Bool) : Leaf (.bl b)
  | non : Leaf .non
theorem size_20k : (20000 : Nat) ≤ sizeLine := by decide
theorem leaf_repr {prog : Program} {w : World} {v : V} {u : Value} (h : Leaf v) (r : RelV v u) : ∃ t : Str, ReprIs prog w u t ∧ t.length ≤ 12000 := by
  cases h with
  | int i hi =>
    obtain ⟨t, rfl⟩ := r
    refine ⟨_, ReprIs.int t (by omega), ?_⟩
    have e := int_text_length_le (k := 1000) (by decide) hi
    show (Str.ofString (toString i)).length ≤ 12000
    rw [PySem.ofString_length]
    omega
  | str z hz hc =>
    obtain ⟨t, rfl⟩ := r
    have h1 := StrLaws.reprText_len z hc
    have := size_20k
    exact ⟨_, ReprIs.str z t (by omega), by omega⟩
  | bl b =>
    cases r
    exact ⟨_, ReprIs.bool b, by cases b <;> decide⟩
  | non =>
    cases r
    exact ⟨_, ReprIs.none, by decide⟩
section
variable {X : Cx}
theorem list_text_one (t : Str) : (listText [t]).length ≤ t.length + 4 := by
  have h := piled_le_listText [t]
  have h2 := textFrom_len [t] 0 "["
  show (textFrom 0 "[" [t] ++ "]").length ≤ _
  rw [strLen_append]
  show (("[" : Str) ++ (if 0 > 0 then ", " else "" : String) ++ t).length + 1 ≤ _
  rw [strLen_append, strLen_append]
  show 1 + 0 + t.length + 1 ≤ _
  omega
/-- the same, of texts of any signs -/
inductive LeafW : V → Prop
  | int (i : Int) (h : i.natAbs.log2 < 1000) : LeafW (.int i)
  | str (z : Str) (h : z.length ≤ 3000) : LeafW (.str z)
  | bl (b : Bool) : LeafW (.bl b)
  | non : LeafW .non
theorem Leaf.w {v : V} (h : Leaf v) : LeafW v := by
  cases h with
  | int i h => exact .int i h
  | str z h _ => exact .str z (by omega)
  | bl b => exact .bl b
  | non => exact .non
/-- what str() is asked of: a thing without parts, or one list, tuple of one, or {} -/
inductive Leaf1 (K : PySem.W.Frag) (H : Hp) : V → Prop
  | leaf {v : V} (h : LeafW v) : Leaf1 K H v
  | lst {a : Addr} {v : V} (e : H a = some (.lst [v])) (h : Leaf v) : Leaf1 K H (.ref a)
  | tup {a : Addr} {v : V} (e : H a = some (.tup [v])) (h : Leaf v) : Leaf1 K H (.ref a)
  | dct {a : Addr} (e : H a = some (.dK [])) : Leaf1 K H (.ref a)
def rStrL (K : PySem.W.Frag) : List V → Hp → VK → Prop := fun xs H Q => ∃ x, xs = [x] ∧ Leaf1 K H x ∧ ∀ m : Str, m.length ≤ 20000 → (Leaf x → m.length ≤ 1002) → Q (.str m) H
theorem call_str_leaf {k : Nat} (hr : Room k X.A) : CallR X (.type "str") (rStrL X.K) := by
  intro pins s σ H xs us Q I r h
  obtain ⟨x, rfl, hx, q⟩ := h
  obtain ⟨u, rfl, rx⟩ := vals1 r
  have hz := size_20k
  have hu := hr.units
  cases hx with
  | leaf hl =>
    cases hl with
    | int i hi =>
      obtain ⟨t, rfl⟩ := rx
      have e : (Str.ofString (toString i)).length ≤ 1002 := by
        have e := int_text_length_le (k := 1000) (by decide) hi
        rw [PySem.ofString_length]
        omega
      exact PySem.P.str_of_int (by omega) ⟨.str _, H, I.tok _, ⟨_, rfl⟩, q _ (Nat.le_trans e (by decide)) (fun _ => e)⟩
    | str z hz' =>
      obtain ⟨t, rfl⟩ := rx
      refine PySem.P.str_of_str ⟨.str _, H, I, ⟨_, rfl⟩, q _ (by omega) (fun l => ?_)⟩
      cases l
      omega
    | bl b =>
      cases rx
      exact PySem.P.str_of_bool ⟨.str _, H, I.tok _, ⟨_, rfl⟩, q _ (by cases b <;> decide) (fun _ => by cases b <;> decide)⟩
    | non =>
      cases rx
      exact PySem.P.str_of_none ⟨.str _, H, I.tok _, ⟨_, rfl⟩, q _ (by decide) (fun _ => by decide)⟩
  | @lst a v e hl =>
    cases rx
    obtain ⟨_, its, n, rv, ho⟩ : _ ≤ sizeLine ∧ ∃ (its : List Value) (n : Nat), Vals [v] its ∧ s.heap.get? a = some { cls := .type "list", data := .seq its.toArray n } := I.hok a _ e
    obtain ⟨u, rfl, ru⟩ := vals1 rv
    refine str_by (N := 13000) (by omega) rfl ho F.slot_list_str F.slot_list_repr.toG (fun prog' w' A' E' s' Q' hg hq => ?_) (fun h' m u tk hk hm => ⟨.str m, H, I.kept hk, ⟨_, rfl⟩, q m (by omega) (fun l => nomatch l)⟩)
    obtain ⟨t, ht, hl⟩ := leaf_repr (prog := prog') (w := w') hl ru
    have ht2 := list_text_one t
    refine lrep_call (ts := [t]) rfl hg rfl rfl (fun i y hy => ?_) (by omega) (fun h' m u tk hk hm => hq h' m u tk hk (by omega))
    cases i with
    | zero => cases hy; exact ⟨t, rfl, ht⟩
    | succ i => cases hy
  | @tup a v e hl =>
    cases rx
    obtain ⟨_, its, rv, o, ho, hc, n, hd⟩ : _ ≤ sizeLine ∧ ∃ its : List Value, Vals [v] its ∧ IsTup s.heap a its.toArray := I.hok a _ e
    obtain ⟨u, rfl, ru⟩ := vals1 rv
    refine str_by (N := 13000) (by omega) hc ho F.slot_tuple_str F.slot_tuple_repr (fun prog' w' A' E' s' Q' hg hq => ?_) (fun h' m u tk hk hm => ⟨.str m, H, I.kept hk, ⟨_, rfl⟩, q m (by omega) (fun l => nomatch l)⟩)
    obtain ⟨t, ht, hl⟩ := leaf_repr (prog := prog') (w := w') hl ru
    have ht2 := fmt_text [t]
    have ht3 : piled [t] = t.length + 2 := rfl
    exact fmt_tuple_repr (ts := [t]) hg hc hd (.cons ht .nil) (by omega) (fun m u tk hm => hq s'.heap m u tk (fun _ _ e => e) (by omega))
  | @dct a e =>
    cases rx
    obtain ⟨_, hs, vs, kv, o, es, ep, ho, hx, hd, _, he, _⟩ := dk_of I.hok e
    cases kv
    have : es = #[] := by
      cases es
      cases he
      rfl
    subst this
    refine str_by (N := 13000) (by omega) hx.1 ho F.slot_dict_str F.slot_dict_repr (fun prog' w' A' E' s' Q' hg hq => ?_) (fun h' m u tk hk hm => ⟨.str m, H, I.kept hk, ⟨_, rfl⟩, q m (by omega) (fun l => nomatch l)⟩)
    exact drep_call hx.1 hg hd hs (fun m u tk hm => hq s'.heap m u tk (fun _ _ e => e) (by omega))
end
end KA
namespace KA
open PySem PySem.SeqAt
open AutoSeq1 (wpAny_loadPart')
open MeetsSeq MeetsSeq2 MeetsSeq3 SeqRoads2
section
variable {prog : Program} {w : World} {A : Around} {R : Result → Shared → Prop}
/-- two lists as long, read anew at each turn: the two items are told equal (then J goes on) or not (then F) -/
def LstI (prog : Program) (w : World) (A : Around) (E : Value → Shared → Prop) (p q : Addr) (N : Nat) (J : Nat → Shared → Prop) (F : Shared → Prop) : Prop :=
  ∀ i s, J i s → ∃ (xs ys : Array Value) (m m2 : Nat), s.heap.get? p = some { cls := .type "list", data := .seq xs m } ∧ s.heap.get? q = some { cls := .type "list", data := .seq ys m2 } ∧ xs.size = N ∧ ys.size = N ∧
    ∀ (g1 : i < xs.size) (g2 : i < ys.size), wpAny (model prog w) A.in1 (eqBool xs[i] ys[i]) (fun r s' => (r = true → J (i + 1) s') ∧ (r = false → F s' ∧ ∃ (xs ys : Array Value) (m m2 : Nat), s'.heap.get? p = some { cls := .type "list", data := .seq xs m } ∧ s'.heap.get? q = some { cls := .type "list", data := .seq ys m2 } ∧ xs.size = N ∧ ys.size = N)) E s
/-- op: 2 is ==, 3 is != ; what is told where all items are equal is no -/
theorem turnsB (op : Nat) (yes : Bool) (hop : (op = 2 ∧ yes = true) ∨ (op = 3 ∧ yes = false)) (p q : Addr) (N : Nat) (J : Nat → Shared → Prop) (F : Shared → Prop) (hJ : LstI prog w A (fun e s' => R (.error e) s') p q N J F)
    (done : ∀ s, J N s → R (.ok (.ret (.bool yes))) s) (fail : ∀ s, F s → R (.ok (.ret (.bool (!yes)))) s) : ∀ (k i : Nat), N - i = k → i ≤ N → ∀ s, J i s →
      wpAny (model prog w) A.in1 (Builtin.«list.__eq__.loop» ⟨[.ref p, .ref q, rawInt i, rawInt op], []⟩) (GQ.FinOf prog w A R) (fun e s' => R (.error e) s') s
  | 0, i, hk, hi, s, hs => by
    obtain ⟨xs, ys, m, m2, gp, gq, zp, zq, _⟩ := hJ _ _ hs
    have iN : i = N := by omega
    have last : R (.ok (.ret (.bool yes))) s := done s (iN ▸ hs)
    have n1 : xs[((i : Nat) : Int).toNat]? = none := by simp; omega
    have n2 : ys[((i : Nat) : Int).toNat]? = none := by simp; omega
    rcases hop with ⟨rfl, rfl⟩ | ⟨rfl, rfl⟩
    · obtain ⟨hh, gg, dd, kk, oo⟩ := s
      wp_walk using wpAny_loadPart' gp, wpAny_loadPart' gq
      rw [n1, n2]
      wp_walk using wpAny_loadPart' gp, wpAny_loadPart' gq
      show R (.ok (.ret (.bool (xs.size == ys.size)))) _
      rw [zp, zq]
      simpa using last
    · obtain ⟨hh, gg, dd, kk, oo⟩ := s
      wp_walk using wpAny_loadPart' gp, wpAny_loadPart' gq
      rw [n1, n2]
      wp_walk using wpAny_loadPart' gp, wpAny_loadPart' gq
      show R (.ok (.ret (.bool (xs.size != ys.size)))) _
      rw [zp, zq]
      simpa using last
  | k + 1, i, hk, hi, s, hs => by
    obtain ⟨xs, ys, m, m2, gp, gq, zp, zq, tn⟩ := hJ _ _ hs
    have ip : i < xs.size := by omega
    have iq : i < ys.size := by omega
    have tt := tn ip iq
    have n1 : xs[((i : Nat) : Int).toNat]? = some xs[i] := by simp [ip]
    have n2 : ys[((i : Nat) : Int).toNat]? = some ys[i] := by simp [iq]
    have up : ((i : Int) + 1) = ((i + 1 : Nat) : Int) := by omega
    have next := fun s2 h2 => turnsB op yes hop p q N J F hJ done fail k (i + 1) (by omega) (by omega) s2 h2
    rcases hop with ⟨rfl, rfl⟩ | ⟨rfl, rfl⟩
    · obtain ⟨hh, gg, dd, kk, oo⟩ := s
      wp_walk using wpAny_loadPart' gp, wpAny_loadPart' gq
      rw [n1, n2]
      refine wpAny_bind (wpAny_mono tt (fun r s2 h2 => ?_) fun _ _ x => x)
      cases r with
      | true =>
        have h3 := next s2 (h2.1 rfl)
        obtain ⟨hh2, gg2, dd2, kk2, oo2⟩ := s2
        wp_walk
        rw [up]
        exact ⟨plainId_quiet plain_eq_loop _, codeAny_builtin entry_eq_loop (by rw [Around.under_plainId plain_eq_loop _]; exact h3)⟩
      | false =>
        obtain ⟨hF, xs2, ys2, m3, m4, gp2, gq2, zp2, zq2⟩ := h2.2 rfl
        have h3 := fail s2 hF
        have n3 : xs2[((i : Nat) : Int).toNat]? = some (xs2[i]'(by omega)) := by simp
        have n4 : ys2[((i : Nat) : Int).toNat]? = some (ys2[i]'(by omega)) := by simp
        obtain ⟨hh2, gg2, dd2, kk2, oo2⟩ := s2
        wp_walk using wpAny_loadPart' gp2, wpAny_loadPart' gq2
        rw [n3, n4]
        wp_walk
        exact h3
    · obtain ⟨hh, gg, dd, kk, oo⟩ := s
      wp_walk using wpAny_loadPart' gp, wpAny_loadPart' gq
      rw [n1, n2]
      refine wpAny_bind (wpAny_mono tt (fun r s2 h2 => ?_) fun _ _ x => x)
      cases r with
      | true =>
        have h3 := next s2 (h2.1 rfl)
        obtain ⟨hh2, gg2, dd2, kk2, oo2⟩ := s2
        wp_walk
        rw [up]
        exact ⟨plainId_quiet plain_eq_loop _, codeAny_builtin entry_eq_loop (by rw [Around.under_plainId plain_eq_loop _]; exact h3)⟩
      | false =>
        obtain ⟨hF, xs2, ys2, m3, m4, gp2, gq2, zp2, zq2⟩ := h2.2 rfl
        have h3 := fail s2 hF
        have n3 : xs2[((i : Nat) : Int).toNat]? = some (xs2[i]'(by omega)) := by simp
        have n4 : ys2[((i : Nat) : Int).toNat]? = some (ys2[i]'(by omega)) := by simp
        obtain ⟨hh2, gg2, dd2, kk2, oo2⟩ := s2
        wp_walk using wpAny_loadPart' gp2, wpAny_loadPart' gq2
        rw [n3, n4]
        wp_walk
        exact h3
theorem listsB (ne yes : Bool) (hop : ne = !yes) (p q : Addr) (N : Nat) (J : Nat → Shared → Prop) (F : Shared → Prop) (hJ : LstI prog w A (fun e s' => R (.error e) s') p q N J F)
    (done : ∀ s, J N s → R (.ok (.ret (.bool yes))) s) (fail : ∀ s, F s → R (.ok (.ret (.bool (!yes)))) s) {s : Shared} (hs : J 0 s) :
    wpAny (model prog w) A.in1 ((if ne then Builtin.«list.__ne__» else Builtin.«list.__eq__») ⟨[.ref p, .ref q], []⟩) (GQ.FinOf prog w A R) (fun e s' => R (.error e) s') s := by
  obtain ⟨xs, ys, m, m2, gp, gq, zp, zq, _⟩ := hJ _ _ hs
  have same : ¬ (xs.size != ys.size) = true := by simp [zp, zq]
  have sub := AutoSeq1.sub_list_list
  cases yes with
  | true =>
    subst hop
    have all := turnsB (A := A) (R := R) 2 true (.inl ⟨rfl, rfl⟩) p q N J F hJ done fail _ 0 rfl (Nat.zero_le _) s hs
    obtain ⟨hh, gg, dd, kk, oo⟩ := s
    show wpAny _ _ (Builtin.«list.__eq__» ⟨[.ref p, .ref q], []⟩) _ _ _
    wp_walk using wpAny_loadPart' gp, wpAny_loadPart' gq
    exact ⟨plainId_quiet plain_eq_loop _, codeAny_builtin entry_eq_loop (by rw [Around.under_plainId plain_eq_loop _]; exact all)⟩
  | false =>
    subst hop
    have all := turnsB (A := A) (R := R) 3 false (.inr ⟨rfl, rfl⟩) p q N J F hJ done fail _ 0 rfl (Nat.zero_le _) s hs
    obtain ⟨hh, gg, dd, kk, oo⟩ := s
    show wpAny _ _ (Builtin.«list.__ne__» ⟨[.ref p, .ref q], []⟩) _ _ _
    wp_walk using wpAny_loadPart' gp, wpAny_loadPart' gq
    exact ⟨plainId_quiet plain_eq_loop _, codeAny_builtin entry_eq_loop (by rw [Around.under_plainId plain_eq_loop _]; exact all)⟩
/-- lists of unlike lengths -/
theorem listsN (ne : Bool) (p q : Addr) {xs ys : Array Value} {m m2 : Nat} {s : Shared} (gp : s.heap.get? p = some { cls := .type "list", data := .seq xs m }) (gq : s.heap.get? q = some { cls := .type "list", data := .seq ys m2 }) (h : xs.size ≠ ys.size)
    (fail : R (.ok (.ret (.bool ne))) s) : wpAny (model prog w) A.in1 ((if ne then Builtin.«list.__ne__» else Builtin.«list.__eq__») ⟨[.ref p, .ref q], []⟩) (GQ.FinOf prog w A R) (fun e s' => R (.error e) s') s := by
  have unl : (xs.size != ys.size) = true := by simpa using h
  have sub := AutoSeq1.sub_list_list
  cases ne with
  | true =>
    obtain ⟨hh, gg, dd, kk, oo⟩ := s
    show wpAny _ _ (Builtin.«list.__ne__» ⟨[.ref p, .ref q], []⟩) _ _ _
    wp_walk using wpAny_loadPart' gp, wpAny_loadPart' gq
    exact fail
  | false =>
    obtain ⟨hh, gg, dd, kk, oo⟩ := s
    show wpAny _ _ (Builtin.«list.__eq__» ⟨[.ref p, .ref q], []⟩) _ _ _
    wp_walk using wpAny_loadPart' gp, wpAny_loadPart' gq
    exact fail
end
end KA
namespace KA
open PySem PySem.SeqAt
open AutoSeq1 (wpAny_loadPart')
open MeetsSeq MeetsSeq2 MeetsSeq3 SeqRoads2
section
variable {prog : Program} {w : World} {A : Around} {R : Result → Shared → Prop}
theorem tupsB (ne : Bool) (p q : Addr) (xs ys : Array Value) (n n2 : Nat) (d1 d2 : Option Addr) (l1 l2 : Array (Option Value)) (J : Nat → Shared → Prop) (F : Shared → Prop)
    (turn : ∀ i (h1 : i < xs.size) (h2 : i < ys.size) s, J i s → wpAny (model prog w) A.in1 (eqBool xs[i] ys[i]) (fun r s' => (r = true → J (i + 1) s') ∧ (r = false → F s')) (fun e s' => R (.error e) s') s)
    (done : ∀ s, J (min xs.size ys.size) s → R (.ok (.ret (.bool (ne ^^ (xs.size == ys.size))))) s) (fail : ∀ s, F s → R (.ok (.ret (.bool ne))) s)
    {s : Shared} (gp : s.heap.get? p = some { cls := .type "tuple", dict := d1, data := .seq xs n, slots := l1 }) (gq : s.heap.get? q = some { cls := .type "tuple", dict := d2, data := .seq ys n2, slots := l2 }) (h : J 0 s) :
    wpAny (model prog w) A.in1 ((if ne then Builtin.«tuple.__ne__» else Builtin.«tuple.__eq__») ⟨[.ref p, .ref q], []⟩) (GQ.FinOf prog w A R) (fun e s' => R (.error e) s') s := by
  have sub := AutoSeq1.sub_tuple_tuple
  have hZ : (xs.toList.zip ys.toList).length = min xs.size ys.size := by simp
  have h0 := h
  have at_ : ∀ {i : Nat} {z : Value × Value} {rest : List (Value × Value)}, z :: rest = (xs.toList.zip ys.toList).drop i → ∃ (h1 : i < xs.size) (h2 : i < ys.size), z = (xs[i], ys[i]) ∧ rest = (xs.toList.zip ys.toList).drop (i + 1) := fun {i z rest} hz => by
    have lt : i < (xs.toList.zip ys.toList).length := by
      rcases Nat.lt_or_ge i (xs.toList.zip ys.toList).length with h' | h'
      · exact h'
      · rw [List.drop_of_length_le h'] at hz
        cases hz
    have h1 : i < xs.size := by omega
    have h2 : i < ys.size := by omega
    rw [List.drop_eq_getElem_cons lt] at hz
    injection hz with e1 e2
    exact ⟨h1, h2, by rw [e1]; simp, e2⟩
  have end_ : ∀ {i : Nat}, ([] : List (Value × Value)) = (xs.toList.zip ys.toList).drop i → i ≤ min xs.size ys.size → i = min xs.size ys.size := fun {i} hz hi => by
    rcases Nat.lt_or_ge i (xs.toList.zip ys.toList).length with h' | h'
    · rw [List.drop_eq_getElem_cons h'] at hz
      cases hz
    · omega
  cases ne with
  | false =>
    obtain ⟨hh, gg, dd, kk, oo⟩ := s
    show wpAny _ _ (Builtin.«tuple.__eq__» ⟨[.ref p, .ref q], []⟩) _ _ _
    wp_walk using wpAny_loadPart' gp, wpAny_loadPart' gq, wpAny_forIn_list _ (fun rest b s' => b.1 = none ∧ ∃ i, rest = (xs.toList.zip ys.toList).drop i ∧ i ≤ min xs.size ys.size ∧ J i s') _
    case turn =>
      rintro ⟨y, x⟩ rest b s' ⟨hb', i, hz, hi, hI⟩
      obtain ⟨h1, h2, e, hrest⟩ := at_ hz
      injection e with e1 e2
      subst e1 e2
      refine wpAny_bind (wpAny_mono (turn i h1 h2 s' hI) (fun r s2 q2 => ?_) fun _ _ x => x)
      cases r with
      | true =>
        wp_walk
        exact ⟨rfl, i + 1, hrest, by omega, q2.1 rfl⟩
      | false =>
        have h3 := fail s2 (q2.2 rfl)
        wp_walk
        exact h3
    case fin =>
      rintro ⟨b1, b2⟩ s' ⟨hb', i, hz, hi, hI⟩
      simp only at hb'
      subst hb'
      have hR := done s' (end_ hz hi ▸ hI)
      wp_walk
      simpa [Builtin.Tuple.tupleCompareSizes] using hR
    case h =>
      exact ⟨rfl, 0, rfl, Nat.zero_le _, h0⟩
  | true =>
    obtain ⟨hh, gg, dd, kk, oo⟩ := s
    show wpAny _ _ (Builtin.«tuple.__ne__» ⟨[.ref p, .ref q], []⟩) _ _ _
    wp_walk using wpAny_loadPart' gp, wpAny_loadPart' gq, wpAny_forIn_list _ (fun rest b s' => b.1 = none ∧ ∃ i, rest = (xs.toList.zip ys.toList).drop i ∧ i ≤ min xs.size ys.size ∧ J i s') _
    case turn =>
      rintro ⟨y, x⟩ rest b s' ⟨hb', i, hz, hi, hI⟩
      obtain ⟨h1, h2, e, hrest⟩ := at_ hz
      injection e with e1 e2
      subst e1 e2
      refine wpAny_bind (wpAny_mono (turn i h1 h2 s' hI) (fun r s2 q2 => ?_) fun _ _ x => x)
      cases r with
      | true =>
        wp_walk
        exact ⟨rfl, i + 1, hrest, by omega, q2.1 rfl⟩
      | false =>
        have h3 := fail s2 (q2.2 rfl)
        wp_walk
        exact h3
    case fin =>
      rintro ⟨b1, b2⟩ s' ⟨hb', i, hz, hi, hI⟩
      simp only at hb'
      subst hb'
      have hR := done s' (end_ hz hi ▸ hI)
      wp_walk
      simpa [Builtin.Tuple.tupleCompareSizes, bne] using hR
    case h =>
      exact ⟨rfl, 0, rfl, Nat.zero_le _, h0⟩
end
section
variable {prog : Program} {w : World} {A : Around} {E : Value → Shared → Prop} {s : Shared}
def opNe (ne : Bool) : CmpOp := if ne then .NotEq else .Eq
theorem rcL {p q : Addr} {N : Nat} {Q : Value → Shared → Prop} (ne : Bool) (hu : A.units < cLine) (J : Nat → Shared → Prop) (F : Shared → Prop) (hJ : LstI prog w A E p q N J F)
    (done : ∀ s, J N s → Q (.bool (!ne)) s) (fail : ∀ s, F s → Q (.bool ne) s) (hs : J 0 s) : wpAny (model prog w) A (richCompare (opNe ne) (.ref p) (.ref q)) Q E s := by
  obtain ⟨xs, ys, m, m2, gp, gq, _, _, _⟩ := hJ _ _ hs
  cases ne with
  | false =>
    refine wpAny_richCompare_same_room (op := .Eq) ⟨_, gp, rfl⟩ ⟨_, gq, rfl⟩ PySem.F.slot_list_eq (GQ.call_here PySem.F.slot_list_eq ⟨_, gp, rfl⟩ PySem.F.entry_list_eq (PySem.F.args_list_eq_2 _ _) ?_) hu
    exact listsB (R := wants (fun v s' => v ≠ .notImplemented ∧ Q v s') E) false true rfl p q N J F hJ (fun s' z => ⟨(fun x => nomatch x), done s' z⟩) (fun s' z => ⟨(fun x => nomatch x), fail s' z⟩) hs
  | true =>
    refine wpAny_richCompare_same_room (op := .NotEq) ⟨_, gp, rfl⟩ ⟨_, gq, rfl⟩ PySem.F.slot_list_ne (GQ.call_here PySem.F.slot_list_ne ⟨_, gp, rfl⟩ PySem.F.entry_list_ne (PySem.F.args_list_ne_2 _ _) ?_) hu
    exact listsB (R := wants (fun v s' => v ≠ .notImplemented ∧ Q v s') E) true false rfl p q N J F hJ (fun s' z => ⟨(fun x => nomatch x), done s' z⟩) (fun s' z => ⟨(fun x => nomatch x), fail s' z⟩) hs
theorem rcN {p q : Addr} {xs ys : Array Value} {m m2 : Nat} {Q : Value → Shared → Prop} (ne : Bool) (hu : A.units < cLine) (gp : s.heap.get? p = some { cls := .type "list", data := .seq xs m }) (gq : s.heap.get? q = some { cls := .type "list", data := .seq ys m2 }) (h : xs.size ≠ ys.size)
    (fail : Q (.bool ne) s) : wpAny (model prog w) A (richCompare (opNe ne) (.ref p) (.ref q)) Q E s := by
  cases ne with
  | false =>
    refine wpAny_richCompare_same_room (op := .Eq) ⟨_, gp, rfl⟩ ⟨_, gq, rfl⟩ PySem.F.slot_list_eq (GQ.call_here PySem.F.slot_list_eq ⟨_, gp, rfl⟩ PySem.F.entry_list_eq (PySem.F.args_list_eq_2 _ _) ?_) hu
    exact listsN (R := wants (fun v s' => v ≠ .notImplemented ∧ Q v s') E) false p q gp gq h ⟨(fun x => nomatch x), fail⟩
  | true =>
    refine wpAny_richCompare_same_room (op := .NotEq) ⟨_, gp, rfl⟩ ⟨_, gq, rfl⟩ PySem.F.slot_list_ne (GQ.call_here PySem.F.slot_list_ne ⟨_, gp, rfl⟩ PySem.F.entry_list_ne (PySem.F.args_list_ne_2 _ _) ?_) hu
    exact listsN (R := wants (fun v s' => v ≠ .notImplemented ∧ Q v s') E) true p q gp gq h ⟨(fun x => nomatch x), fail⟩
theorem rcT {p q : Addr} {xs ys : Array Value} {Q : Value → Shared → Prop} (ne : Bool) (hu : A.units < cLine) (J : Nat → Shared → Prop) (F : Shared → Prop) (hl : s.heap.IsTuple p xs) (hb : s.heap.IsTuple q ys)
    (turn : ∀ i (h1 : i < xs.size) (h2 : i < ys.size) s, J i s → wpAny (model prog w) A.in1 (eqBool xs[i] ys[i]) (fun r s' => (r = true → J (i + 1) s') ∧ (r = false → F s')) E s)
    (done : ∀ s, J (min xs.size ys.size) s → Q (.bool (ne ^^ (xs.size == ys.size))) s) (fail : ∀ s, F s → Q (.bool ne) s) (h : J 0 s) : wpAny (model prog w) A (richCompare (opNe ne) (.ref p) (.ref q)) Q E s := by
  obtain ⟨⟨cls, dd, data, sl⟩, ho, hc, n, hd⟩ := id hl
  obtain ⟨⟨cls2, dd2, data2, sl2⟩, ho2, hc2, n2, hd2⟩ := id hb
  simp only at hc hd hc2 hd2
  subst hc hd hc2 hd2
  cases ne with
  | false =>
    refine wpAny_richCompare_same_room (op := .Eq) ⟨_, ho, rfl⟩ ⟨_, ho2, rfl⟩ PySem.F.slot_tuple_eq (GQ.call_here PySem.F.slot_tuple_eq ⟨_, ho, rfl⟩ PySem.F.entry_tuple_eq (PySem.F.args_tuple_eq_2 _ _) ?_) hu
    exact tupsB (R := wants (fun v s' => v ≠ .notImplemented ∧ Q v s') E) false p q xs ys n n2 dd dd2 sl sl2 J F turn (fun s' z => ⟨(fun x => nomatch x), done s' z⟩) (fun s' z => ⟨(fun x => nomatch x), fail s' z⟩) ho ho2 h
  | true =>
    refine wpAny_richCompare_same_room (op := .NotEq) ⟨_, ho, rfl⟩ ⟨_, ho2, rfl⟩ PySem.F.slot_tuple_ne (GQ.call_here PySem.F.slot_tuple_ne ⟨_, ho, rfl⟩ PySem.F.entry_tuple_ne (PySem.F.args_tuple_ne_2 _ _) ?_) hu
    exact tupsB (R := wants (fun v s' => v ≠ .notImplemented ∧ Q v s') E) true p q xs ys n n2 dd dd2 sl sl2 J F turn (fun s' z => ⟨(fun x => nomatch x), done s' z⟩) (fun s' z => ⟨(fun x => nomatch x), fail s' z⟩) ho ho2 h
end
end KA
namespace KA
open PySem PySem.Spec PyProof.Rows L2
/-- two values, and what == tells of them -/
abbrev BEq2 := V → V → Bool → Hp → Prop
def MonB (D : BEq2) : Prop := ∀ x y b H H', Ext H H' → D x y b H → D x y b H'
def EqB (X : Cx) (n : Nat) (D : BEq2) : Prop :=
  ∀ (A : Around) (pins : List (Addr × Obj)) (s : Shared) (σ : L2.St) (H : Hp) (x y : V) (u v : Value) (b : Bool), Sub X n A → L2.Inv X pins σ H s → RelV x u → RelV y v → D x y b H →
    wpAny (model X.prog X.w) A (eqBool u v) (fun r s' => r = b ∧ ∃ H', L2.Inv X pins σ H' s' ∧ Ext H H') X.xe s
def RcB (X : Cx) (n : Nat) (ne : Bool) (D : BEq2) : Prop :=
  ∀ (A : Around) (pins : List (Addr × Obj)) (s : Shared) (σ : L2.St) (H : Hp) (x y : V) (u v : Value) (b : Bool), Sub X n A → L2.Inv X pins σ H s → RelV x u → RelV y v → D x y b H →
    wpAny (model X.prog X.w) A (richCompare (opNe ne) u v) (fun r s' => r = .bool (ne ^^ b) ∧ ∃ H', L2.Inv X pins σ H' s' ∧ Ext H H') X.xe s
section
variable {X : Cx} {n m : Nat} {D D' : BEq2}
theorem EqB.mono (h : EqB X n D) (hn : n ≤ m) : EqB X m D := fun A pins s σ H x y u v b sb => h A pins s σ H x y u v b (sb.mono hn)
theorem EqB.or (h : EqB X n D) (h' : EqB X n D') : EqB X n (fun x y b H => D x y b H ∨ D' x y b H) := fun A pins s σ H x y u v b sb I rx ry d => d.elim (fun d => h A pins s σ H x y u v b sb I rx ry d) (fun d => h' A pins s σ H x y u v b sb I rx ry d)
theorem MonB.or (h : MonB D) (h' : MonB D') : MonB (fun x y b H => D x y b H ∨ D' x y b H) := fun x y b H H' e d => d.elim (fun d => .inl (h x y b H H' e d)) fun d => .inr (h' x y b H H' e d)
/-- flat values -/
def BFlat : BEq2 := fun x y b _ => flatV x = true ∧ flatV y = true ∧ eqV x y = b
theorem monB_flat : MonB BFlat := fun _ _ _ _ _ _ d => d
theorem eqB_flat : EqB X 0 BFlat := by
  intro A pins s σ H x y u v b sb I rx ry d
  obtain ⟨fx, fy, e⟩ := d
  have q := eqAt_V (A := A) (s := s) rx ry fx fy
  rw [e] at q
  exact q X.prog X.w X.xe _ ⟨rfl, H, I, Ext.rfl'⟩
/-- item by item, as far as both go -/
def PrsB (D : BEq2) (xs ys : List V) (f : Nat → Bool) (H : Hp) : Prop := ∀ (i : Nat) x y, xs[i]? = some x → ys[i]? = some y → D x y (f i) H
theorem turnB (hD : MonB D) (h : EqB X n D) {A : Around} (sb : Sub X (n + 1) A) {pins : List (Addr × Obj)} {σ : L2.St} {H : Hp} {xs ys : List V} {its its2 : List Value} {f : Nat → Bool} (p : PrsB D xs ys f H) (r : Vals xs its) (r2 : Vals ys its2)
    (i : Nat) (h1 : i < its.toArray.size) (h2 : i < its2.toArray.size) (s' : Shared) (l : LoopI X pins σ H s') :
    wpAny (model X.prog X.w) A.in1 (eqBool its.toArray[i] its2.toArray[i]) (fun r s2 => r = f i ∧ LoopI X pins σ H s2) X.xe s' := by
  obtain ⟨H1, I1, e1⟩ := l
  have l1 : i < its.length := by simpa using h1
  have l2 : i < its2.length := by simpa using h2
  have k1 : i < xs.length := by rw [r.length]; exact l1
  have k2 : i < ys.length := by rw [r2.length]; exact l2
  obtain ⟨u, hu, ru⟩ := r.get (List.getElem?_eq_getElem k1)
  obtain ⟨v, hv, rv⟩ := r2.get (List.getElem?_eq_getElem k2)
  have g1 : its.toArray[i] = u := by
    rw [List.getElem?_eq_getElem l1] at hu
    simpa using Option.some.inj hu
  have g2 : its2.toArray[i] = v := by
    rw [List.getElem?_eq_getElem l2] at hv
    simpa using Option.some.inj hv
  rw [g1, g2]
  refine wpAny_mono (h A.in1 pins s' σ H1 _ _ u v _ sb.in1 I1 ru rv (hD _ _ _ _ _ e1 (p i _ _ (List.getElem?_eq_getElem k1) (List.getElem?_eq_getElem k2)))) (fun r s2 q => ?_) fun _ _ x => x
  obtain ⟨hr, H2, I2, e2⟩ := q
  exact ⟨hr, H2, I2, e1.trans e2⟩
def allF (N : Nat) (f : Nat → Bool) : Bool := (List.range N).all f
theorem allF_true {N : Nat} {f : Nat → Bool} (h : ∀ j, j < N → f j = true) : allF N f = true := by
  unfold allF
  rw [List.all_eq_true]
  exact fun j hj => h j (List.mem_range.mp hj)
theorem allF_false {N j : Nat} {f : Nat → Bool} (h : j < N) (e : f j = false) : allF N f = false := by
  unfold allF
  rw [List.all_eq_false]
  exact ⟨j, List.mem_range.mpr h, by rw [e]; exact Bool.false_ne_true⟩
def BList (D : BEq2) : BEq2 := fun x y b H => ∃ (p q : Addr) (xs ys : List V) (f : Nat → Bool), x = .ref p ∧ y = .ref q ∧ H p = some (.lst xs) ∧ H q = some (.lst ys) ∧ (xs.length = ys.length → PrsB D xs ys f H) ∧ b = (decide (xs.length = ys.length) && allF xs.length f)
def BTup (K : PySem.W.Frag) (D : BEq2) : BEq2 := fun x y b H => ∃ (p q : Addr) (xs ys : List V) (f : Nat → Bool), x = .ref p ∧ y = .ref q ∧ SqT K H p xs ∧ SqT K H q ys ∧ PrsB D xs ys f H ∧ b = (decide (xs.length = ys.length) && allF xs.length f)
theorem PrsB.mon (hD : MonB D) {xs ys : List V} {f : Nat → Bool} {H H' : Hp} (e : Ext H H') (p : PrsB D xs ys f H) : PrsB D xs ys f H' := fun i x y h1 h2 => hD x y _ H H' e (p i x y h1 h2)
theorem monB_list (hD : MonB D) : MonB (BList D) := fun x y b H H' e d => by
  obtain ⟨p, q, xs, ys, f, hx, hy, h1, h2, pr, hb⟩ := d
  exact ⟨p, q, xs, ys, f, hx, hy, e _ _ h1, e _ _ h2, fun z => (pr z).mon hD e, hb⟩
theorem monB_tup {K : PySem.W.Frag} (hD : MonB D) : MonB (BTup K D) := fun x y b H H' e d => by
  obtain ⟨p, q, xs, ys, f, hx, hy, h1, h2, pr, hb⟩ := d
  exact ⟨p, q, xs, ys, f, hx, hy, h1.ext e, h2.ext e, pr.mon hD e, hb⟩
theorem rcB_list (ne : Bool) (hD : MonB D) (h : EqB X n D) : RcB X (n + 1) ne (BList D) := by
  intro A pins s σ H x y u v b sb I rx ry d
  obtain ⟨p, q, xs, ys, f, rfl, rfl, hp, hq, pr, rfl⟩ := d
  cases rx
  cases ry
  by_cases hl : xs.length = ys.length
  · have pr := pr hl
    have look : ∀ s', LoopI X pins σ H s' → ∃ (as bs : List Value) (m m2 : Nat), Vals xs as ∧ Vals ys bs ∧ s'.heap.get? p = some { cls := .type "list", data := .seq as.toArray m } ∧ s'.heap.get? q = some { cls := .type "list", data := .seq bs.toArray m2 } ∧ as.toArray.size = xs.length ∧ bs.toArray.size = xs.length := fun s' z => by
      obtain ⟨H1, I1, e1⟩ := id z
      obtain ⟨_, its, k, r, e⟩ := I1.hok p _ (e1 _ _ hp)
      obtain ⟨_, its2, k2, r2, e2⟩ := I1.hok q _ (e1 _ _ hq)
      exact ⟨its, its2, k, k2, r, r2, e, e2, by rw [List.size_toArray, ← r.length], by rw [List.size_toArray, ← r2.length, hl]⟩
    refine rcL (N := xs.length) ne sb.room.units0 (fun i s' => LoopI X pins σ H s' ∧ ∀ j, j < i → f j = true) (fun s' => LoopI X pins σ H s' ∧ ∃ j, j < xs.length ∧ f j = false) (fun i s' z => ?_) (fun s' z => ?_) (fun s' z => ?_) ⟨⟨H, I, Ext.rfl'⟩, fun j hj => absurd hj (Nat.not_lt_zero _)⟩
    · obtain ⟨z, hf⟩ := z
      obtain ⟨as, bs, k, k2, r, r2, e, e2, z1, z2⟩ := look s' z
      refine ⟨_, _, k, k2, e, e2, z1, z2, fun g1 g2 => wpAny_mono (turnB hD h sb pr r r2 i g1 g2 s' z) (fun r s2 q2 => ?_) fun _ _ x => x⟩
      obtain ⟨rfl, q2⟩ := q2
      refine ⟨fun t => ⟨q2, fun j hj => ?_⟩, fun t => ⟨⟨q2, i, by omega, t⟩, ?_⟩⟩
      · by_cases hji : j = i
        · rw [hji]; exact t
        · exact hf j (by omega)
      · obtain ⟨as, bs, k, k2, r, r2, e, e2, z1, z2⟩ := look s2 q2
        exact ⟨_, _, k, k2, e, e2, z1, z2⟩
    · obtain ⟨⟨H1, z⟩, hf⟩ := z
      refine ⟨?_, H1, z⟩
      rw [decide_eq_true hl, allF_true hf]
      cases ne <;> rfl
    · obtain ⟨⟨H1, z⟩, j, hj, e⟩ := z
      refine ⟨?_, H1, z⟩
      rw [allF_false hj e, Bool.and_false, Bool.xor_false]
  · obtain ⟨_, its, k, r, e⟩ := I.hok p _ hp
    obtain ⟨_, its2, k2, r2, e2⟩ := I.hok q _ hq
    refine rcN ne sb.room.units0 e e2 (by rw [List.size_toArray, List.size_toArray, ← r.length, ← r2.length]; exact hl) ⟨?_, H, I, Ext.rfl'⟩
    rw [decide_eq_false hl, Bool.false_and, Bool.xor_false]
theorem rcB_tup (ne : Bool) (hD : MonB D) (h : EqB X n D) : RcB X (n + 1) ne (BTup X.K D) := by
  intro A pins s σ H x y u v b sb I rx ry d
  obtain ⟨p, q, xs, ys, f, rfl, rfl, hp, hq, pr, rfl⟩ := d
  cases rx
  cases ry
  obtain ⟨its, r, e, z⟩ := I.tuple hp
  obtain ⟨its2, r2, e2, z2⟩ := I.tuple hq
  have w1 : its.toArray.size = xs.length := by rw [List.size_toArray, ← r.length]
  have w2 : its2.toArray.size = ys.length := by rw [List.size_toArray, ← r2.length]
  refine rcT ne sb.room.units0 (fun i s' => LoopI X pins σ H s' ∧ ∀ j, j < i → f j = true) (fun s' => LoopI X pins σ H s' ∧ ∃ j, j < xs.length ∧ f j = false) e e2 (fun i g1 g2 s' z => ?_) (fun s' z => ?_) (fun s' z => ?_) ⟨⟨H, I, Ext.rfl'⟩, fun j hj => absurd hj (Nat.not_lt_zero _)⟩
  · obtain ⟨z, hf⟩ := z
    refine wpAny_mono (turnB hD h sb pr r r2 i g1 g2 s' z) (fun r s2 q2 => ?_) fun _ _ x => x
    obtain ⟨rfl, q2⟩ := q2
    refine ⟨fun t => ⟨q2, fun j hj => ?_⟩, fun t => ⟨q2, i, by omega, t⟩⟩
    by_cases hji : j = i
    · rw [hji]; exact t
    · exact hf j (by omega)
  · obtain ⟨⟨H1, z⟩, hf⟩ := z
    refine ⟨?_, H1, z⟩
    rw [w1, w2] at hf ⊢
    by_cases hl : xs.length = ys.length
    · rw [decide_eq_true hl, allF_true (fun j hj => hf j (by omega)), hl]
      simp
    · rw [decide_eq_false hl]
      have : (xs.length == ys.length) = false := by simpa using hl
      rw [this]
      rfl
  · obtain ⟨⟨H1, z⟩, j, hj, e⟩ := z
    refine ⟨?_, H1, z⟩
    rw [allF_false hj e, Bool.and_false, Bool.xor_false]
/-- x == y, x != y as expressions -/
def rEqB (ne : Bool) (D : BEq2) : R2 := fun x y H Q => ∃ b, D x y b H ∧ ∀ H', Ext H H' → Q (.bl (ne ^^ b)) H'
theorem op_eqB (h : RcB X n false D) (hr : Room n X.A) : OpR X (compareOp .Eq) (rEqB false D) := by
  intro pins s σ H x y v u Q I rx ry hq
  obtain ⟨b, d, q⟩ := hq
  show wpAny (model X.prog X.w) X.A (richCompare .Eq v u) (EP X pins σ Q) X.xe s
  refine wpAny_mono (h X.A pins s σ H x y v u b ⟨hr, rfl⟩ I rx ry d) (fun r s' z => ?_) fun _ _ x => x
  obtain ⟨rfl, H', I', e⟩ := z
  exact ⟨.bl _, H', I', rfl, q H' e⟩
theorem op_neB (h : RcB X n true D) (hr : Room n X.A) : OpR X (compareOp .NotEq) (rEqB true D) := by
  intro pins s σ H x y v u Q I rx ry hq
  obtain ⟨b, d, q⟩ := hq
  show wpAny (model X.prog X.w) X.A (richCompare .NotEq v u) (EP X pins σ Q) X.xe s
  refine wpAny_mono (h X.A pins s σ H x y v u b ⟨hr, rfl⟩ I rx ry d) (fun r s' z => ?_) fun _ _ x => x
  obtain ⟨rfl, H', I', e⟩ := z
  exact ⟨.bl _, H', I', rfl, q H' e⟩
end
end KA
namespace KA
open PySem PySem.Spec PyProof.Rows L2
section
variable {X : Cx} {a b : Expr} {ta tb : TE} {rest : List Expr} {pos : Pos} {K' : PySem.W.Frag}
/-- the truth of a value, of an instance of an own class without __bool__ and __len__, too -/
def TruW (K : PySem.W.Frag) (x : V) (H : Hp) (k : Bool) : Prop := TruV K x H k ∨ ∃ (a C dx : Addr) (fs : List (Str × V)), x = .ref a ∧ H a = some (.ins C dx fs) ∧ PySem.W.findIn K (.ref C) "__bool__" = some none ∧ PySem.W.findIn K (.ref C) "__len__" = some none ∧ k = true
theorem truW_ok : TruR X (fun x H Q => ∃ k, TruW X.K x H k ∧ Q k H) := by
  intro pins s σ H x v Q I rx h
  obtain ⟨k, h | ⟨a, C, dx, fs, rfl, ha, hb, hl, rfl⟩, q⟩ := h
  · exact tru_ok pins s σ H x v Q I rx ⟨k, h, q⟩
  · cases rx
    obtain ⟨mA, J, _⟩ := ins_get I.hok ha
    obtain ⟨od, J, _⟩ := J.look
    obtain ⟨m, hF⟩ := I.fr
    exact PySem.W.truthy_K0 hF I.ok.mod.kin J hb hl ⟨H, I, q⟩
def tAndW (K : PySem.W.Frag) (ta tb : TE) : TE := fun σ H Q => ta σ H fun x H1 => ∃ k, TruW K x H1 k ∧ if k = true then tb σ H1 Q else Q x H1
theorem pe_andW (hK : X.K = K') (ha : PE X a ta) (hb : PE X (.BoolOp .And (b :: rest) pos) tb) : PE X (.BoolOp .And (a :: b :: rest) pos) (tAndW K' ta tb) := by
  subst hK
  refine ⟨fun pins s σ H Q I h => ?_⟩
  refine BoolOp_and (thn (ha.run pins s σ H _ I h) fun v s1 ⟨x, H1, I1, r1, k, e, q1⟩ => ?_)
  refine thn (truW_ok pins s1 σ H1 x v (fun c H2 => c = k ∧ H2 = H1) I1 r1 ⟨k, e, rfl, rfl⟩) fun c s2 ⟨H2, I2, e1, e2⟩ => ?_
  subst e2 e1
  cases c with
  | true => exact hb.run pins s2 σ H2 Q I2 q1
  | false => exact ⟨x, H2, I2, r1, q1⟩
theorem op_catAK (hK : X.K = K') : OpR X (binaryOp .Add) (rCatA K') := by
  subst hK
  exact op_catA
end
end KA
namespace KA
open PySem PySem.Spec PyProof.Rows L2
theorem cut_full {xs : List V} {lo hi : Option Int} (h : HT.sIx xs.length 0 lo = 0 ∧ HT.sIx xs.length xs.length hi = xs.length) : cutV xs lo hi = xs := by
  unfold cutV
  rw [h.1, h.2, List.drop_zero, Nat.sub_zero, List.take_of_length_le (Nat.le_refl _)]
/-- a part of a tuple, whichever -/
theorem sla_of {K : PySem.W.Frag} {a : Addr} {xs : List V} {lo hi : Option Int} {H : Hp} {Q : VK} (ha : H a = some (.tup xs)) (q : ∀ (H' : Hp) (p : Addr), Same H H' → H' p = some (.tup (cutV xs lo hi)) → Q (.ref p) H') : rSlA K (.ref a) lo hi H Q := by
  refine ⟨a, xs, rfl, .inl (.inl ha), fun h => q H a (Same.refl _) (by rw [cut_full h]; exact ha), fun _ p hp => q _ p (same_upd hp) upd_same⟩
/-- two tuples put together, whichever -/
theorem cata_of {K : PySem.W.Frag} {a b : Addr} {xs ys : List V} {H : Hp} {Q : VK} (ha : H a = some (.tup xs)) (hb : H b = some (.tup ys)) (hl : xs.length + ys.length ≤ sizeLine) (q : ∀ (H' : Hp) (p : Addr), Same H H' → H' p = some (.tup (xs ++ ys)) → Q (.ref p) H') : rCatA K (.ref a) (.ref b) H Q := by
  refine ⟨a, b, xs, ys, rfl, rfl, .inl (.inl ha), .inl (.inl hb), hl, fun h => ?_, fun _ h => ?_, fun _ _ p hp => q _ p (same_upd hp) upd_same⟩
  · subst h
    exact q H b (Same.refl _) hb
  · subst h
    exact q H a (Same.refl _) (by rw [List.append_nil]; exact ha)
end KA
namespace KA
open PySem PySem.Spec PyProof.Rows L2
section
variable {X : Cx} {K' : PySem.W.Frag} {o e : Expr} {es : List Expr} {to : TE} {t : TA} {name : Str} {apos cpos : Pos} {T id : String} {r : V → List V → Hp → VK → Prop}
/-! methods and len within a block, the written part by its own name -/
theorem pe_bm0K (hK : X.K = K') (pa : PlainAttrs T) (slot : Slot T name id) (hty : typeOf (.builtin id) = pure (.type "method_descriptor")) (hm : MtR X id r) (ho : PE X o to)
    (hbase : attributeBase o name X.env (eval o X.env) = eval o X.env := by rfl) (hline : (apos.endLine == cpos.line) = true := by rfl) : PE X (.Call (.Attribute o name apos) [] [] cpos) (tBM0 K' T r to) := by
  subst hK
  exact pe_bm0 pa slot hty hm ho hbase hline
theorem pe_bmK (hK : X.K = K') (pa : PlainAttrs T) (slot : Slot T name id) (hty : typeOf (.builtin id) = pure (.type "method_descriptor")) (hm : MtR X id r) (ho : PE X o to) (ha : PA X (e :: es) t)
    (hbase : attributeBase o name X.env (eval o X.env) = eval o X.env := by rfl)
    (hfew : ((backTo cpos (starEach (e :: es) X.env)).all (fun x => !x.1) && (backToKw cpos (keywordEach [] X.env)).all (fun x => x.1.isSome)
      && decide ((e :: es).length + ([] : List Keyword).length + (if ([] : List Keyword).isEmpty then 0 else 1) < 30)) = true := by rfl)
    (hline : (apos.endLine == cpos.line) = true := by rfl) (hs : starEach (e :: es) X.env = (false, eval e X.env) :: starEach es X.env := by rfl) (hplain : (backTo cpos (starEach es X.env)).any (·.1) = false := by rfl) :
    PE X (.Call (.Attribute o name apos) (e :: es) [] cpos) (tBM K' T r to t) := by
  subst hK
  exact pe_bm pa slot hty hm ho ha hbase hfew hline hs hplain
def rLenK (K : PySem.W.Frag) : List V → Hp → VK → Prop := fun xs H Q => ∃ p ys, xs = [.ref p] ∧ (SqL K H p ys ∨ SqT K H p ys) ∧ Q (.int (ys.length : Nat)) H
theorem call_len_seqK (hK : X.K = K') : CallR X (.builtin "len") (rLenK K') := by
  subst hK
  exact call_len_seq
theorem call_list_ofK (hK : X.K = K') : CallR X (.type "list") (fun xs H Q => ∃ p ys, xs = [.ref p] ∧ (SqL K' H p ys ∨ SqT K' H p ys) ∧ ∀ l, H l = none → Q (.ref l) (upd H l (.lst ys))) := by
  subst hK
  exact call_list_of
end
end KA
namespace KA
open PySem PySem.Spec PyProof.Rows L2
/-! enumerate over a tuple -/
theorem meets_enumT {v : Value} {o1 : Obj} {P1 : Heap → Prop} (Bg : Begins v o1 P1) :
    Meets (Builtin.«enumerate.__new__» ⟨[.type "enumerate", v], []⟩) (fun _ R s0 => P1 s0.heap ∧
      R (.ok (.ret (.ref (s0.heap.push o1).objs.size))) { s0 with heap := (s0.heap.push o1).push { cls := .type "enumerate", data := .fields #[.none, .bool false, .ref s0.heap.objs.size, rawInt 0, .none, .none] } }) :=
  .of_wp fun prog w A R s0 hyp => by
    obtain ⟨hp, gg, dd, tk, os⟩ := s0
    obtain ⟨hb, fin⟩ := hyp
    have hsub := sub_enumerate
    have go : ∀ {A' : Around} {E : Value → Shared → Prop} {Q : Value → Shared → Prop}, Q (.ref hp.objs.size) ⟨hp.push o1, gg, dd, tk, os⟩ → wpAny (model prog w) A' (pyIter v) Q E ⟨hp, gg, dd, tk, os⟩ := fun z => Bg.iter prog w _ _ ⟨hp, gg, dd, tk, os⟩ _ hb z
    wp_walk using go
    refine wpAny_stack_any fun _ => wpAny_pure ?_
    split
    · rename_i c _ _ _ _ _
      cases (c == Value.type "enumerate") <;> (wp_walk using go; exact ⟨_, rfl, fin⟩)
    · wp_walk using go
      exact ⟨_, rfl, fin⟩
section
variable {prog : Program} {w : World} {A : Around} {E : Value → Shared → Prop} {s : Shared}
theorem call_enumT {v : Value} {o1 : Obj} {P1 : Heap → Prop} {Q : Value → Shared → Prop} (Bg : Begins v o1 P1) (hb : P1 s.heap)
    (fin : ∀ g, IsEnum g (s.heap.objs.size + 1) s.heap.objs.size 0 .none → g.get? s.heap.objs.size = some o1 → (∀ b ob, s.heap.get? b = some ob → g.get? b = some ob) → Q (.ref (s.heap.objs.size + 1)) { s with heap := g }) :
    wpAny (model prog w) A (call (.type "enumerate") [v]) Q E s := by
  refine callType_new F.called_enumerate (by decide) (F.typeCall_enumerate_1 _) (F.newCall_enumerate_1 _) (fun ob => F.args_object_init_2 ob _) F.entry_enumerate_new (meets_enumT Bg) ⟨hb, ?_⟩
  have sz1 : (s.heap.push o1).objs.size = s.heap.objs.size + 1 := Heap.size_push ..
  show _ ∧ _
  rw [sz1]
  have isE : IsEnum ((s.heap.push o1).push { cls := .type "enumerate", data := .fields #[.none, .bool false, .ref s.heap.objs.size, rawInt 0, .none, .none] }) (s.heap.objs.size + 1) s.heap.objs.size 0 .none := by
    have z := Heap.get?_push_size (s.heap.push o1) (o := { cls := .type "enumerate", data := .fields #[.none, .bool false, .ref s.heap.objs.size, rawInt 0, .none, .none] }) rfl
    rwa [sz1] at z
  exact ⟨⟨_, isE, rfl⟩, fin _ isE (Heap.get?_push_of_some _ (Heap.get?_push_size _ Bg.free)) fun b ob z => Heap.get?_push_of_some _ (Heap.get?_push_of_some _ z)⟩
theorem enumT_end {en it a : Addr} {i : Nat} {its : List Value} {old : Value} {Q : Option Value → Shared → Prop} (nh : A.handled = none) (isE : IsEnum s.heap en it i old) (isT : s.heap.IsTupleIter it a i) (tp : s.heap.IsTuple a its.toArray) (le : its.length ≤ i)
    (fin : ∀ g, Heap.ExtBut it s.heap g → Q none { s with heap := g }) : wpAny (model prog w) A (pyNext (.ref en)) Q E s := by
  have ty : s.TypeIs (.ref en) "enumerate" := ⟨_, isE, rfl⟩
  unfold pyNext
  refine wpAny_bind (wpAny_attempt (wpAny_callSpecial?_slot (name := Str.ofString "__next__") ty F.slot_enumerate_next (wpAny_call_entry F.slot_enumerate_next ty F.entry_enumerate_next ?_ (F.args_enumerate_next_1 _))))
  show wpAny _ _ (field (.ref en) 2 >>= _) _ _ _
  refine wpAny_bind (wpAny_field isE rfl (x := .ref it) rfl (wpAny_bind (wpAny_nextOf_tuple_end nh isT tp (by simp; omega) fun g z eb ⟨o, ho, co⟩ => ?_)))
  exact wpAny_bind (wpAny_isInstance (T := "StopIteration") (b := true) ⟨o, ho, co⟩ isSubtype_stop (wpAny_pure (fin _ eb)))
end
/-- the tuple at a, each item in a new pair -/
def IteT (K : PySem.W.Frag) (a : Addr) : It :=
  ⟨fun i H => ∃ (xs : List V) (x : V), SqT K H a xs ∧ xs[i]? = some x, fun i H v G => ∃ T x, v = .ref T ∧ H T = none ∧ G = upd H T (.tup [.int (i : Nat), x]) ∧ ∀ xs, SqT K H a xs → xs[i]? = some x, fun i H => ∃ xs : List V, SqT K H a xs ∧ xs.length ≤ i⟩
theorem tup_no_iter {h : Heap} {a it : Addr} {i : Nat} {b : Addr} {its : Array Value} (hi : h.IsTupleIter it b i) (ht : h.IsTuple a its) : a ≠ it := fun e => by
  obtain ⟨o, h1, c1, _⟩ := hi
  obtain ⟨o', h2, c2, _⟩ := ht
  rw [e] at h2
  rw [Option.some.inj (h1.symm.trans h2)] at c1
  exact absurd (c1.symm.trans c2) (by decide)
theorem tup_no_enum {h : Heap} {a en it : Addr} {i : Int} {old : Value} {its : Array Value} (hi : IsEnum h en it i old) (ht : h.IsTuple a its) : en ≠ a := fun e => by
  obtain ⟨o', h2, c2, _⟩ := ht
  have h1 : h.get? en = _ := hi
  rw [← e] at h2
  rw [← Option.some.inj (h1.symm.trans h2)] at c2
  exact absurd (show Value.type "enumerate" = Value.type "tuple" from c2) (by decide)
theorem turn_enumT {P : Program} {w : World} {K : PySem.W.Frag} {elts : List Expr} {kk : Nat} {tp : Pos} (a en it : Addr) :
    Turn P w K (.Tuple elts kk tp) (IteT K a) [en, it] en (fun i h => (∃ old, IsEnum h en it ((i : Nat) : Int) old) ∧ h.IsTupleIter it a i ∧ en ≠ it) where
  mem := by simp
  obj := fun i h st b hb => by
    obtain ⟨⟨old, isE⟩, ⟨o, ho, _, dt⟩, _⟩ := st
    rcases (show b = en ∨ b = it by simpa using hb) with rfl | rfl
    · exact ⟨_, isE, fun v z => nomatch z⟩
    · exact ⟨o, ho, fun v z => by rw [dt] at z; cases z⟩
  keep := fun i h g st k => by
    obtain ⟨⟨old, isE⟩, isT, ne⟩ := st
    exact ⟨⟨old, k en (by simp) _ isE⟩, isT.at fun o z => k it (by simp) o z, ne⟩
  item := by
    intro X eP ew eK cm i pins s σ H E I fp st go
    subst eP ew eK
    obtain ⟨⟨old, isE⟩, isT, ne⟩ := st
    obtain ⟨xs, x, sq, hx⟩ := go
    obtain ⟨its, rv, tp', hz⟩ := I.tuple sq
    have tp' : s.heap.IsTuple a its.toArray := tp'
    obtain ⟨u, hu, ru⟩ := rv.get hx
    have lte : en < s.heap.objs.size := Heap.lt_size isE
    have lti : it < s.heap.objs.size := by
      obtain ⟨_, z, _⟩ := isT
      exact Heap.lt_size z
    have dr := Draws.tuple (prog := X.prog) (w := X.w) (A := X.A.in1) (show X.A.in1.handled = none from I.ok.hd cm) it a (tup_no_iter isT tp') its.toArray
    have iLt : i < its.toArray.size := by
      have := (List.getElem?_eq_some_iff.mp hu).1
      simpa using this
    refine wpAny_pyNext_enum_itemD dr isE ⟨isT, tp'⟩ iLt ne (by simp [ne, tup_no_enum isE tp']) fun y g tk py isO st' newT szg kp => ?_
    have ey : y = u := by
      have py : its.toArray[i]? = some y := py
      have : its[i]? = some y := by simpa using py
      exact Option.some.inj (this.symm.trans hu)
    subst ey
    refine ⟨_, rfl, wpAny_letOwnedTupleGo_enum (s := { s with heap := g, toks := tk + 1 }) isO fun g2 isE2 sb => ?_⟩
    have newT2 : g2.get? s.heap.objs.size = some { cls := .type "tuple", data := .seq #[.int i tk, y] } := (sb.2 _ (Nat.ne_of_gt lte)).trans newT
    have okT : ObjOk X.prog X.w (upd H s.heap.objs.size (.tup [.int (i : Nat), x])) g2 s.heap.objs.size (.tup [.int (i : Nat), x]) :=
      ⟨by show 2 ≤ sizeLine; decide, [.int i tk, y], .cons ⟨_, rfl⟩ (.cons ru .nil), ⟨_, newT2, rfl, _, rfl⟩⟩
    have J : Inv X pins σ (upd H s.heap.objs.size (.tup [.int (i : Nat), x])) { s with heap := g2, toks := tk + 1 } :=
      I.turnedNew (ch := [en, it]) (fun b ob nb z => (sb.2 b (fun q => nb (by simp [q]))).trans (kp b ob (fun q => nb (by simp [q])) (fun q => nb (by simp [q])) z)) fp (Nat.le_refl _) okT
    refine ⟨.ref s.heap.objs.size, _, J, rfl, ⟨_, x, rfl, I.hok.fresh (Nat.le_refl _), rfl, fun ys hy => by rw [I.tuple_inj hy sq]; exact hx⟩, ⟨⟨y, ?_⟩, st'.1.at fun o z => (sb.2 it (Ne.symm ne)).trans z, ne⟩, fun b hb => ?_⟩
    · rw [show ((i + 1 : Nat) : Int) = (i : Int) + 1 by omega]
      exact isE2
    · have ltb : b < s.heap.objs.size := by
        rcases (show b = en ∨ b = it by simpa using hb) with q | q
        · rw [q]; exact lte
        · rw [q]; exact lti
      rw [upd_ne (Nat.ne_of_lt ltb)]
      exact (fp b hb).1
  done := by
    intro X eP ew eK cm i pins s σ H E I fp st go
    subst eP ew eK
    obtain ⟨⟨old, isE⟩, isT, ne⟩ := st
    obtain ⟨xs, sq, hx⟩ := go
    obtain ⟨its, rv, tp', hz⟩ := I.tuple sq
    have tp' : s.heap.IsTuple a its.toArray := tp'
    obtain ⟨f0, f1, f2, f3, f4, f5⟩ := fp it (by simp)
    have ll := rv.length
    exact enumT_end (I.ok.hd cm) isE isT tp' (by omega) fun g eb => ⟨rfl, I.turned (t' := s.toks) (fun b o nb z => eb b o nb z) f0 f1 f3 f4 f5⟩
  self := fun A i s Q E st fin => by
    obtain ⟨⟨_, isE⟩, _⟩ := st
    exact wpAny_pyIter_enum isE fin
def iEnumT (K : PySem.W.Frag) (ta : TA) : TI := fun σ H R => ta σ H fun vs G => ∃ a xs, vs = [.ref a] ∧ SqT K G a xs ∧ R (IteT K a) G
theorem pi_enumT {X : Cx} {e : Expr} {ta : TA} {p pos tp : Pos} {elts : List Expr} {kk : Nat} (gl : Gl X "enumerate") (mn : X.mg "enumerate" = none) (ha : PA X [e] ta) (st : starEach [e] X.env = [(false, eval e X.env)] := by rfl) :
    PI X (.Tuple elts kk tp) (.Call (.Name "enumerate" p) [e] [] pos) (iEnumT X.K ta) := by
  refine ⟨fun pins s σ H R I h => ?_⟩
  refine Call_ (ld_blt I gl mn boot_enumerate (PyProof.Rows.callWith_type1 (thn (ha.run pos pins s σ H _ I h) fun us s1 ⟨vs, H1, I1, r1, a, xs, ex, sq, q⟩ => ?_) st rfl))
  subst ex
  obtain ⟨u, rfl, r⟩ : ∃ u, us = [u] ∧ RelV (.ref a) u := by
    cases r1 with
    | cons r rr => cases rr; exact ⟨_, rfl, r⟩
  cases r
  obtain ⟨its, rv, tp', hz⟩ := I1.tuple sq
  refine call_enumT (begins_tuple a its.toArray) tp' fun g isE isT kp => wpAny_pyIter_enum isE ?_
  have I2 : Inv X pins σ H1 { s1 with heap := g } := I1.kept (t' := s1.toks) kp
  refine ⟨s1.heap.objs.size + 1, [s1.heap.objs.size + 1, s1.heap.objs.size], _, _, H1, rfl, I2, turn_enumT a (s1.heap.objs.size + 1) s1.heap.objs.size, ⟨⟨.none, isE⟩, ⟨_, isT, rfl, rfl⟩, Nat.succ_ne_self _⟩, fun b hb => ?_, q⟩
  have le : s1.heap.objs.size ≤ b := by
    rcases (show b = s1.heap.objs.size + 1 ∨ b = s1.heap.objs.size by simpa using hb) with z | z
    · rw [z]; exact Nat.le_add_right _ _
    · rw [z]; exact Nat.le_refl _
  exact I1.fpOk le (I1.hok.fresh le)
/-- a comprehension over enumerate(tuple) that leaves places out; the heap stays but for the pairs -/
theorem lc_enumT {K : PySem.W.Frag} {a : Addr} {xs : List V} {H : Hp} {D : Addr} (hD : H D = none) (hS : H a = some (.tup xs)) (hl : xs.length ≤ 10000) (p : Nat → Bool) (f : Nat → V)
    {g : TG} {tt : TT} {te : TE} {vs : List Nat} {σ : L2.St} {Qd : Hp → Prop}
    (turn : ∀ (i : Nat) (x : V) (T : Addr) (H2 : Hp) (R : V → Hp → Prop) (C : Hp → Prop), xs[i]? = some x → Same H H2 → H2 T = some (.tup [.int (i : Nat), x]) → (p i = true → R (f i) H2) → (p i = false → C H2) → g (.ref T) (wipe σ vs) H2 fun σ2 H3 => wipe σ2 vs = wipe σ vs ∧ tt σ2 H3 fun b H4 => if b = true then te σ2 H4 R else C H4)
    (fin : ∀ H', Same H H' → H' D = some (.lst (((List.range xs.length).filter p).map f)) → Qd H') :
    ∃ W : Nat → Nat → Hp → Prop, (∃ m, W 0 m (upd H D (.lst []))) ∧ ∀ i m H, W i m H →
      ((IteT K a).stop i H ∧ Qd H) ∨ ((IteT K a).go i H ∧ ∃ Nx : Hp → Prop, (∀ H', Nx H' → ∃ m', m' < m ∧ W (i + 1) m' H') ∧ ∀ x H', (IteT K a).yld i H x H' → g x (wipe σ vs) H' fun σ2 H2 => wipe σ2 vs = wipe σ vs ∧ tt σ2 H2 fun b H3 =>
        if b = true then te σ2 H3 fun y H4 => ∃ acc, H4 D = some (.lst acc) ∧ acc.length < sizeLine ∧ Nx (upd H4 D (.lst (acc ++ [y]))) else Nx H3) := by
  refine ⟨fun i m H' => i ≤ xs.length ∧ m = xs.length - i ∧ Same H H' ∧ H' D = some (.lst (((List.range i).filter p).map f)), ⟨_, Nat.zero_le _, rfl, same_upd hD, upd_same⟩, ?_⟩
  rintro i m H1 ⟨hi, rfl, s1, e1⟩
  have ea := s1 _ _ hS
  by_cases he : i = xs.length
  · subst he
    exact .inl ⟨⟨xs, .inl (.inl ea), Nat.le_refl _⟩, fin H1 s1 e1⟩
  have hlt : i < xs.length := by omega
  refine .inr ⟨⟨xs, xs[i], .inl (.inl ea), List.getElem?_eq_getElem hlt⟩, fun H' => Same H H' ∧ H' D = some (.lst (((List.range (i + 1)).filter p).map f)), fun H' ⟨z1, z2⟩ => ⟨xs.length - (i + 1), by omega, by omega, rfl, z1, z2⟩, ?_⟩
  rintro _ _ ⟨T, x, rfl, hT, rfl, hx⟩
  have nT := ne_of_none e1 hT
  have z := same_upd hT (o := .tup [.int (i : Nat), x])
  have s2 := s1.trans z
  have e2 := z _ _ e1
  refine turn i x T _ _ _ (hx xs (.inl (.inl ea))) s2 upd_same (fun hp => ?_) (fun hp => ?_)
  · refine ⟨_, e2, ?_, fun b o h => ?_, ?_⟩
    · rw [List.length_map]
      refine Nat.lt_of_le_of_lt (List.length_filter_le _ _) ?_
      rw [List.length_range]
      exact Nat.lt_of_lt_of_le (show i < 10000 by omega) (by decide)
    · rw [upd_ne (ne_of_none h hD)]
      exact s2 _ _ h
    · rw [upd_same, List.range_succ, List.filter_append, List.map_append, List.filter_cons_of_pos hp]
      rfl
  · refine ⟨s2, ?_⟩
    rw [e2, List.range_succ, List.filter_append, List.map_append, List.filter_cons_of_neg (by rw [hp]; exact Bool.false_ne_true)]
    show _ = some (HO.lst (_ ++ []))
    rw [List.append_nil]
end KA
namespace KA
open PySem PySem.Spec PyProof.Rows L2
/-- keywords of a def that has no defaults -/
theorem fun_kb {K : PySem.W.Frag} {x qual : Str} {st : Stmt} {f : Addr} {fd : FuncData} {ps : List Str} (F : Fun K x qual st f fd) (n : Nat) (ks : List Str) (m : List (Nat × Nat))
    (to : ∀ (kV doc pm : Value) (an : Option Addr) (cdv ct : Value) (us ws : List Value), us.length = n → ws.length = ks.length → bindArgs (PySem.W.fnOf x qual (defArgs st) (defBody st) (defScope st) .none kV doc pm an cdv ct) ⟨us, ks.zip ws⟩ = pure (ps.zip (kw m us [] ws))) :
    KBn K fd ps n ks (fun us ws => kw m us [] ws) (fun vs zs => kw m vs [] zs) := by
  obtain ⟨oc, od, kV, doc, pm, an, cdv, ct, osl, rfl, lk, hcd⟩ := F.ex
  exact ⟨fun s us ws _ l1 l2 => .of_eq (to kV doc pm an cdv ct us ws l1 l2), fun r1 r2 => kw_rel m r1 .nil r2⟩
end KA
namespace KA
open PySem PySem.Spec PyProof.Rows L2
section
variable {X : Cx} {a b : Expr} {ta tb : TE} {rest : List Expr} {pos : Pos} {K' : PySem.W.Frag}
/-- a or b, a of any kind whose truth is known -/
def tOrW (K : PySem.W.Frag) (ta tb : TE) : TE := fun σ H Q => ta σ H fun x H1 => ∃ k, TruW K x H1 k ∧ if k = true then Q x H1 else tb σ H1 Q
theorem pe_orW (eK : X.K = K') (h1 : PE X a ta) (h2 : PE X (.BoolOp .Or (b :: rest) pos) tb) : PE X (.BoolOp .Or (a :: b :: rest) pos) (tOrW K' ta tb) := by
  subst eK
  refine ⟨fun pins s σ H Q I h => BoolOp_or (thn (h1.run pins s σ H _ I h) fun v s1 ⟨x, H1, I1, r1, k, e, q1⟩ => ?_)⟩
  refine thn (truW_ok pins s1 σ H1 x v (fun c G => c = k ∧ G = H1) I1 r1 ⟨k, e, rfl, rfl⟩) fun c s2 ⟨G, I2, e1, e2⟩ => ?_
  subst e2 e1
  cases c with
  | false => exact h2.run pins s2 σ G Q I2 q1
  | true => exact ⟨x, G, I2, r1, q1⟩
end
end KA
namespace KB
open PySem PySem.Spec PyProof.Rows L2 KA
def topS (i : Nat) : Stmt := PySem.Challenge.pw_pearlrise_k24_whole_filled_and_emptied.main.body.getD i (.Pass ⟨0, 0, 0, 0⟩)
abbrev s__wall : Stmt := topS 0
theorem sc__wall : FnScope ["k"] ["k"] (defScope s__wall) := ⟨rfl, rfl, rfl, by decide +kernel, rfl, by decide +kernel, by decide +kernel⟩
abbrev s_PearlError_init : Stmt := inClass (topS 2) 0
theorem sc_PearlError_init : FnScope ["self", "why"] ["self", "why"] (defScope s_PearlError_init) := ⟨rfl, rfl, rfl, by decide +kernel, rfl, by decide +kernel, by decide +kernel⟩
abbrev s_NotLet_init : Stmt := inClass (topS 5) 0
theorem sc_NotLet_init : FnScope ["self", "at", "why"] ["self", "at", "why"] (defScope s_NotLet_init) := ⟨rfl, rfl, rfl, by decide +kernel, rfl, by decide +kernel, by decide +kernel⟩
abbrev s_NoPlace_init : Stmt := inClass (topS 6) 0
theorem sc_NoPlace_init : FnScope ["self", "at"] ["self", "at"] (defScope s_NoPlace_init) := ⟨rfl, rfl, rfl, by decide +kernel, rfl, by decide +kernel, by decide +kernel⟩
abbrev s_is_int : Stmt := topS 12
theorem sc_is_int : FnScope ["thing"] ["thing"] (defScope s_is_int) := ⟨rfl, rfl, rfl, by decide +kernel, rfl, by decide +kernel, by decide +kernel⟩
abbrev s_is_whole : Stmt := topS 13
theorem sc_is_whole : FnScope ["thing", "least", "most"] ["thing", "least", "most"] (defScope s_is_whole) := ⟨rfl, rfl, rfl, by decide +kernel, rfl, by decide +kernel, by decide +kernel⟩
abbrev s_is_from_nought : Stmt := topS 14
theorem sc_is_from_nought : FnScope ["thing"] ["thing"] (defScope s_is_from_nought) := ⟨rfl, rfl, rfl, by decide +kernel, rfl, by decide +kernel, by decide +kernel⟩
abbrev s_is_name : Stmt := topS 15
theorem sc_is_name : FnScope ["thing", "sign"] ["thing"] (defScope s_is_name) := ⟨rfl, rfl, rfl, by decide +kernel, rfl, by decide +kernel, by decide +kernel⟩
abbrev s_is_number : Stmt := topS 16
theorem sc_is_number : FnScope ["thing"] ["thing"] (defScope s_is_number) := ⟨rfl, rfl, rfl, by decide +kernel, rfl, by decide +kernel, by decide +kernel⟩
abbrev s_figures : Stmt := topS 17
theorem sc_figures : FnScope ["number", "groups", "rest", "group"] ["number"] (defScope s_figures) := ⟨rfl, rfl, rfl, by decide +kernel, rfl, by decide +kernel, by decide +kernel⟩
abbrev s_Rule_init : Stmt := inClass (topS 19) 0
theorem sc_Rule_init : FnScope ["self", "least", "most", "match", "shades"] ["self", "least", "most", "match", "shades"] (defScope s_Rule_init) := ⟨rfl, rfl, rfl, by decide +kernel, rfl, by decide +kernel, by decide +kernel⟩
abbrev s_Rule_eq : Stmt := inClass (topS 19) 1
theorem sc_Rule_eq : FnScope ["self", "other"] ["self", "other"] (defScope s_Rule_eq) := ⟨rfl, rfl, rfl, by decide +kernel, rfl, by decide +kernel, by decide +kernel⟩
abbrev s_Rule_repr : Stmt := inClass (topS 19) 2
theorem sc_Rule_repr : FnScope ["self", "parts"] ["self"] (defScope s_Rule_repr) := ⟨rfl, rfl, rfl, by decide +kernel, rfl, by decide +kernel, by decide +kernel⟩
abbrev s_stands_ahead : Stmt := topS 20
theorem sc_stands_ahead : FnScope ["beads", "at", "number", "bead"] ["beads", "at"] (defScope s_stands_ahead) := ⟨rfl, rfl, rfl, by decide +kernel, rfl, by decide +kernel, by decide +kernel⟩
abbrev s_breaks_step : Stmt := topS 21
theorem sc_breaks_step : FnScope ["beads", "at", "rule", "rise"] ["beads", "at", "rule"] (defScope s_breaks_step) := ⟨rfl, rfl, rfl, by decide +kernel, rfl, by decide +kernel, by decide +kernel⟩
abbrev s_partner_of : Stmt := topS 22
theorem sc_partner_of : FnScope ["beads", "at"] ["beads", "at"] (defScope s_partner_of) := ⟨rfl, rfl, rfl, by decide +kernel, rfl, by decide +kernel, by decide +kernel⟩
abbrev s_same_look : Stmt := topS 23
theorem sc_same_look : FnScope ["bead", "other"] ["bead", "other"] (defScope s_same_look) := ⟨rfl, rfl, rfl, by decide +kernel, rfl, by decide +kernel, by decide +kernel⟩
abbrev s_reason_at : Stmt := topS 24
theorem sc_reason_at : FnScope ["beads", "at", "rule", "bead", "partner"] ["beads", "at", "rule"] (defScope s_reason_at) := ⟨rfl, rfl, rfl, by decide +kernel, rfl, by decide +kernel, by decide +kernel⟩
abbrev s_barred : Stmt := topS 25
theorem sc_barred : FnScope ["beads", "rule", "at", "bead", "reason"] ["beads", "rule"] (defScope s_barred) := ⟨rfl, rfl, rfl, by decide +kernel, rfl, by decide +kernel, by decide +kernel⟩
abbrev s_String_init : Stmt := inClass (topS 27) 0
theorem sc_String_init : FnScope ["self", "beads", "rule", "found"] ["self", "beads", "rule"] (defScope s_String_init) := ⟨rfl, rfl, rfl, by decide +kernel, rfl, by decide +kernel, by decide +kernel⟩
abbrev s_String_beads : Stmt := inClass (topS 27) 1
theorem sc_String_beads : FnScope ["self"] ["self"] (defScope s_String_beads) := ⟨rfl, rfl, rfl, by decide +kernel, rfl, by decide +kernel, by decide +kernel⟩
abbrev s_String_gaps : Stmt := inClass (topS 27) 2
theorem sc_String_gaps : FnScope ["self", "at", "bead"] ["self"] (defScope s_String_gaps) := ⟨rfl, rfl, rfl, by decide +kernel, rfl, by decide +kernel, by decide +kernel⟩
abbrev s_String_turned : Stmt := inClass (topS 27) 3
theorem sc_String_turned : FnScope ["self"] ["self"] (defScope s_String_turned) := ⟨rfl, rfl, rfl, by decide +kernel, rfl, by decide +kernel, by decide +kernel⟩
abbrev s_String_filled : Stmt := inClass (topS 27) 4
theorem sc_String_filled : FnScope ["self", "at", "bead"] ["self", "at", "bead"] (defScope s_String_filled) := ⟨rfl, rfl, rfl, by decide +kernel, rfl, by decide +kernel, by decide +kernel⟩
abbrev s_String_emptied : Stmt := inClass (topS 27) 5
theorem sc_String_emptied : FnScope ["self", "at"] ["self", "at"] (defScope s_String_emptied) := ⟨rfl, rfl, rfl, by decide +kernel, rfl, by decide +kernel, by decide +kernel⟩
abbrev s_String_changed_at : Stmt := inClass (topS 27) 6
theorem sc_String_changed_at : FnScope ["self", "at", "bead", "row"] ["self", "at", "bead"] (defScope s_String_changed_at) := ⟨rfl, rfl, rfl, by decide +kernel, rfl, by decide +kernel, by decide +kernel⟩
abbrev s_String___len__ : Stmt := inClass (topS 27) 7
theorem sc_String___len__ : FnScope ["self"] ["self"] (defScope s_String___len__) := ⟨rfl, rfl, rfl, by decide +kernel, rfl, by decide +kernel, by decide +kernel⟩
abbrev s_String_eq : Stmt := inClass (topS 27) 8
theorem sc_String_eq : FnScope ["self", "other"] ["self", "other"] (defScope s_String_eq) := ⟨rfl, rfl, rfl, by decide +kernel, rfl, by decide +kernel, by decide +kernel⟩
abbrev s_String_repr : Stmt := inClass (topS 27) 9
theorem sc_String_repr : FnScope ["self"] ["self"] (defScope s_String_repr) := ⟨rfl, rfl, rfl, by decide +kernel, rfl, by decide +kernel, by decide +kernel⟩
abbrev s_String_str : Stmt := inClass (topS 27) 10
theorem sc_String_str : FnScope ["self", "bead"] ["self"] (defScope s_String_str) := ⟨rfl, rfl, rfl, by decide +kernel, rfl, by decide +kernel, by decide +kernel⟩
abbrev s_is_measure : Stmt := topS 30
theorem sc_is_measure : FnScope ["thing"] ["thing"] (defScope s_is_measure) := ⟨rfl, rfl, rfl, by decide +kernel, rfl, by decide +kernel, by decide +kernel⟩
abbrev s_Bead_init : Stmt := inClass (topS 31) 0
theorem sc_Bead_init : FnScope ["self", "number", "across", "weight", "shade", "form", "drilled"] ["self", "number", "across", "weight", "shade", "form", "drilled"] (defScope s_Bead_init) := ⟨rfl, rfl, rfl, by decide +kernel, rfl, by decide +kernel, by decide +kernel⟩
abbrev s_Bead_row : Stmt := inClass (topS 31) 1
theorem sc_Bead_row : FnScope ["self"] ["self"] (defScope s_Bead_row) := ⟨rfl, rfl, rfl, by decide +kernel, rfl, by decide +kernel, by decide +kernel⟩
abbrev s_Bead_key : Stmt := inClass (topS 31) 2
theorem sc_Bead_key : FnScope ["self"] ["self"] (defScope s_Bead_key) := ⟨rfl, rfl, rfl, by decide +kernel, rfl, by decide +kernel, by decide +kernel⟩
abbrev s_Bead_eq : Stmt := inClass (topS 31) 3
theorem sc_Bead_eq : FnScope ["self", "other"] ["self", "other"] (defScope s_Bead_eq) := ⟨rfl, rfl, rfl, by decide +kernel, rfl, by decide +kernel, by decide +kernel⟩
abbrev s_Bead_repr : Stmt := inClass (topS 31) 4
theorem sc_Bead_repr : FnScope ["self", "parts"] ["self"] (defScope s_Bead_repr) := ⟨rfl, rfl, rfl, by decide +kernel, rfl, by decide +kernel, by decide +kernel⟩
abbrev s_Bead_str : Stmt := inClass (topS 31) 5
theorem sc_Bead_str : FnScope ["self"] ["self"] (defScope s_Bead_str) := ⟨rfl, rfl, rfl, by decide +kernel, rfl, by decide +kernel, by decide +kernel⟩
abbrev s_cell_at : Stmt := topS 33
theorem sc_cell_at : FnScope ["_law_script", "_law_k"] ["_law_script", "_law_k"] (defScope s_cell_at) := ⟨rfl, rfl, rfl, by decide +kernel, rfl, by decide +kernel, by decide +kernel⟩
abbrev s_well : Stmt := topS 34
theorem sc_well : FnScope ["_law_cell"] ["_law_cell"] (defScope s_well) := ⟨rfl, rfl, rfl, by decide +kernel, rfl, by decide +kernel, by decide +kernel⟩
abbrev s_draw : Stmt := topS 35
theorem sc_draw : FnScope ["_law_well_here", "_law_many", "_law_found", "_law_salt", "_law_number"] ["_law_well_here", "_law_many"] (defScope s_draw) := ⟨rfl, rfl, rfl, by decide +kernel, rfl, by decide +kernel, by decide +kernel⟩
abbrev s_one : Stmt := topS 36
theorem sc_one : FnScope ["_law_well_here", "_law_some"] ["_law_well_here", "_law_some"] (defScope s_one) := ⟨rfl, rfl, rfl, by decide +kernel, rfl, by decide +kernel, by decide +kernel⟩
abbrev s_word : Stmt := topS 37
theorem sc_word : FnScope ["_law_well_here", "_law_k"] ["_law_well_here"] (defScope s_word) := ⟨rfl, rfl, rfl, by decide +kernel, rfl, by decide +kernel, by decide +kernel⟩
abbrev s_rule : Stmt := topS 38
theorem sc_rule : FnScope ["_law_well_here", "_law_low", "_law_top", "_law_far"] ["_law_well_here"] (defScope s_rule) := ⟨rfl, rfl, rfl, by decide +kernel, rfl, by decide +kernel, by decide +kernel⟩
abbrev s_near : Stmt := topS 39
theorem sc_near : FnScope ["_law_well_here", "_law_low", "_law_top", "_law_wide"] ["_law_well_here", "_law_low", "_law_top"] (defScope s_near) := ⟨rfl, rfl, rfl, by decide +kernel, rfl, by decide +kernel, by decide +kernel⟩
abbrev s_across : Stmt := topS 40
theorem sc_across : FnScope ["_law_well_here", "_law_places", "_law_four", "_law_left", "_law_right", "_law_k"] ["_law_well_here", "_law_places", "_law_four"] (defScope s_across) := ⟨rfl, rfl, rfl, by decide +kernel, rfl, by decide +kernel, by decide +kernel⟩
abbrev s_rows : Stmt := topS 41
theorem sc_rows : FnScope ["_law_well_here", "_law_places", "_law_four", "_law_looks", "_law_found", "_law_k", "_law_across_here", "_law_number", "_law_look"] ["_law_well_here", "_law_places", "_law_four"] (defScope s_rows) := ⟨rfl, rfl, rfl, by decide +kernel, rfl, by decide +kernel, by decide +kernel⟩
abbrev s_bead : Stmt := topS 42
theorem sc_bead : FnScope ["_law_row"] ["_law_row"] (defScope s_bead) := ⟨rfl, rfl, rfl, by decide +kernel, rfl, by decide +kernel, by decide +kernel⟩
abbrev s_step_bars : Stmt := topS 43
theorem sc_step_bars : FnScope ["_law_rows_here", "_law_four", "_law_spot", "_law_more"] ["_law_rows_here", "_law_four", "_law_spot"] (defScope s_step_bars) := ⟨rfl, rfl, rfl, by decide +kernel, rfl, by decide +kernel, by decide +kernel⟩
abbrev s_why : Stmt := topS 44
theorem sc_why : FnScope ["_law_rows_here", "_law_four", "_law_spot", "_law_partner", "_law_row"] ["_law_rows_here", "_law_four"] (defScope s_why) := ⟨rfl, rfl, rfl, by decide +kernel, rfl, by decide +kernel, by decide +kernel⟩
abbrev s_done : Stmt := topS 45
theorem sc_done : FnScope ["_law_string", "_law_spot", "_law_row", "_law_found", "e"] ["_law_string", "_law_spot", "_law_row"] (defScope s_done) := ⟨rfl, rfl, rfl, by decide +kernel, rfl, by decide +kernel, by decide +kernel⟩
abbrev s_due : Stmt := topS 46
theorem sc_due : FnScope ["_law_rows_here", "_law_spot", "_law_row", "_law_four", "_law_why_here"] ["_law_rows_here", "_law_spot", "_law_row", "_law_four"] (defScope s_due) := ⟨rfl, rfl, rfl, by decide +kernel, rfl, by decide +kernel, by decide +kernel⟩
abbrev s_told : Stmt := topS 47
theorem sc_told : FnScope ["_law_string", "_law_one_here"] ["_law_string"] (defScope s_told) := ⟨rfl, rfl, rfl, by decide +kernel, rfl, by decide +kernel, by decide +kernel⟩
abbrev s_law : Stmt := topS 48
theorem sc_law : FnScope ["_law_script", "_law_well_here", "_law_four", "_law_many", "_law_near_here", "_law_rows_here", "_law_strings", "_law_cell", "_law_k", "_law_spot", "_law_row", "_law_found", "_law_due_here", "_law_string"] ["_law_script"] (defScope s_law) := ⟨rfl, rfl, rfl, by decide +kernel, rfl, by decide +kernel, by decide +kernel⟩
structure Tx (K : PySem.W.Frag) (mg : Str → Option Value) : Type where
  C_Bead : Addr
  cl_Bead : Cls K C_Bead
  g_Bead : mg "Bead" = some (.ref C_Bead)
  n_Bead_number : NoAttr K C_Bead "number"
  n_Bead_across : NoAttr K C_Bead "across"
  n_Bead_weight : NoAttr K C_Bead "weight"
  n_Bead_shade : NoAttr K C_Bead "shade"
  n_Bead_form : NoAttr K C_Bead "form"
  n_Bead_drilled : NoAttr K C_Bead "drilled"
  C_Rule : Addr
  cl_Rule : Cls K C_Rule
  g_Rule : mg "Rule" = some (.ref C_Rule)
  n_Rule_least : NoAttr K C_Rule "least"
  n_Rule_most : NoAttr K C_Rule "most"
  n_Rule_match : NoAttr K C_Rule "match"
  n_Rule_shades : NoAttr K C_Rule "shades"
  C_String : Addr
  cl_String : Cls K C_String
  g_String : mg "String" = some (.ref C_String)
  n_String_held : NoAttr K C_String "held"
  n_String_rule : NoAttr K C_String "rule"
  A_PearlError_init : Addr
  fd_PearlError_init : FuncData
  F_PearlError_init : FunD K "__init__" "PearlError.__init__" (defArgs s_PearlError_init) (defBody s_PearlError_init) (defScope s_PearlError_init) [.str ""] [] A_PearlError_init fd_PearlError_init
  b_PearlError_init : Binds K fd_PearlError_init ["self", "why"] []
  A_NotLet_init : Addr
  fd_NotLet_init : FuncData
  F_NotLet_init : Fun K "__init__" "NotLet.__init__" s_NotLet_init A_NotLet_init fd_NotLet_init
  b_NotLet_init : Binds K fd_NotLet_init ["self", "at", "why"] []
  A_NoPlace_init : Addr
  fd_NoPlace_init : FuncData
  F_NoPlace_init : Fun K "__init__" "NoPlace.__init__" s_NoPlace_init A_NoPlace_init fd_NoPlace_init
  b_NoPlace_init : Binds K fd_NoPlace_init ["self", "at"] []
  A_is_int : Addr
  fd_is_int : FuncData
  F_is_int : Fun K "is_int" "is_int" s_is_int A_is_int fd_is_int
  g_is_int : mg "is_int" = some (.ref A_is_int)
  b_is_int : Binds K fd_is_int ["thing"] []
  A_is_whole : Addr
  fd_is_whole : FuncData
  F_is_whole : Fun K "is_whole" "is_whole" s_is_whole A_is_whole fd_is_whole
  g_is_whole : mg "is_whole" = some (.ref A_is_whole)
  b_is_whole : Binds K fd_is_whole ["thing", "least", "most"] []
  A_is_from_nought : Addr
  fd_is_from_nought : FuncData
  F_is_from_nought : Fun K "is_from_nought" "is_from_nought" s_is_from_nought A_is_from_nought fd_is_from_nought
  g_is_from_nought : mg "is_from_nought" = some (.ref A_is_from_nought)
  b_is_from_nought : Binds K fd_is_from_nought ["thing"] []
  A_is_name : Addr
  fd_is_name : FuncData
  F_is_name : Fun K "is_name" "is_name" s_is_name A_is_name fd_is_name
  g_is_name : mg "is_name" = some (.ref A_is_name)
  b_is_name : Binds K fd_is_name ["thing"] []
  A_is_number : Addr
  fd_is_number : FuncData
  F_is_number : Fun K "is_number" "is_number" s_is_number A_is_number fd_is_number
  g_is_number : mg "is_number" = some (.ref A_is_number)
  b_is_number : Binds K fd_is_number ["thing"] []
  A_Rule_init : Addr
  fd_Rule_init : FuncData
  F_Rule_init : FunD K "__init__" "Rule.__init__" (defArgs s_Rule_init) (defBody s_Rule_init) (defScope s_Rule_init) [.int 0, .int 10, .int 0, .bl true] [] A_Rule_init fd_Rule_init
  mk_Rule : Mk K C_Rule A_Rule_init
  b_Rule_init : Binds K fd_Rule_init ["self", "least", "most", "match", "shades"] []
  A_stands_ahead : Addr
  fd_stands_ahead : FuncData
  F_stands_ahead : Fun K "stands_ahead" "stands_ahead" s_stands_ahead A_stands_ahead fd_stands_ahead
  g_stands_ahead : mg "stands_ahead" = some (.ref A_stands_ahead)
  b_stands_ahead : Binds K fd_stands_ahead ["beads", "at"] []
  A_breaks_step : Addr
  fd_breaks_step : FuncData
  F_breaks_step : Fun K "breaks_step" "breaks_step" s_breaks_step A_breaks_step fd_breaks_step
  g_breaks_step : mg "breaks_step" = some (.ref A_breaks_step)
  b_breaks_step : Binds K fd_breaks_step ["beads", "at", "rule"] []
  A_partner_of : Addr
  fd_partner_of : FuncData
  F_partner_of : Fun K "partner_of" "partner_of" s_partner_of A_partner_of fd_partner_of
  g_partner_of : mg "partner_of" = some (.ref A_partner_of)
  b_partner_of : Binds K fd_partner_of ["beads", "at"] []
  A_same_look : Addr
  fd_same_look : FuncData
  F_same_look : Fun K "same_look" "same_look" s_same_look A_same_look fd_same_look
  g_same_look : mg "same_look" = some (.ref A_same_look)
  b_same_look : Binds K fd_same_look ["bead", "other"] []
  A_reason_at : Addr
  fd_reason_at : FuncData
  F_reason_at : Fun K "reason_at" "reason_at" s_reason_at A_reason_at fd_reason_at
  g_reason_at : mg "reason_at" = some (.ref A_reason_at)
  b_reason_at : Binds K fd_reason_at ["beads", "at", "rule"] []
  A_barred : Addr
  fd_barred : FuncData
  F_barred : Fun K "barred" "barred" s_barred A_barred fd_barred
  g_barred : mg "barred" = some (.ref A_barred)
  b_barred : Binds K fd_barred ["beads", "rule"] []
  A_String_init : Addr
  fd_String_init : FuncData
  F_String_init : Fun K "__init__" "String.__init__" s_String_init A_String_init fd_String_init
  mk_String : Mk K C_String A_String_init
  b_String_init : Binds K fd_String_init ["self", "beads", "rule"] []
  A_String_beads : Addr
  fd_String_beads : FuncData
  F_String_beads : Fun K "beads" "String.beads" s_String_beads A_String_beads fd_String_beads
  m_String_beads : Meth K C_String "beads" A_String_beads
  b_String_beads : Binds K fd_String_beads ["self"] []
  A_String_gaps : Addr
  fd_String_gaps : FuncData
  F_String_gaps : Fun K "gaps" "String.gaps" s_String_gaps A_String_gaps fd_String_gaps
  m_String_gaps : Meth K C_String "gaps" A_String_gaps
  b_String_gaps : Binds K fd_String_gaps ["self"] []
  A_String_filled : Addr
  fd_String_filled : FuncData
  F_String_filled : Fun K "filled" "String.filled" s_String_filled A_String_filled fd_String_filled
  m_String_filled : Meth K C_String "filled" A_String_filled
  b_String_filled : Binds K fd_String_filled ["self", "at", "bead"] []
  A_String_emptied : Addr
  fd_String_emptied : FuncData
  F_String_emptied : Fun K "emptied" "String.emptied" s_String_emptied A_String_emptied fd_String_emptied
  m_String_emptied : Meth K C_String "emptied" A_String_emptied
  b_String_emptied : Binds K fd_String_emptied ["self", "at"] []
  A_String_changed_at : Addr
  fd_String_changed_at : FuncData
  F_String_changed_at : Fun K "changed_at" "String.changed_at" s_String_changed_at A_String_changed_at fd_String_changed_at
  m_String_changed_at : Meth K C_String "changed_at" A_String_changed_at
  b_String_changed_at : Binds K fd_String_changed_at ["self", "at", "bead"] []
  A_is_measure : Addr
  fd_is_measure : FuncData
  F_is_measure : Fun K "is_measure" "is_measure" s_is_measure A_is_measure fd_is_measure
  g_is_measure : mg "is_measure" = some (.ref A_is_measure)
  b_is_measure : Binds K fd_is_measure ["thing"] []
  A_Bead_init : Addr
  fd_Bead_init : FuncData
  F_Bead_init : FunD K "__init__" "Bead.__init__" (defArgs s_Bead_init) (defBody s_Bead_init) (defScope s_Bead_init) [.str "round", .bl false] [] A_Bead_init fd_Bead_init
  mk_Bead : Mk K C_Bead A_Bead_init
  b_Bead_init : Binds K fd_Bead_init ["self", "number", "across", "weight", "shade", "form", "drilled"] []
  A_Bead_row : Addr
  fd_Bead_row : FuncData
  F_Bead_row : Fun K "row" "Bead.row" s_Bead_row A_Bead_row fd_Bead_row
  m_Bead_row : Meth K C_Bead "row" A_Bead_row
  b_Bead_row : Binds K fd_Bead_row ["self"] []
  A_cell_at : Addr
  fd_cell_at : FuncData
  F_cell_at : Fun K "_law_cell_at" "_law_cell_at" s_cell_at A_cell_at fd_cell_at
  g_cell_at : mg "_law_cell_at" = some (.ref A_cell_at)
  b_cell_at : Binds K fd_cell_at ["_law_script", "_law_k"] []
  A_well : Addr
  fd_well : FuncData
  F_well : Fun K "_law_well" "_law_well" s_well A_well fd_well
  g_well : mg "_law_well" = some (.ref A_well)
  b_well : Binds K fd_well ["_law_cell"] []
  A_draw : Addr
  fd_draw : FuncData
  F_draw : Fun K "_law_draw" "_law_draw" s_draw A_draw fd_draw
  g_draw : mg "_law_draw" = some (.ref A_draw)
  b_draw : Binds K fd_draw ["_law_well_here", "_law_many"] []
  A_one : Addr
  fd_one : FuncData
  F_one : Fun K "_law_one" "_law_one" s_one A_one fd_one
  g_one : mg "_law_one" = some (.ref A_one)
  b_one : Binds K fd_one ["_law_well_here", "_law_some"] []
  A_word : Addr
  fd_word : FuncData
  F_word : Fun K "_law_word" "_law_word" s_word A_word fd_word
  g_word : mg "_law_word" = some (.ref A_word)
  b_word : Binds K fd_word ["_law_well_here"] []
  A_rule : Addr
  fd_rule : FuncData
  F_rule : Fun K "_law_rule" "_law_rule" s_rule A_rule fd_rule
  g_rule : mg "_law_rule" = some (.ref A_rule)
  b_rule : Binds K fd_rule ["_law_well_here"] []
  A_near : Addr
  fd_near : FuncData
  F_near : Fun K "_law_near" "_law_near" s_near A_near fd_near
  g_near : mg "_law_near" = some (.ref A_near)
  b_near : Binds K fd_near ["_law_well_here", "_law_low", "_law_top"] []
  A_across : Addr
  fd_across : FuncData
  F_across : Fun K "_law_across" "_law_across" s_across A_across fd_across
  g_across : mg "_law_across" = some (.ref A_across)
  b_across : Binds K fd_across ["_law_well_here", "_law_places", "_law_four"] []
  A_rows : Addr
  fd_rows : FuncData
  F_rows : Fun K "_law_rows" "_law_rows" s_rows A_rows fd_rows
  g_rows : mg "_law_rows" = some (.ref A_rows)
  b_rows : Binds K fd_rows ["_law_well_here", "_law_places", "_law_four"] []
  A_bead : Addr
  fd_bead : FuncData
  F_bead : Fun K "_law_bead" "_law_bead" s_bead A_bead fd_bead
  g_bead : mg "_law_bead" = some (.ref A_bead)
  b_bead : Binds K fd_bead ["_law_row"] []
  A_step_bars : Addr
  fd_step_bars : FuncData
  F_step_bars : Fun K "_law_step_bars" "_law_step_bars" s_step_bars A_step_bars fd_step_bars
  g_step_bars : mg "_law_step_bars" = some (.ref A_step_bars)
  b_step_bars : Binds K fd_step_bars ["_law_rows_here", "_law_four", "_law_spot"] []
  A_why : Addr
  fd_why : FuncData
  F_why : Fun K "_law_why" "_law_why" s_why A_why fd_why
  g_why : mg "_law_why" = some (.ref A_why)
  b_why : Binds K fd_why ["_law_rows_here", "_law_four"] []
  A_done : Addr
  fd_done : FuncData
  F_done : Fun K "_law_done" "_law_done" s_done A_done fd_done
  g_done : mg "_law_done" = some (.ref A_done)
  b_done : Binds K fd_done ["_law_string", "_law_spot", "_law_row"] []
  A_due : Addr
  fd_due : FuncData
  F_due : Fun K "_law_due" "_law_due" s_due A_due fd_due
  g_due : mg "_law_due" = some (.ref A_due)
  b_due : Binds K fd_due ["_law_rows_here", "_law_spot", "_law_row", "_law_four"] []
  A_told : Addr
  fd_told : FuncData
  F_told : Fun K "_law_told" "_law_told" s_told A_told fd_told
  g_told : mg "_law_told" = some (.ref A_told)
  b_told : Binds K fd_told ["_law_string"] []
  C_PearlError : Addr
  g_PearlError : mg "PearlError" = some (.ref C_PearlError)
  C_BadBead : Addr
  g_BadBead : mg "BadBead" = some (.ref C_BadBead)
  C_BadRule : Addr
  g_BadRule : mg "BadRule" = some (.ref C_BadRule)
  C_NotLet : Addr
  g_NotLet : mg "NotLet" = some (.ref C_NotLet)
  C_NoPlace : Addr
  g_NoPlace : mg "NoPlace" = some (.ref C_NoPlace)
  ox_NotLet : OexC K C_NotLet
  in_NotLet : PySem.W.findIn K (.ref C_NotLet) "__init__" = some (some (.ref A_NotLet_init))
  ti_NotLet : PySem.W.typeIn K (.ref A_NotLet_init) = some (.type "function")
  xc_NotLet : ExcC K C_NotLet
  nf_NotLet_at : PySem.W.findIn K (.ref C_NotLet) "at" = some none
  nf_NotLet_why : PySem.W.findIn K (.ref C_NotLet) "why" = some none
  em_NotLet_NotLet : PySem.W.exmOne K (.ref C_NotLet) (.ref C_NotLet) = some true
  ox_NoPlace : OexB "IndexError.__new__" ixT K C_NoPlace
  in_NoPlace : PySem.W.findIn K (.ref C_NoPlace) "__init__" = some (some (.ref A_NoPlace_init))
  ti_NoPlace : PySem.W.typeIn K (.ref A_NoPlace_init) = some (.type "function")
  xc_NoPlace : ExcC K C_NoPlace
  nf_NoPlace_at : PySem.W.findIn K (.ref C_NoPlace) "at" = some none
  em_NoPlace_NoPlace : PySem.W.exmOne K (.ref C_NoPlace) (.ref C_NoPlace) = some true
  vV_IndexError : PySem.W.findCls K (.type "IndexError") (.type "type") "__init__" = some (.val (.builtin "IndexError.__init__"))
  vV : PySem.W.findCls K (.type "ValueError") (.type "type") "__init__" = some (.val (.builtin "ValueError.__init__"))
  kb_e : KBn K fd_String_emptied ["self", "at"] 1 ["at"] (fun us ws => kw [(0, 0), (2, 0)] us [] ws) (fun vs zs => kw [(0, 0), (2, 0)] vs [] zs)
  kb_f : KBn K fd_String_filled ["self", "at", "bead"] 1 ["bead", "at"] (fun us ws => kw [(0, 0), (2, 1), (2, 0)] us [] ws) (fun vs zs => kw [(0, 0), (2, 1), (2, 0)] vs [] zs)
  kb_s : KBn K fd_String_init ["self", "beads", "rule"] 1 ["rule", "beads"] (fun us ws => kw [(0, 0), (2, 1), (2, 0)] us [] ws) (fun vs zs => kw [(0, 0), (2, 1), (2, 0)] vs [] zs)
  cf_PearlError : ClsFn K C_PearlError "__init__" A_PearlError_init
  en_NotLet : PySem.W.exmOne K (.ref C_NotLet) (.ref C_NoPlace) = some false
  ki_ix : PySem.W.kitOne K (.ref C_NoPlace) (.type "IndexError") = some true
  bb_Bead : PySem.W.findIn K (.ref C_Bead) "__bool__" = some none
  bl_Bead : PySem.W.findIn K (.ref C_Bead) "__len__" = some none
  t_LONGEST_NAME : Tok
  g_LONGEST_NAME : mg "LONGEST_NAME" = some (.int 8 t_LONGEST_NAME)
  t_GREATEST_NUMBER : Tok
  g_GREATEST_NUMBER : mg "GREATEST_NUMBER" = some (.int 1000000000 t_GREATEST_NUMBER)
  t_GREATEST_MEASURE : Tok
  g_GREATEST_MEASURE : mg "GREATEST_MEASURE" = some (.int 1000000 t_GREATEST_MEASURE)
  z_ValueError : mg "ValueError" = none
  z_IndexError : mg "IndexError" = none
  z_bool : mg "bool" = none
  z_isinstance : mg "isinstance" = none
  z_int : mg "int" = none
  z_len : mg "len" = none
  z_str : mg "str" = none
  z_all : mg "all" = none
  z_any : mg "any" = none
  z_abs : mg "abs" = none
  z_enumerate : mg "enumerate" = none
  z_tuple : mg "tuple" = none
  z_list : mg "list" = none
  z_range : mg "range" = none
  z_max : mg "max" = none
section
variable {P : Program} {w : World} {K : PySem.W.Frag} {mg : Str → Option Value} {base : Heap}
def whl (v : V) (lo hi : Int) : Bool := match v with
  | .int i => decide (lo ≤ i) && decide (i ≤ hi)
  | _ => false
def nm (v : V) : Bool := match v with
  | .str z => decide (1 ≤ z.length) && decide (z.length ≤ 8) && z.cps.toList.all lower
  | _ => false
def spIsInt (K : PySem.W.Frag) : Sp := fun vs H Q _ => ∃ v, vs = [v] ∧ Th K H v ∧ Q (.bl (isI v)) H
def spIsWhole (K : PySem.W.Frag) : Sp := fun vs H Q _ => ∃ v lo hi, vs = [v, .int lo, .int hi] ∧ Th K H v ∧ Q (.bl (whl v lo hi)) H
def spIsNumber (K : PySem.W.Frag) : Sp := fun vs H Q _ => ∃ v, vs = [v] ∧ Th K H v ∧ Q (.bl (whl v 1 1000000000)) H
def spIsName (K : PySem.W.Frag) : Sp := fun vs H Q _ => ∃ v, vs = [v] ∧ Th K H v ∧ (∀ z, v = .str z → z.length ≤ 100000) ∧ ∀ H', Same H H' → Q (.bl (nm v)) H'
theorem ok_is_int (T : Tx K mg) : FnOk P w K mg base CX0 1 T.A_is_int T.fd_is_int ["thing"] (spIsInt K) := by
  refine T.F_is_int.ok sc_is_int (fun vs H Q E h => ?_) (fun cdv A outer s H vs Q E hr h => ?_)
  · obtain ⟨v, rfl, th, q⟩ := h
    rfl
  obtain ⟨v, rfl, th, q⟩ := h
  refine ⟨_, (pss_one (ps_ret (pe_and (pe_callB call_isi (by rfl) T.z_isinstance (by decide +kernel) (pa_cons (pv 0) (pa_cons (pe_bltn (v := .ty "int") (by rfl) T.z_int (by decide +kernel) rfl) pa_nil))) (pe_one (pe_not (pe_callB call_isi (by rfl) T.z_isinstance (by decide +kernel) (pa_cons (pv 0) (pa_cons (pe_bltn (v := .ty "bool") (by rfl) T.z_bool (by decide +kernel) rfl) pa_nil)))))))), ?_⟩
  obtain ⟨t1, ty1, k1⟩ := isi_int th
  obtain ⟨t2, ty2, k2⟩ := isi_bool th
  refine ⟨_, rfl, v, _, t1, _, _, rfl, .ty _, ty1, k1, _, rfl, ?_⟩
  refine ite2 (fun e => ?_) (fun e => ?_)
  · refine ⟨_, rfl, v, _, t2, _, _, rfl, .ty _, ty2, k2, _, rfl, ?_⟩
    have : (!isB v) = isI v := by cases v <;> simp_all [isI, isB]
    rw [this]
    exact q
  · have : isI v = false := by cases v <;> simp_all [isI, isB]
    rw [this] at q
    exact q
theorem ok_is_whole (T : Tx K mg) : FnOk P w K mg base CX0 2 T.A_is_whole T.fd_is_whole ["thing", "least", "most"] (spIsWhole K) := by
  refine T.F_is_whole.ok sc_is_whole (fun vs H Q E h => ?_) (fun cdv A outer s H vs Q E hr h => ?_)
  · obtain ⟨v, lo, hi, rfl, th, q⟩ := h
    rfl
  obtain ⟨v, lo, hi, rfl, th, q⟩ := h
  refine ⟨_, (pss_one (ps_ret (pe_and (pe_call (ok_is_int T) (hr.mono (by decide)) (by rfl) T.g_is_int T.F_is_int.kp T.b_is_int .nil pass0 (pa_cons (pv 0) pa_nil)) (pe_one (pe_chain op_le op_le (pv 1) (pv 0) (pv 2)))))), ?_⟩
  refine ⟨_, rfl, v, rfl, th, _, rfl, ?_⟩
  cases v with
  | int i =>
    refine iteT ?_
    refine ⟨_, rfl, _, rfl, _, _, rfl, rfl, _, rfl, ?_⟩
    refine ite2 (fun e => ?_) (fun e => ?_)
    · refine ⟨_, rfl, _, _, rfl, rfl, ?_⟩
      have q : Q (.bl (decide (lo ≤ i) && decide (i ≤ hi))) H := q
      rw [e] at q
      exact q
    · have q : Q (.bl (decide (lo ≤ i) && decide (i ≤ hi))) H := q
      rw [Bool.not_eq_true] at e
      rw [e] at q
      exact q
  | _ => exact iteF q
theorem ok_is_number (T : Tx K mg) : FnOk P w K mg base CX0 3 T.A_is_number T.fd_is_number ["thing"] (spIsNumber K) := by
  refine T.F_is_number.ok sc_is_number (fun vs H Q E h => ?_) (fun cdv A outer s H vs Q E hr h => ?_)
  · obtain ⟨v, rfl, th, q⟩ := h
    rfl
  obtain ⟨v, rfl, th, q⟩ := h
  refine ⟨_, (pss_one (ps_ret (pe_call (ok_is_whole T) (hr.mono (by decide)) (by rfl) T.g_is_whole T.F_is_whole.kp T.b_is_whole .nil pass0 (pa_cons (pv 0) (pa_cons pe_int (pa_cons (pe_glob (v := .int 1000000000) (by rfl) T.g_GREATEST_NUMBER ⟨_, rfl⟩) pa_nil)))))), ?_⟩
  exact ⟨_, rfl, v, 1, 1000000000, rfl, th, q⟩
theorem nm_no {v : V} (h : isS v = false) : nm v = false := by cases v <;> simp_all [nm, isS]
theorem ok_is_name (T : Tx K mg) : FnOk P w K mg base CX0 1 T.A_is_name T.fd_is_name ["thing"] (spIsName K) := by
  refine T.F_is_name.ok sc_is_name (fun vs H Q E h => ?_) (fun cdv A outer s H vs Q E hr h => ?_)
  · obtain ⟨v, rfl, th, hz, q⟩ := h
    rfl
  obtain ⟨v, rfl, th, hz, q⟩ := h
  refine ⟨_, (pss_cons (ps_if (PW.pt (pw_or (pt_not (pt_val (pe_callB call_isi (by rfl) T.z_isinstance (by decide +kernel) (pa_cons (pv 0) (pa_cons (pe_bltn (v := .ty "str") (by rfl) T.z_str (by decide +kernel) rfl) pa_nil))))) (pw_or1 (pt_not (pt_chain op_le op_le pe_int (pe_callB call_len_str (by rfl) T.z_len PySem.boot_len (pa_cons (pv 0) pa_nil)) (pe_glob (v := .int 8) (by rfl) T.g_LONGEST_NAME ⟨_, rfl⟩)))))) (pss_one (ps_ret pe_bl)) pss_nil)
      (pss_one (ps_ret (pe_callB (cr_all rfl) (by rfl) T.z_all (by decide +kernel) (pa_cons (pe_lc (own := [("sign", 1)]) (g := gName 1) (tt := tYes) rfl sc_is_name.nd (pi_str (pv 0)) (blkOk_by (N := ["thing", "sign"]) (sc := defScope s_is_name) (by decide +kernel)) (fun _ _ _ _ _ => (pg_name (i := 1) sc_is_name.nd rfl (Or.inl rfl))) (fun _ _ _ _ _ => pts_nil) (fun _ _ _ _ _ => (pe_chain op_le_str op_le_str pe_str (pv 1) pe_str))) pa_nil))))), ?_⟩
  obtain ⟨t1, ty1, k1⟩ := isi_str th
  refine ⟨_, rfl, v, _, t1, _, _, rfl, .ty _, ty1, k1, _, rfl, ?_⟩
  by_cases hs : isS v = true
  · obtain ⟨z, rfl⟩ : ∃ z, v = .str z := by
      cases v with
      | str z => exact ⟨z, rfl⟩
      | _ => cases hs
    have hz := hz z rfl
    have hzl : z.length ≤ sizeLine := Nat.le_trans hz (by decide)
    have nmE : nm (.str z) = (decide (1 ≤ z.length) && decide (z.length ≤ 8) && z.cps.toList.all lower) := rfl
    rw [hs]
    refine iteF ?_
    refine ⟨_, rfl, z, rfl, hzl, _, _, rfl, rfl, _, rfl, ?_⟩
    by_cases h1 : 1 ≤ z.length
    · rw [decide_eq_true (show (1 : Int) ≤ (z.length : Int) by omega)]
      refine iteT ⟨_, _, rfl, rfl, _, rfl, ?_⟩
      by_cases h2 : z.length ≤ 8
      · rw [decide_eq_true (show (z.length : Int) ≤ 8 by omega)]
        refine iteF ?_
        refine ⟨_, rfl, z, rfl, fun D hD => lc_all hD hz lower ?_ ?_⟩
        · intro c H2 R C s2 r
          refine ⟨rfl, yesT ?_⟩
          refine ⟨_, rfl, _, _, rfl, rfl, _, rfl, ?_⟩
          rw [ge_a]
          refine ite2 (fun e => ?_) (fun e => ?_)
          · refine ⟨_, _, rfl, rfl, ?_⟩
            rw [le_z]
            have : lower c = decide (c ≤ 122) := by unfold lower; rw [e, Bool.true_and]
            rw [← this]
            exact r
          · rw [Bool.not_eq_true] at e
            have : lower c = false := by unfold lower; rw [e, Bool.false_and]
            rw [← this]
            exact r
        · intro H' s1 e1
          refine ⟨D, z.cps.toList.map lower, rfl, SqL.of e1, ?_⟩
          have q := q H' s1
          have : nm (.str z) = (z.cps.toList.map lower).all id := by
            rw [nmE, decide_eq_true h1, decide_eq_true h2, Bool.true_and, Bool.true_and, List.all_map]
            rfl
          rw [this] at q
          exact q
      · rw [decide_eq_false (show ¬ (z.length : Int) ≤ 8 by omega)]
        refine iteT ?_
        have q := q H (Same.refl H)
        rw [nmE, decide_eq_false h2, Bool.and_false, Bool.false_and] at q
        exact q
    · rw [decide_eq_false (show ¬ (1 : Int) ≤ (z.length : Int) by omega)]
      refine iteF ⟨_, rfl, ?_⟩
      refine iteT ?_
      have q := q H (Same.refl H)
      rw [nmE, decide_eq_false h1, Bool.false_and, Bool.false_and] at q
      exact q
  · rw [Bool.not_eq_true] at hs
    rw [hs]
    refine iteT (iteT ?_)
    have q := q H (Same.refl H)
    rw [nm_no hs] at q
    exact q
def spFromN (K : PySem.W.Frag) : Sp := fun vs H Q _ => ∃ v, vs = [v] ∧ Th K H v ∧ Q (.bl (match v with | .int i => decide (0 ≤ i) | _ => false)) H
theorem ok_is_from_nought (T : Tx K mg) : FnOk P w K mg base CX0 2 T.A_is_from_nought T.fd_is_from_nought ["thing"] (spFromN K) := by
  refine T.F_is_from_nought.ok sc_is_from_nought (fun vs H Q E h => ?_) (fun cdv A outer s H vs Q E hr h => ?_)
  · obtain ⟨v, rfl, th, q⟩ := h
    rfl
  obtain ⟨v, rfl, th, q⟩ := h
  refine ⟨_, (pss_one (ps_ret (pe_and (pe_call (ok_is_int T) (hr.mono (by decide)) (by rfl) T.g_is_int T.F_is_int.kp T.b_is_int .nil pass0 (pa_cons (pv 0) pa_nil)) (pe_one (pe_cmpR op_ge (pv 0) pe_int (nomark _)))))), ?_⟩
  refine ⟨_, rfl, v, rfl, th, _, rfl, ?_⟩
  cases v with
  | int i => exact iteT ⟨_, rfl, _, _, rfl, rfl, q⟩
  | _ => exact iteF q
def spMeasure (K : PySem.W.Frag) : Sp := fun vs H Q _ => ∃ v, vs = [v] ∧ Th K H v ∧ Q (.bl (whl v 1 1000000)) H
theorem ok_is_measure (T : Tx K mg) : FnOk P w K mg base CX0 3 T.A_is_measure T.fd_is_measure ["thing"] (spMeasure K) := by
  refine T.F_is_measure.ok sc_is_measure (fun vs H Q E h => ?_) (fun cdv A outer s H vs Q E hr h => ?_)
  · obtain ⟨v, rfl, th, q⟩ := h
    rfl
  obtain ⟨v, rfl, th, q⟩ := h
  refine ⟨_, (pss_one (ps_ret (pe_call (ok_is_whole T) (hr.mono (by decide)) (by rfl) T.g_is_whole T.F_is_whole.kp T.b_is_whole .nil pass0 (pa_cons (pv 0) (pa_cons pe_int (pa_cons (pe_glob (v := .int 1000000) (by rfl) T.g_GREATEST_MEASURE ⟨_, rfl⟩) pa_nil)))))), ?_⟩
  exact ⟨_, rfl, v, 1, 1000000, rfl, th, q⟩
/-- a bead, a rule, as data -/
structure Rw where
  num : Int
  ac : Int
  we : Int
  sh : Str
  fo : Str
  dr : Bool
structure Rl where
  lo : Int
  hi : Int
  far : Int
  shd : Bool
def GoodRw (r : Rw) : Prop := whl (.int r.num) 1 1000000000 = true ∧ whl (.int r.ac) 1 1000000 = true ∧ whl (.int r.we) 1 1000000 = true ∧ nm (.str r.sh) = true ∧ nm (.str r.fo) = true
def GoodRl (u : Rl) : Prop := 0 ≤ u.lo ∧ u.lo ≤ u.hi ∧ 0 ≤ u.far
theorem short_name {z : Str} (h : nm (.str z) = true) : z.length ≤ 100000 := by
  have nmE : nm (.str z) = (decide (1 ≤ z.length) && decide (z.length ≤ 8) && z.cps.toList.all lower) := rfl
  rw [nmE] at h
  simp only [Bool.and_eq_true, decide_eq_true_eq] at h
  omega
def bf (r : Rw) : List (Str × V) := putF "drilled" (.bl r.dr) (putF "form" (.str r.fo) (putF "shade" (.str r.sh) (putF "weight" (.int r.we) (putF "across" (.int r.ac) (putF "number" (.int r.num) [])))))
theorem bf_number (r : Rw) : (bf r).lookup ("number" : Str) = some (.int r.num) := by
  unfold bf
  rw [lookup_putF, if_neg (by decide +kernel), lookup_putF, if_neg (by decide +kernel), lookup_putF, if_neg (by decide +kernel), lookup_putF, if_neg (by decide +kernel), lookup_putF, if_neg (by decide +kernel), lookup_putF, if_pos rfl]
theorem bf_across (r : Rw) : (bf r).lookup ("across" : Str) = some (.int r.ac) := by
  unfold bf
  rw [lookup_putF, if_neg (by decide +kernel), lookup_putF, if_neg (by decide +kernel), lookup_putF, if_neg (by decide +kernel), lookup_putF, if_neg (by decide +kernel), lookup_putF, if_pos rfl]
theorem bf_weight (r : Rw) : (bf r).lookup ("weight" : Str) = some (.int r.we) := by
  unfold bf
  rw [lookup_putF, if_neg (by decide +kernel), lookup_putF, if_neg (by decide +kernel), lookup_putF, if_neg (by decide +kernel), lookup_putF, if_pos rfl]
theorem bf_shade (r : Rw) : (bf r).lookup ("shade" : Str) = some (.str r.sh) := by
  unfold bf
  rw [lookup_putF, if_neg (by decide +kernel), lookup_putF, if_neg (by decide +kernel), lookup_putF, if_pos rfl]
theorem bf_form (r : Rw) : (bf r).lookup ("form" : Str) = some (.str r.fo) := by
  unfold bf
  rw [lookup_putF, if_neg (by decide +kernel), lookup_putF, if_pos rfl]
theorem bf_drilled (r : Rw) : (bf r).lookup ("drilled" : Str) = some (.bl r.dr) := by
  unfold bf
  rw [lookup_putF, if_pos rfl]
theorem bf_no (r : Rw) {m : Str} (h1 : ¬ m = "drilled") (h2 : ¬ m = "form") (h3 : ¬ m = "shade") (h4 : ¬ m = "weight") (h5 : ¬ m = "across") (h6 : ¬ m = "number") : (bf r).lookup m = none := by
  unfold bf
  rw [lookup_putF, if_neg h1, lookup_putF, if_neg h2, lookup_putF, if_neg h3, lookup_putF, if_neg h4, lookup_putF, if_neg h5, lookup_putF, if_neg h6]
  rfl
def uf (u : Rl) : List (Str × V) := putF "shades" (.bl u.shd) (putF "match" (.int u.far) (putF "most" (.int u.hi) (putF "least" (.int u.lo) [])))
theorem uf_least (u : Rl) : (uf u).lookup ("least" : Str) = some (.int u.lo) := by
  unfold uf
  rw [lookup_putF, if_neg (by decide +kernel), lookup_putF, if_neg (by decide +kernel), lookup_putF, if_neg (by decide +kernel), lookup_putF, if_pos rfl]
theorem uf_most (u : Rl) : (uf u).lookup ("most" : Str) = some (.int u.hi) := by
  unfold uf
  rw [lookup_putF, if_neg (by decide +kernel), lookup_putF, if_neg (by decide +kernel), lookup_putF, if_pos rfl]
theorem uf_match (u : Rl) : (uf u).lookup ("match" : Str) = some (.int u.far) := by
  unfold uf
  rw [lookup_putF, if_neg (by decide +kernel), lookup_putF, if_pos rfl]
theorem uf_shades (u : Rl) : (uf u).lookup ("shades" : Str) = some (.bl u.shd) := by
  unfold uf
  rw [lookup_putF, if_pos rfl]
theorem few {fs : List (Str × V)} {f : Str} {v : V} {n : Nat} (h : fs.length ≤ n) : (putF f v fs).length ≤ n + 1 := Nat.le_trans (length_putF f v fs) (by omega)
theorem few0 : ([] : List (Str × V)).length ≤ 0 := Nat.le_refl _
def BeadAt (C : Addr) (H : Hp) (p : Addr) (r : Rw) : Prop := ∃ dx, H p = some (.ins C dx (bf r))
def RuleAt (C : Addr) (H : Hp) (p : Addr) (u : Rl) : Prop := ∃ dx, H p = some (.ins C dx (uf u))
def spBead (C : Addr) : Sp := fun vs H Q _ => ∃ (p dx : Addr) (r : Rw), vs = [.ref p, .int r.num, .int r.ac, .int r.we, .str r.sh, .str r.fo, .bl r.dr] ∧ H p = some (.ins C dx []) ∧ GoodRw r ∧
  ∀ H' : Hp, BeadAt C H' p r → (∀ b o, H b = some o → b ≠ p → H' b = some o) → Q .non H'
theorem ok_Bead_init (T : Tx K mg) : FnOk P w K mg base CX0 4 T.A_Bead_init T.fd_Bead_init ["self", "number", "across", "weight", "shade", "form", "drilled"] (spBead T.C_Bead) := by
  refine okD T.F_Bead_init sc_Bead_init (fun vs H Q E h => ?_) (fun cdv A outer s H vs Q E hr h => ?_)
  · obtain ⟨p, dx, r, rfl, hp, ⟨g1, g2, g3, g4, g5⟩, q⟩ := h
    rfl
  obtain ⟨p, dx, r, rfl, hp, ⟨g1, g2, g3, g4, g5⟩, q⟩ := h
  refine ⟨_, (pss_cons (ps_if (pt_not (pt_val (pe_call (ok_is_number T) (hr.mono (by decide)) (by rfl) T.g_is_number T.F_is_number.kp T.b_is_number .nil pass0 (pa_cons (pv 1) pa_nil)))) (pss_one ps_never) pss_nil)
      (pss_cons (ps_if (PW.pt (pw_or (pt_not (pt_val (pe_call (ok_is_measure T) (hr.mono (by decide)) (by rfl) T.g_is_measure T.F_is_measure.kp T.b_is_measure .nil pass0 (pa_cons (pv 2) pa_nil)))) (pw_or1 (pt_not (pt_val (pe_call (ok_is_measure T) (hr.mono (by decide)) (by rfl) T.g_is_measure T.F_is_measure.kp T.b_is_measure .nil pass0 (pa_cons (pv 3) pa_nil))))))) (pss_one ps_never) pss_nil)
      (pss_cons (ps_if (PW.pt (pw_or (pt_not (pt_val (pe_call (ok_is_name T) (hr.mono (by decide)) (by rfl) T.g_is_name T.F_is_name.kp T.b_is_name .nil pass0 (pa_cons (pv 4) pa_nil)))) (pw_or1 (pt_not (pt_val (pe_call (ok_is_name T) (hr.mono (by decide)) (by rfl) T.g_is_name T.F_is_name.kp T.b_is_name .nil pass0 (pa_cons (pv 5) pa_nil))))))) (pss_one ps_never) pss_nil)
      (pss_cons (ps_if (pt_not (pt_val (pe_callB call_isi (by rfl) T.z_isinstance (by decide +kernel) (pa_cons (pv 6) (pa_cons (pe_bltn (v := .ty "bool") (by rfl) T.z_bool (by decide +kernel) rfl) pa_nil))))) (pss_one ps_never) pss_nil)
      (pss_cons (ps_fld (pv 0) (pv 1) rfl)
      (pss_cons (ps_fld (pv 0) (pv 2) rfl)
      (pss_cons (ps_fld (pv 0) (pv 3) rfl)
      (pss_cons (ps_fld (pv 0) (pv 4) rfl)
      (pss_cons (ps_fld (pv 0) (pv 5) rfl)
      (pss_one (ps_fld (pv 0) (pv 6) rfl))))))))))), ?_⟩
  refine ⟨_, rfl, _, rfl, .int _, _, rfl, ?_⟩
  rw [g1]
  refine iteF ⟨_, rfl, _, rfl, .int _, _, rfl, ?_⟩
  rw [g2]
  refine iteF ⟨_, rfl, _, rfl, .int _, _, rfl, ?_⟩
  rw [g3]
  refine iteF ⟨_, rfl, _, rfl, .str _, (fun z hz => by injection hz with hz; rw [← hz]; exact short_name g4), fun H1 s1 => ⟨_, rfl, ?_⟩⟩
  rw [g4]
  refine iteF ⟨_, rfl, _, rfl, .str _, (fun z hz => by injection hz with hz; rw [← hz]; exact short_name g5), fun H2 s2 => ⟨_, rfl, ?_⟩⟩
  rw [g5]
  refine iteF ⟨_, rfl, _, _, _, _, _, rfl, .ty _, .base (.bl _), kit_ty (r := true) (by decide +kernel), _, rfl, ?_⟩
  refine iteF ?_
  have h2 := s2 _ _ (s1 _ _ hp)
  refine ⟨_, rfl, _, rfl, p, _, dx, _, rfl, h2, T.cl_Bead, T.n_Bead_number, by decide, ?_⟩
  refine ⟨_, rfl, _, rfl, p, _, dx, _, rfl, upd_same, T.cl_Bead, T.n_Bead_across, Nat.lt_of_le_of_lt (few few0) (by decide), ?_⟩
  refine ⟨_, rfl, _, rfl, p, _, dx, _, rfl, upd_same, T.cl_Bead, T.n_Bead_weight, Nat.lt_of_le_of_lt (few (few few0)) (by decide), ?_⟩
  refine ⟨_, rfl, _, rfl, p, _, dx, _, rfl, upd_same, T.cl_Bead, T.n_Bead_shade, Nat.lt_of_le_of_lt (few (few (few few0))) (by decide), ?_⟩
  refine ⟨_, rfl, _, rfl, p, _, dx, _, rfl, upd_same, T.cl_Bead, T.n_Bead_form, Nat.lt_of_le_of_lt (few (few (few (few few0)))) (by decide), ?_⟩
  refine ⟨_, rfl, _, rfl, p, _, dx, _, rfl, upd_same, T.cl_Bead, T.n_Bead_drilled, Nat.lt_of_le_of_lt (few (few (few (few (few few0))))) (by decide), ?_⟩
  refine q _ ⟨dx, upd_same⟩ fun b o e hb => ?_
  rw [upd_ne hb, upd_ne hb, upd_ne hb, upd_ne hb, upd_ne hb, upd_ne hb]
  exact s2 _ _ (s1 _ _ e)
def rowVals (r : Rw) : List V := [.int r.num, .int r.ac, .int r.we, .str r.sh, .str r.fo, .bl r.dr]
def spRow (C : Addr) : Sp := fun vs H Q _ => ∃ (p : Addr) (r : Rw), vs = [.ref p] ∧ BeadAt C H p r ∧ ∀ t, H t = none → Q (.ref t) (upd H t (.tup (rowVals r)))
theorem ok_Bead_row (T : Tx K mg) : FnOk P w K mg base CX0 1 T.A_Bead_row T.fd_Bead_row ["self"] (spRow T.C_Bead) := by
  refine T.F_Bead_row.ok sc_Bead_row (fun vs H Q E h => ?_) (fun cdv A outer s H vs Q E hr h => ?_)
  · obtain ⟨p, r, rfl, ⟨dx, hp⟩, q⟩ := h
    rfl
  obtain ⟨p, r, rfl, ⟨dx, hp⟩, q⟩ := h
  refine ⟨_, (pss_one (ps_ret (pe_tup (pa_cons (pe_fld (pv 0) rfl) (pa_cons (pe_fld (pv 0) rfl) (pa_cons (pe_fld (pv 0) rfl) (pa_cons (pe_fld (pv 0) rfl) (pa_cons (pe_fld (pv 0) rfl) (pa_cons (pe_fld (pv 0) rfl) pa_nil))))))))), ?_⟩
  refine ⟨_, rfl, p, _, dx, _, _, rfl, hp, T.cl_Bead, T.n_Bead_number, bf_number r, ?_⟩
  refine ⟨_, rfl, p, _, dx, _, _, rfl, hp, T.cl_Bead, T.n_Bead_across, bf_across r, ?_⟩
  refine ⟨_, rfl, p, _, dx, _, _, rfl, hp, T.cl_Bead, T.n_Bead_weight, bf_weight r, ?_⟩
  refine ⟨_, rfl, p, _, dx, _, _, rfl, hp, T.cl_Bead, T.n_Bead_shade, bf_shade r, ?_⟩
  refine ⟨_, rfl, p, _, dx, _, _, rfl, hp, T.cl_Bead, T.n_Bead_form, bf_form r, ?_⟩
  refine ⟨_, rfl, p, _, dx, _, _, rfl, hp, T.cl_Bead, T.n_Bead_drilled, bf_drilled r, ?_⟩
  exact ⟨(by show 6 ≤ sizeLine; decide), fun t ht => q t ht⟩
def spRule (C : Addr) : Sp := fun vs H Q _ => ∃ (p dx : Addr) (u : Rl), vs = [.ref p, .int u.lo, .int u.hi, .int u.far, .bl u.shd] ∧ H p = some (.ins C dx []) ∧ GoodRl u ∧
  ∀ H' : Hp, RuleAt C H' p u → (∀ b o, H b = some o → b ≠ p → H' b = some o) → Q .non H'
theorem ok_Rule_init (T : Tx K mg) : FnOk P w K mg base CX0 3 T.A_Rule_init T.fd_Rule_init ["self", "least", "most", "match", "shades"] (spRule T.C_Rule) := by
  refine okD T.F_Rule_init sc_Rule_init (fun vs H Q E h => ?_) (fun cdv A outer s H vs Q E hr h => ?_)
  · obtain ⟨p, dx, u, rfl, hp, ⟨g1, g2, g3⟩, q⟩ := h
    rfl
  obtain ⟨p, dx, u, rfl, hp, ⟨g1, g2, g3⟩, q⟩ := h
  refine ⟨_, (pss_cons (ps_if (PW.pt (pw_or (pt_not (pt_val (pe_call (ok_is_from_nought T) (hr.mono (by decide)) (by rfl) T.g_is_from_nought T.F_is_from_nought.kp T.b_is_from_nought .nil pass0 (pa_cons (pv 1) pa_nil)))) (pw_or (pt_not (pt_val (pe_call (ok_is_from_nought T) (hr.mono (by decide)) (by rfl) T.g_is_from_nought T.F_is_from_nought.kp T.b_is_from_nought .nil pass0 (pa_cons (pv 2) pa_nil)))) (pw_or1 (pt_not (pt_val (pe_call (ok_is_from_nought T) (hr.mono (by decide)) (by rfl) T.g_is_from_nought T.F_is_from_nought.kp T.b_is_from_nought .nil pass0 (pa_cons (pv 3) pa_nil)))))))) (pss_one ps_never) pss_nil)
      (pss_cons (ps_if (pt_cmpR op_lt (pv 2) (pv 1) (nomark _)) (pss_one ps_never) pss_nil)
      (pss_cons (ps_if (pt_not (pt_val (pe_callB call_isi (by rfl) T.z_isinstance (by decide +kernel) (pa_cons (pv 4) (pa_cons (pe_bltn (v := .ty "bool") (by rfl) T.z_bool (by decide +kernel) rfl) pa_nil))))) (pss_one ps_never) pss_nil)
      (pss_cons (ps_fld (pv 0) (pv 1) rfl)
      (pss_cons (ps_fld (pv 0) (pv 2) rfl)
      (pss_cons (ps_fld (pv 0) (pv 3) rfl)
      (pss_one (ps_fld (pv 0) (pv 4) rfl)))))))), ?_⟩
  refine ⟨_, rfl, _, rfl, .int _, _, rfl, ?_⟩
  show if (!decide (0 ≤ u.lo)) = true then _ else _
  rw [decide_eq_true g1]
  refine iteF ⟨_, rfl, _, rfl, .int _, _, rfl, ?_⟩
  show if (!decide (0 ≤ u.hi)) = true then _ else _
  rw [decide_eq_true (show 0 ≤ u.hi by omega)]
  refine iteF ⟨_, rfl, _, rfl, .int _, _, rfl, ?_⟩
  show if (!decide (0 ≤ u.far)) = true then _ else _
  rw [decide_eq_true g3]
  refine iteF ⟨_, rfl, _, rfl, _, _, rfl, rfl, _, rfl, ?_⟩
  rw [decide_eq_false (show ¬ u.hi < u.lo by omega)]
  refine iteF ⟨_, rfl, _, _, _, _, _, rfl, .ty _, .base (.bl _), kit_ty (r := true) (by decide +kernel), _, rfl, ?_⟩
  refine iteF ?_
  refine ⟨_, rfl, _, rfl, p, _, dx, _, rfl, hp, T.cl_Rule, T.n_Rule_least, by decide, ?_⟩
  refine ⟨_, rfl, _, rfl, p, _, dx, _, rfl, upd_same, T.cl_Rule, T.n_Rule_most, Nat.lt_of_le_of_lt (few few0) (by decide), ?_⟩
  refine ⟨_, rfl, _, rfl, p, _, dx, _, rfl, upd_same, T.cl_Rule, T.n_Rule_match, Nat.lt_of_le_of_lt (few (few few0)) (by decide), ?_⟩
  refine ⟨_, rfl, _, rfl, p, _, dx, _, rfl, upd_same, T.cl_Rule, T.n_Rule_shades, Nat.lt_of_le_of_lt (few (few (few few0))) (by decide), ?_⟩
  refine q _ ⟨dx, upd_same⟩ fun b o e hb => ?_
  rw [upd_ne hb, upd_ne hb, upd_ne hb, upd_ne hb]
  exact e
end
end KB
namespace KB
open PySem PySem.Spec PyProof.Rows L2 KA
section
variable {P : Program} {w : World} {K : PySem.W.Frag} {mg : Str → Option Value} {base : Heap}
/-- a place of a row of beads -/
def BV (C : Addr) (H : Hp) (v : V) (o : Option Rw) : Prop := (v = .non ∧ o = none) ∨ ∃ p r, v = .ref p ∧ o = some r ∧ BeadAt C H p r
structure Bds (C : Addr) (H : Hp) (vs : List V) (rs : List (Option Rw)) : Prop where
  len : vs.length = rs.length
  at_ : ∀ (i : Nat) (v : V), vs[i]? = some v → ∃ o, rs[i]? = some o ∧ BV C H v o
theorem BV.same {C : Addr} {H H' : Hp} {v : V} {o : Option Rw} (s : NL H H') (h : BV C H v o) : BV C H' v o := by
  rcases h with h | ⟨p, r, h1, h2, dx, h3⟩
  · exact .inl h
  · exact .inr ⟨p, r, h1, h2, dx, s _ _ (fun _ z => by cases z) h3⟩
theorem Bds.same {C : Addr} {H H' : Hp} {vs : List V} {rs : List (Option Rw)} (s : NL H H') (h : Bds C H vs rs) : Bds C H' vs rs :=
  ⟨h.len, fun i v hv => by
    obtain ⟨o, h1, h2⟩ := h.at_ i v hv
    exact ⟨o, h1, h2.same s⟩⟩
theorem Bds.get {C : Addr} {H : Hp} {vs : List V} {rs : List (Option Rw)} (h : Bds C H vs rs) {i : Nat} {o : Option Rw} (ho : rs[i]? = some o) : ∃ v, vs[i]? = some v ∧ BV C H v o := by
  have hi : i < vs.length := by
    rw [h.len]
    exact (List.getElem?_eq_some_iff.mp ho).1
  obtain ⟨o', h1, h2⟩ := h.at_ i _ (List.getElem?_eq_getElem hi)
  have : o = o' := Option.some.inj (ho.symm.trans h1)
  subst this
  exact ⟨_, List.getElem?_eq_getElem hi, h2⟩
theorem Bds.bead {C : Addr} {H : Hp} {vs : List V} {rs : List (Option Rw)} (h : Bds C H vs rs) {i : Nat} {r : Rw} (ho : rs[i]? = some (some r)) : ∃ p dx, vs[i]? = some (.ref p) ∧ H p = some (.ins C dx (bf r)) := by
  obtain ⟨v, hv, h | ⟨p, r', h1, h2, dx, h3⟩⟩ := h.get ho
  · cases h.2
  · subst h1
    have : r = r' := Option.some.inj h2
    subst this
    exact ⟨p, dx, hv, h3⟩
/-! what is asked of a row, as functions -/
def isNum (n : Int) (o : Option Rw) : Bool := match o with
  | some r => decide (r.num = n)
  | none => false
def twice (rs : List (Option Rw)) (i : Nat) (n : Int) : Bool := (rs.take i).any (isNum n)
def stepBad (u : Rl) (d : Int) : Bool := decide (d < u.lo) || decide (u.hi < d)
def stepBars (rs : List (Option Rw)) (u : Rl) (i : Nat) (r : Rw) : Bool := if i = 0 ∨ 2 * i = rs.length then false else match rs[i - 1]? with
  | some (some q) => stepBad u (if rs.length < 2 * i then -(r.ac - q.ac) else r.ac - q.ac)
  | _ => false
def partner (rs : List (Option Rw)) (i : Nat) : Option Rw := if 2 * i < rs.length then none else match rs[rs.length - 1 - i]? with
  | some (some q) => some q
  | _ => none
def look (r p : Rw) : Bool := decide (r.sh = p.sh) && (decide (r.fo = p.fo) && decide (r.dr = p.dr))
def apart (a b : Int) : Int := if a - b < 0 then -(a - b) else a - b
def reason (rs : List (Option Rw)) (u : Rl) (i : Nat) (r : Rw) : V := if twice rs i r.num = true then .str "twice" else if stepBars rs u i r = true then .str "step" else match partner rs i with
  | none => .non
  | some p => if u.far < apart r.ac p.ac then .str "match" else if (u.shd && !look r p) = true then .str "shade" else .non
def barFrom (rs : List (Option Rw)) (u : Rl) : Nat → Nat → Option (Nat × V)
  | 0, _ => none
  | k + 1, i => match rs[i]? with
    | some (some r) => if reason rs u i r = .non then barFrom rs u k (i + 1) else some (i, reason rs u i r)
    | _ => barFrom rs u k (i + 1)
def bar (rs : List (Option Rw)) (u : Rl) : Option (Nat × V) := barFrom rs u rs.length 0
theorem fld_number {K : PySem.W.Frag} {C : Addr} {H : Hp} {p dx : Addr} {r : Rw} (h : H p = some (.ins C dx (bf r))) : True := trivial
def spStands (K : PySem.W.Frag) (C : Addr) : Sp := fun vs H Q _ => ∃ (b : Addr) (i : Nat) (xs : List V) (rs : List (Option Rw)) (r : Rw), vs = [.ref b, .int i] ∧ SqL K H b xs ∧ Bds C H xs rs ∧ rs[i]? = some (some r) ∧ rs.length ≤ 1000 ∧
  ∀ H', Same H H' → Q (.bl (twice rs i r.num)) H'
theorem ok_stands_ahead (T : Tx K mg) : FnOk P w K mg base CX0 1 T.A_stands_ahead T.fd_stands_ahead ["beads", "at"] (spStands K T.C_Bead) := by
  refine T.F_stands_ahead.ok sc_stands_ahead (fun vs H Q E h => ?_) (fun cdv A outer s H vs Q E hr h => ?_)
  · obtain ⟨b, i, xs, rs, r, rfl, hS, hB, hi, hl, q⟩ := h
    rfl
  obtain ⟨b, i, xs, rs, r, rfl, hS, hB, hi, hl, q⟩ := h
  refine ⟨_, (pss_cons (ps_set (i := 2) sc_stands_ahead.nd rfl (Or.inr rfl) (pe_fld (pe_ix ix_list (pv 0) (pv 1) (fun _ _ => rfl)) rfl))
      (pss_one (ps_ret (pe_callB (cr_any rfl) (by rfl) T.z_any (by decide +kernel) (pa_cons (pe_lc (own := [("bead", 3)]) (g := gName 3) (tt := tYes) rfl sc_stands_ahead.nd (pi_list (pe_slice sl_list (pv 0) po_none (po_some (pv 1)))) (blkOk_by (N := ["beads", "at", "number", "bead"]) (sc := defScope s_stands_ahead) (by decide +kernel)) (fun _ _ _ _ _ => (pg_name (i := 3) sc_stands_ahead.nd rfl (Or.inl rfl))) (fun _ _ _ _ _ => pts_nil) (fun _ _ _ _ _ => (pe_and (pe_cmpR op_notN (pv 3) pe_non (nomark _)) (pe_one (pe_cmpR op_eq (pe_fldK (K' := K) rfl (pv 3) rfl) (pv 2) (nomark _)))))) pa_nil))))), ?_⟩
  obtain ⟨p, dx, hp, hH⟩ := hB.bead hi
  refine ⟨_, rfl, _, rfl, b, xs, _, _, rfl, rfl, hS, atI_nat hp, p, _, dx, _, _, rfl, hH, T.cl_Bead, T.n_Bead_number, bf_number r, ?_⟩
  refine ⟨_, rfl, _, rfl, _, rfl, b, xs, rfl, hS, fun c hc => ?_⟩
  have s1 : Same H (upd H c (.lst (cutV xs none (some (i : Int))))) := same_upd hc
  refine ⟨c, rfl, ⟨_, SqL.of upd_same⟩, fun D hD => ?_⟩
  have hcut := cut_to xs i
  have hlen : (cutV xs none (some (i : Int))).length ≤ 10000 := by
    rw [hcut, List.length_take, hB.len]
    omega
  refine lc_vals (K := K) (a := c) hD (SqL.of upd_same) hlen (fun j => .bl (isNum r.num (rs.getD j none))) ?_ ?_
  · intro j x H2 R C hx s2 hR
    rw [hcut] at hx
    have hji : j < i := by
      have := (List.getElem?_eq_some_iff.mp hx).1
      rw [List.length_take] at this
      omega
    rw [List.getElem?_take_of_lt hji] at hx
    obtain ⟨o, ho, hv⟩ := hB.at_ j x hx
    have hv := hv.same (NL.of (s1.trans s2))
    have eo : rs.getD j none = o := by rw [List.getD_eq_getElem?_getD, ho]; rfl
    rw [eo] at hR
    refine ⟨rfl, yesT ⟨_, rfl, rfl, _, rfl, ?_⟩⟩
    rcases hv with ⟨rfl, rfl⟩ | ⟨p', r', rfl, rfl, dx', h'⟩
    · exact iteF hR
    · refine iteT ⟨_, rfl, p', _, dx', _, _, rfl, h', T.cl_Bead, T.n_Bead_number, bf_number r', _, rfl, rfl, ?_⟩
      have : decide (V.int r'.num = V.int r.num) = isNum r.num (some r') := by
        show _ = decide (r'.num = r.num)
        rw [decide_eq_decide]
        exact ⟨fun e => by injection e, fun e => by rw [e]⟩
      rw [this]
      exact hR
  · intro H' s' e'
    refine ⟨D, (List.range (cutV xs none (some (i : Int))).length).map (fun j => isNum r.num (rs.getD j none)), rfl, SqL.of (by rw [e', List.map_map]; rfl), ?_⟩
    have : ((List.range (cutV xs none (some (i : Int))).length).map (fun j => isNum r.num (rs.getD j none))).any id = twice rs i r.num := by
      unfold twice
      have : rs.take i = (List.range (cutV xs none (some (i : Int))).length).map (fun j => rs.getD j none) := by
        rw [hcut, List.length_take, hB.len]
        refine List.ext_getElem? fun j => ?_
        rw [List.getElem?_map]
        by_cases h : j < min i rs.length
        · rw [List.getElem?_range h, List.getElem?_take_of_lt (by omega)]
          show _ = some (rs.getD j none)
          rw [List.getD_eq_getElem?_getD, List.getElem?_eq_getElem (show j < rs.length by omega)]
          rfl
        · rw [List.getElem?_eq_none (by rw [List.length_take]; omega), List.getElem?_eq_none (by rw [List.length_range]; omega)]
          rfl
      rw [this, List.any_map, List.any_map]
      rfl
    rw [this]
    exact q H' (s1.trans s')
def spSteps (K : PySem.W.Frag) (C D : Addr) : Sp := fun vs H Q _ => ∃ (b m : Addr) (i : Nat) (xs : List V) (rs : List (Option Rw)) (r : Rw) (u : Rl), vs = [.ref b, .int i, .ref m] ∧ SqL K H b xs ∧ Bds C H xs rs ∧ RuleAt D H m u ∧ rs[i]? = some (some r) ∧ rs.length ≤ 1000 ∧
  Q (.bl (stepBars rs u i r)) H
theorem ok_breaks_step (T : Tx K mg) : FnOk P w K mg base CX0 1 T.A_breaks_step T.fd_breaks_step ["beads", "at", "rule"] (spSteps K T.C_Bead T.C_Rule) := by
  refine T.F_breaks_step.ok sc_breaks_step (fun vs H Q E h => ?_) (fun cdv A outer s H vs Q E hr h => ?_)
  · obtain ⟨b, m, i, xs, rs, r, u, rfl, hS, hB, ⟨dm, hm⟩, hi, hl, q⟩ := h
    rfl
  obtain ⟨b, m, i, xs, rs, r, u, rfl, hS, hB, ⟨dm, hm⟩, hi, hl, q⟩ := h
  refine ⟨_, (pss_cons (ps_if (PW.pt (pw_or (pt_cmpR op_eq (pv 1) pe_int (nomark _)) (pw_or (pt_cmpR op_eq (pe_op op_mul pe_int (pv 1)) (pe_callB call_len_seq (by rfl) T.z_len PySem.boot_len (pa_cons (pv 0) pa_nil)) (nomark _)) (pw_or1 (pt_cmpR op_isN (pe_ix ix_list (pv 0) (pe_op op_sub (pv 1) pe_int) (fun _ _ => rfl)) pe_non (nomark _)))))) (pss_one (ps_ret pe_bl)) pss_nil)
      (pss_cons (ps_set (i := 3) sc_breaks_step.nd rfl (Or.inl rfl) (pe_op op_sub (pe_fld (pe_ix ix_list (pv 0) (pv 1) (fun _ _ => rfl)) rfl) (pe_fld (pe_ix ix_list (pv 0) (pe_op op_sub (pv 1) pe_int) (fun _ _ => rfl)) rfl)))
      (pss_cons (ps_if (pt_cmpR op_gt (pe_op op_mul pe_int (pv 1)) (pe_callB call_len_seq (by rfl) T.z_len PySem.boot_len (pa_cons (pv 0) pa_nil)) (nomark _)) (pss_one (ps_set (i := 3) sc_breaks_step.nd rfl (Or.inl rfl) (pe_un un_neg (pv 3)))) pss_nil)
      (pss_one (ps_ret (pe_or (pe_cmpR op_lt (pv 3) (pe_fld (pv 2) rfl) (nomark _)) (pe_one (pe_cmpR op_gt (pv 3) (pe_fld (pv 2) rfl) (nomark _))))))))), ?_⟩
  obtain ⟨p, dx, hp, hH⟩ := hB.bead hi
  have hil : i < rs.length := (List.getElem?_eq_some_iff.mp hi).1
  have eL := hB.len
  refine ⟨_, rfl, rfl, _, rfl, ?_⟩
  by_cases h0 : i = 0
  · subst h0
    refine iteT (iteT ?_)
    have : stepBars rs u 0 r = false := by
      unfold stepBars
      rw [if_pos (Or.inl rfl)]
    rw [this] at q
    exact q
  · rw [decide_eq_false (show ¬ V.int (i : Int) = V.int 0 from fun e => h0 (by injection e with e; omega))]
    refine iteF ⟨_, rfl, _, _, rfl, rfl, .inl ⟨by decide, by decide⟩, _, rfl, b, xs, rfl, .inl hS, rfl, _, rfl, ?_⟩
    by_cases h1 : 2 * i = rs.length
    · rw [decide_eq_true (show V.int (2 * (i : Int)) = V.int (xs.length : Int) by congr 1; omega)]
      refine iteT (iteT ?_)
      have : stepBars rs u i r = false := by
        unfold stepBars
        rw [if_pos (Or.inr h1)]
      rw [this] at q
      exact q
    · rw [decide_eq_false (show ¬ V.int (2 * (i : Int)) = V.int (xs.length : Int) from fun e => h1 (by injection e with e; omega))]
      obtain ⟨o, ho⟩ : ∃ o, rs[i - 1]? = some o := ⟨_, List.getElem?_eq_getElem (by omega)⟩
      obtain ⟨v, hv, hbv⟩ := hB.get ho
      have hat : atI xs ((i : Int) - 1) = some v := at_of (j := i - 1) (by omega) hv
      refine iteF ⟨_, rfl, _, rfl, _, _, rfl, rfl, b, xs, _, v, rfl, rfl, hS, hat, rfl, _, rfl, ?_⟩
      have hS0 : ∀ x, x = stepBars rs u i r → Q (.bl x) H := fun x e => by rw [e]; exact q
      rcases hbv with ⟨rfl, rfl⟩ | ⟨p', r', rfl, rfl, dx', h'⟩
      · refine iteT ?_
        refine hS0 _ ?_
        unfold stepBars
        rw [if_neg (by omega), ho]
      · refine iteF ?_
        refine ⟨_, rfl, _, rfl, b, xs, _, _, rfl, rfl, hS, atI_nat hp, p, _, dx, _, _, rfl, hH, T.cl_Bead, T.n_Bead_across, bf_across r, ?_⟩
        refine ⟨_, rfl, _, rfl, _, _, rfl, rfl, b, xs, _, _, rfl, rfl, hS, hat, p', _, dx', _, _, rfl, h', T.cl_Bead, T.n_Bead_across, bf_across r', _, _, rfl, rfl, ?_⟩
        have eS : stepBars rs u i r = stepBad u (if rs.length < 2 * i then -(r.ac - r'.ac) else r.ac - r'.ac) := by
          unfold stepBars
          rw [if_neg (by omega), ho]
        refine ⟨_, rfl, _, _, rfl, rfl, .inl ⟨by decide, by decide⟩, _, rfl, b, xs, rfl, .inl hS, _, _, rfl, rfl, _, rfl, ?_⟩
        by_cases h2 : rs.length < 2 * i
        · rw [decide_eq_true (show (xs.length : Int) < 2 * (i : Int) by omega)]
          rw [if_pos h2] at eS
          refine iteT ⟨_, rfl, _, rfl, ?_⟩
          refine ⟨_, rfl, _, rfl, m, _, dm, _, _, rfl, hm, T.cl_Rule, T.n_Rule_least, uf_least u, _, _, rfl, rfl, _, rfl, ?_⟩
          by_cases h3 : -(r.ac - r'.ac) < u.lo
          · rw [decide_eq_true h3]
            refine iteT (hS0 _ ?_)
            rw [eS]
            unfold stepBad
            rw [decide_eq_true h3, Bool.true_or]
          · rw [decide_eq_false h3]
            refine iteF ⟨_, rfl, _, rfl, m, _, dm, _, _, rfl, hm, T.cl_Rule, T.n_Rule_most, uf_most u, _, _, rfl, rfl, hS0 _ ?_⟩
            rw [eS]
            unfold stepBad
            rw [decide_eq_false h3, Bool.false_or]
        · rw [decide_eq_false (show ¬ (xs.length : Int) < 2 * (i : Int) by omega)]
          rw [if_neg h2] at eS
          refine iteF ?_
          refine ⟨_, rfl, _, rfl, m, _, dm, _, _, rfl, hm, T.cl_Rule, T.n_Rule_least, uf_least u, _, _, rfl, rfl, _, rfl, ?_⟩
          by_cases h3 : (r.ac - r'.ac) < u.lo
          · rw [decide_eq_true h3]
            refine iteT (hS0 _ ?_)
            rw [eS]
            unfold stepBad
            rw [decide_eq_true h3, Bool.true_or]
          · rw [decide_eq_false h3]
            refine iteF ⟨_, rfl, _, rfl, m, _, dm, _, _, rfl, hm, T.cl_Rule, T.n_Rule_most, uf_most u, _, _, rfl, rfl, hS0 _ ?_⟩
            rw [eS]
            unfold stepBad
            rw [decide_eq_false h3, Bool.false_or]
end
end KB
namespace KB
open PySem PySem.Spec PyProof.Rows L2 KA
section
variable {P : Program} {w : World} {K : PySem.W.Frag} {mg : Str → Option Value} {base : Heap}
def PV (C : Addr) (H : Hp) (v : V) (o : Option Rw) : Prop := BV C H v o
def spPartner (K : PySem.W.Frag) (C : Addr) : Sp := fun vs H Q _ => ∃ (b : Addr) (i : Nat) (xs : List V) (rs : List (Option Rw)), vs = [.ref b, .int i] ∧ SqL K H b xs ∧ Bds C H xs rs ∧ i < rs.length ∧ rs.length ≤ 1000 ∧
  ∀ v, BV C H v (partner rs i) → Q v H
theorem ok_partner_of (T : Tx K mg) : FnOk P w K mg base CX0 1 T.A_partner_of T.fd_partner_of ["beads", "at"] (spPartner K T.C_Bead) := by
  refine T.F_partner_of.ok sc_partner_of (fun vs H Q E h => ?_) (fun cdv A outer s H vs Q E hr h => ?_)
  · obtain ⟨b, i, xs, rs, rfl, hS, hB, hi, hl, q⟩ := h
    rfl
  obtain ⟨b, i, xs, rs, rfl, hS, hB, hi, hl, q⟩ := h
  refine ⟨_, (pss_cons (ps_if (pt_cmpR op_lt (pe_op op_mul pe_int (pv 1)) (pe_callB call_len_seq (by rfl) T.z_len PySem.boot_len (pa_cons (pv 0) pa_nil)) (nomark _)) (pss_one (ps_ret pe_non)) pss_nil)
      (pss_one (ps_ret (pe_ix ix_list (pv 0) (pe_op op_sub (pe_op op_sub (pe_callB call_len_seq (by rfl) T.z_len PySem.boot_len (pa_cons (pv 0) pa_nil)) pe_int) (pv 1)) (fun _ _ => rfl))))), ?_⟩
  have eL := hB.len
  refine ⟨_, rfl, _, _, rfl, rfl, .inl ⟨by decide, by decide⟩, _, rfl, b, xs, rfl, .inl hS, _, _, rfl, rfl, _, rfl, ?_⟩
  by_cases h : 2 * i < rs.length
  · rw [decide_eq_true (show 2 * (i : Int) < (xs.length : Int) by omega)]
    refine iteT (q _ (.inl ⟨rfl, ?_⟩))
    unfold partner
    rw [if_pos h]
  · rw [decide_eq_false (show ¬ 2 * (i : Int) < (xs.length : Int) by omega)]
    obtain ⟨o, ho⟩ : ∃ o, rs[rs.length - 1 - i]? = some o := ⟨_, List.getElem?_eq_getElem (by omega)⟩
    obtain ⟨v, hv, hbv⟩ := hB.get ho
    refine iteF ⟨_, rfl, _, rfl, b, xs, rfl, .inl hS, _, _, rfl, rfl, _, rfl, _, _, rfl, rfl, b, xs, _, v, rfl, rfl, hS, at_of (j := rs.length - 1 - i) (by omega) hv, q v ?_⟩
    have : partner rs i = o := by
      unfold partner
      rw [if_neg h, ho]
      cases o <;> rfl
    rw [this]
    exact hbv
def spLook (C : Addr) : Sp := fun vs H Q _ => ∃ (p p' : Addr) (r r' : Rw), vs = [.ref p, .ref p'] ∧ BeadAt C H p r ∧ BeadAt C H p' r' ∧ Q (.bl (look r r')) H
theorem dec_str (a b : Str) : decide (V.str a = V.str b) = decide (a = b) := by
  rw [decide_eq_decide]
  exact ⟨fun e => by injection e, fun e => by rw [e]⟩
theorem dec_bl (a b : Bool) : decide (V.bl a = V.bl b) = decide (a = b) := by
  rw [decide_eq_decide]
  exact ⟨fun e => by injection e, fun e => by rw [e]⟩
theorem ok_same_look (T : Tx K mg) : FnOk P w K mg base CX0 1 T.A_same_look T.fd_same_look ["bead", "other"] (spLook T.C_Bead) := by
  refine T.F_same_look.ok sc_same_look (fun vs H Q E h => ?_) (fun cdv A outer s H vs Q E hr h => ?_)
  · obtain ⟨p, p', r, r', rfl, ⟨dx, hp⟩, ⟨dx', hp'⟩, q⟩ := h
    rfl
  obtain ⟨p, p', r, r', rfl, ⟨dx, hp⟩, ⟨dx', hp'⟩, q⟩ := h
  refine ⟨_, (pss_one (ps_ret (pe_and (pe_cmpR op_eq (pe_fld (pv 0) rfl) (pe_fld (pv 1) rfl) (nomark _)) (pe_and (pe_cmpR op_eq (pe_fld (pv 0) rfl) (pe_fld (pv 1) rfl) (nomark _)) (pe_one (pe_cmpR op_eq (pe_fld (pv 0) rfl) (pe_fld (pv 1) rfl) (nomark _))))))), ?_⟩
  refine ⟨_, rfl, p, _, dx, _, _, rfl, hp, T.cl_Bead, T.n_Bead_shade, bf_shade r, _, rfl, p', _, dx', _, _, rfl, hp', T.cl_Bead, T.n_Bead_shade, bf_shade r', rfl, _, rfl, ?_⟩
  rw [dec_str]
  have e : look r r' = (decide (r.sh = r'.sh) && (decide (r.fo = r'.fo) && decide (r.dr = r'.dr))) := rfl
  by_cases h1 : r.sh = r'.sh
  · rw [decide_eq_true h1, Bool.true_and] at e
    rw [decide_eq_true h1]
    refine iteT ⟨_, rfl, p, _, dx, _, _, rfl, hp, T.cl_Bead, T.n_Bead_form, bf_form r, _, rfl, p', _, dx', _, _, rfl, hp', T.cl_Bead, T.n_Bead_form, bf_form r', rfl, _, rfl, ?_⟩
    rw [dec_str]
    by_cases h2 : r.fo = r'.fo
    · rw [decide_eq_true h2, Bool.true_and] at e
      rw [decide_eq_true h2]
      refine iteT ⟨_, rfl, p, _, dx, _, _, rfl, hp, T.cl_Bead, T.n_Bead_drilled, bf_drilled r, _, rfl, p', _, dx', _, _, rfl, hp', T.cl_Bead, T.n_Bead_drilled, bf_drilled r', rfl, ?_⟩
      rw [dec_bl, ← e]
      exact q
    · rw [decide_eq_false h2] at e ⊢
      rw [e] at q
      exact iteF q
  · rw [decide_eq_false h1] at e ⊢
    rw [e] at q
    exact iteF q
def spReason (K : PySem.W.Frag) (C D : Addr) : Sp := fun vs H Q _ => ∃ (b m : Addr) (i : Nat) (xs : List V) (rs : List (Option Rw)) (r : Rw) (u : Rl), vs = [.ref b, .int i, .ref m] ∧ SqL K H b xs ∧ Bds C H xs rs ∧ RuleAt D H m u ∧ rs[i]? = some (some r) ∧ rs.length ≤ 1000 ∧
  ∀ H', Same H H' → Q (reason rs u i r) H'
theorem ok_reason_at (T : Tx K mg) : FnOk P w K mg base CX0 2 T.A_reason_at T.fd_reason_at ["beads", "at", "rule"] (spReason K T.C_Bead T.C_Rule) := by
  refine T.F_reason_at.ok sc_reason_at (fun vs H Q E h => ?_) (fun cdv A outer s H vs Q E hr h => ?_)
  · obtain ⟨b, m, i, xs, rs, r, u, rfl, hS, hB, ⟨dm, hm⟩, hi, hl, q⟩ := h
    rfl
  obtain ⟨b, m, i, xs, rs, r, u, rfl, hS, hB, ⟨dm, hm⟩, hi, hl, q⟩ := h
  refine ⟨_, (pss_cons (ps_if (pt_val (pe_call (ok_stands_ahead T) (hr.mono (by decide)) (by rfl) T.g_stands_ahead T.F_stands_ahead.kp T.b_stands_ahead .nil pass0 (pa_cons (pv 0) (pa_cons (pv 1) pa_nil)))) (pss_one (ps_ret pe_str)) pss_nil)
      (pss_cons (ps_if (pt_val (pe_call (ok_breaks_step T) (hr.mono (by decide)) (by rfl) T.g_breaks_step T.F_breaks_step.kp T.b_breaks_step .nil pass0 (pa_cons (pv 0) (pa_cons (pv 1) (pa_cons (pv 2) pa_nil))))) (pss_one (ps_ret pe_str)) pss_nil)
      (pss_cons (ps_set (i := 3) sc_reason_at.nd rfl (Or.inl rfl) (pe_ix ix_list (pv 0) (pv 1) (fun _ _ => rfl)))
      (pss_cons (ps_set (i := 4) sc_reason_at.nd rfl (Or.inl rfl) (pe_call (ok_partner_of T) (hr.mono (by decide)) (by rfl) T.g_partner_of T.F_partner_of.kp T.b_partner_of .nil pass0 (pa_cons (pv 0) (pa_cons (pv 1) pa_nil))))
      (pss_cons (ps_if (pt_cmpR op_isN (pv 4) pe_non (nomark _)) (pss_one (ps_ret pe_non)) pss_nil)
      (pss_cons (ps_if (pt_cmpR op_gt (pe_callB call_abs (by rfl) T.z_abs (by decide +kernel) (pa_cons (pe_op op_sub (pe_fld (pv 3) rfl) (pe_fld (pv 4) rfl)) pa_nil)) (pe_fld (pv 2) rfl) (nomark _)) (pss_one (ps_ret pe_str)) pss_nil)
      (pss_cons (ps_if (PW.pt (pw_and (pt_val (pe_fld (pv 2) rfl)) (pw_and1 (pt_not (pt_val (pe_call (ok_same_look T) (hr.mono (by decide)) (by rfl) T.g_same_look T.F_same_look.kp T.b_same_look .nil pass0 (pa_cons (pv 3) (pa_cons (pv 4) pa_nil)))))))) (pss_one (ps_ret pe_str)) pss_nil)
      (pss_one (ps_ret pe_non))))))))), ?_⟩
  obtain ⟨p, dx, hp, hH⟩ := hB.bead hi
  have hil : i < rs.length := (List.getElem?_eq_some_iff.mp hi).1
  refine ⟨_, rfl, _, rfl, b, i, xs, rs, r, rfl, hS, hB, hi, hl, fun H1 s1 => ⟨_, rfl, ?_⟩⟩
  have hS1 := s1.seq hS
  have hB1 := hB.same (NL.of s1)
  have hm1 := s1 _ _ hm
  have q := q H1 s1
  unfold reason at q
  by_cases h1 : twice rs i r.num = true
  · rw [h1]
    rw [if_pos h1] at q
    exact iteT q
  · rw [if_neg h1] at q
    rw [Bool.not_eq_true] at h1
    rw [h1]
    refine iteF ⟨_, rfl, _, rfl, _, rfl, b, m, i, xs, rs, r, u, rfl, hS1, hB1, ⟨dm, hm1⟩, hi, hl, _, rfl, ?_⟩
    by_cases h2 : stepBars rs u i r = true
    · rw [h2]
      rw [if_pos h2] at q
      exact iteT q
    · rw [if_neg h2] at q
      rw [Bool.not_eq_true] at h2
      rw [h2]
      refine iteF ⟨_, rfl, _, rfl, b, xs, _, _, rfl, rfl, hS1, atI_nat hp, ?_⟩
      refine ⟨_, rfl, _, rfl, b, i, xs, rs, rfl, hS1, hB1, hil, hl, fun v hv => ?_⟩
      refine ⟨_, rfl, rfl, _, rfl, ?_⟩
      rcases hv with ⟨rfl, e⟩ | ⟨p', r', rfl, e, dx', h'⟩
      · rw [e] at q
        exact iteT q
      · rw [e] at q
        have q : Q (if u.far < apart r.ac r'.ac then .str "match" else if (u.shd && !look r r') = true then .str "shade" else .non) H1 := q
        refine iteF ?_
        have hH1 := s1 _ _ hH
        refine ⟨_, rfl, p, _, dx, _, _, rfl, hH1, T.cl_Bead, T.n_Bead_across, bf_across r, _, rfl, p', _, dx', _, _, rfl, h', T.cl_Bead, T.n_Bead_across, bf_across r', _, _, rfl, rfl, _, rfl, ?_⟩
        refine ⟨_, rfl, m, _, dm, _, _, rfl, hm1, T.cl_Rule, T.n_Rule_match, uf_match u, _, _, rfl, rfl, _, rfl, ?_⟩
        show if decide (u.far < apart r.ac r'.ac) = true then _ else _
        by_cases h3 : u.far < apart r.ac r'.ac
        · rw [decide_eq_true h3]
          rw [if_pos h3] at q
          exact iteT q
        · rw [decide_eq_false h3]
          rw [if_neg h3] at q
          refine iteF ⟨_, rfl, m, _, dm, _, _, rfl, hm1, T.cl_Rule, T.n_Rule_shades, uf_shades u, _, rfl, ?_⟩
          by_cases h4 : u.shd = true
          · rw [h4, Bool.true_and] at q
            rw [h4]
            refine iteT ⟨_, rfl, _, rfl, p, p', r, r', rfl, ⟨dx, hH1⟩, ⟨dx', h'⟩, _, rfl, ?_⟩
            by_cases h5 : (!look r r') = true
            · rw [if_pos h5] at q
              rw [h5]
              exact iteT q
            · rw [if_neg h5] at q
              rw [Bool.not_eq_true] at h5
              rw [h5]
              exact iteF q
          · rw [Bool.not_eq_true] at h4
            rw [h4] at q ⊢
            exact iteF (iteF q)
/-- what barred tells -/
def OutV (H : Hp) (o : Option (Nat × V)) (v : V) : Prop := match o with
  | none => v = .non
  | some (i, x) => ∃ t, v = .ref t ∧ H t = some (.tup [.int i, x])
def spBarred (K : PySem.W.Frag) (C D : Addr) : Sp := fun vs H Q _ => ∃ (b m : Addr) (xs : List V) (rs : List (Option Rw)) (u : Rl), vs = [.ref b, .ref m] ∧ SqL K H b xs ∧ Bds C H xs rs ∧ RuleAt D H m u ∧ rs.length ≤ 1000 ∧
  ∀ H' v, Same H H' → OutV H' (bar rs u) v → Q v H'
theorem barFrom_gap {rs : List (Option Rw)} {u : Rl} {k i : Nat} (h : rs[i]? = some none) : barFrom rs u (k + 1) i = barFrom rs u k (i + 1) := by
  show (match rs[i]? with | some (some r) => _ | _ => _) = _
  rw [h]
theorem barFrom_ok {rs : List (Option Rw)} {u : Rl} {k i : Nat} {r : Rw} (h : rs[i]? = some (some r)) (e : reason rs u i r = .non) : barFrom rs u (k + 1) i = barFrom rs u k (i + 1) := by
  show (match rs[i]? with | some (some r) => _ | _ => _) = _
  rw [h]
  exact if_pos e
theorem barFrom_bad {rs : List (Option Rw)} {u : Rl} {k i : Nat} {r : Rw} (h : rs[i]? = some (some r)) (e : ¬ reason rs u i r = .non) : barFrom rs u (k + 1) i = some (i, reason rs u i r) := by
  show (match rs[i]? with | some (some r) => _ | _ => _) = _
  rw [h]
  exact if_neg e
theorem ok_barred (T : Tx K mg) : FnOk P w K mg base CX0 3 T.A_barred T.fd_barred ["beads", "rule"] (spBarred K T.C_Bead T.C_Rule) := by
  refine T.F_barred.ok sc_barred (fun vs H Q E h => ?_) (fun cdv A outer s H vs Q E hr h => ?_)
  · obtain ⟨b, m, xs, rs, u, rfl, hS, hB, hM, hl, q⟩ := h
    rfl
  obtain ⟨b, m, xs, rs, u, rfl, hS, hB, hM, hl, q⟩ := h
  refine ⟨_, (pss_cons (ps_for PassesOwn.never rfl (pi_enum (by rfl) T.z_enumerate (pa_cons (pv 0) pa_nil)) (pg_tup (by rfl) (pgs_cons (pg_name (i := 2) sc_barred.nd rfl (Or.inl rfl)) (pgs_cons (pg_name (i := 3) sc_barred.nd rfl (Or.inl rfl)) pgs_nil)))
        (pss_one (ps_if (pt_cmpR op_notN (pv 3) pe_non (nomark _)) (pss_cons (ps_set (i := 4) sc_barred.nd rfl (Or.inl rfl) (pe_call (ok_reason_at T) (hr.mono (by decide)) (by rfl) T.g_reason_at T.F_reason_at.kp T.b_reason_at .nil pass0 (pa_cons (pv 0) (pa_cons (pv 2) (pa_cons (pv 1) pa_nil)))))
      (pss_one (ps_if (pt_cmpR op_notN (pv 4) pe_non (nomark _)) (pss_one (ps_ret (pe_tup (pa_cons (pv 2) (pa_cons (pv 4) pa_nil))))) pss_nil))) pss_nil)))
      (pss_one (ps_ret pe_non))), ?_⟩
  have eL := hB.len
  refine ⟨_, rfl, b, xs, rfl, hS, for_it (walk_enum (K := K) (a := b) (xs := xs)) (fun i σ H' => ∃ w2 w3 w4, σ = [some (.ref b), some (.ref m), w2, w3, w4] ∧ Same H H' ∧ bar rs u = barFrom rs u (rs.length - i) i) ⟨_, _, _, rfl, Same.refl H, rfl⟩ (fun i σ H' _ h => ?_) ?_ ?_⟩
  · obtain ⟨_, _, _, _, s, _⟩ := h
    exact s.seq hS
  · rintro i x σ H1 H2 hi ⟨w2, w3, w4, rfl, s1, hbar⟩ ⟨t, x1, x2, rfl, nt, rfl, e1, e2⟩
    obtain rfl : V.int (i : Nat) = x1 := Option.some.inj e1
    obtain ⟨o, ho, hv⟩ := hB.at_ i x2 e2
    have st : Same H1 (upd H1 t (.tup [.int (i : Nat), x2])) := same_upd nt
    have s2 := s1.trans st
    have hv := hv.same (NL.of s2)
    obtain ⟨k, hk⟩ : ∃ k, rs.length - i = k + 1 := ⟨rs.length - i - 1, by omega⟩
    have hk' : rs.length - (i + 1) = k := by omega
    rw [hk] at hbar
    refine ⟨t, _, rfl, .inl (.inl upd_same), rfl, _, [x2], rfl, x2, [], rfl, rfl, ?_⟩
    refine ⟨_, rfl, rfl, _, rfl, ?_⟩
    rcases hv with ⟨rfl, rfl⟩ | ⟨p, r, rfl, rfl, hp⟩
    · refine iteF ⟨_, _, _, rfl, s2, ?_⟩
      rw [hbar, hk', barFrom_gap ho]
    · refine iteT ⟨_, rfl, _, rfl, _, rfl, b, m, i, xs, rs, r, u, rfl, s2.seq hS, hB.same (NL.of s2), ?_, ho, hl, fun H3 s3 => ?_⟩
      · obtain ⟨dm, hm⟩ := hM
        exact ⟨dm, s2 _ _ hm⟩
      · refine ⟨_, rfl, rfl, _, rfl, ?_⟩
        by_cases h : reason rs u i r = .non
        · rw [decide_eq_true h]
          refine iteF ⟨_, _, _, rfl, s2.trans s3, ?_⟩
          rw [hbar, hk', barFrom_ok ho h]
        · rw [decide_eq_false h]
          refine iteT ⟨_, rfl, _, rfl, (by show 2 ≤ sizeLine; decide), fun t2 ht2 => ?_⟩
          refine q _ _ ((s2.trans s3).trans (same_upd ht2)) ?_
          rw [hbar, barFrom_bad ho h]
          exact ⟨t2, rfl, upd_same⟩
  · rintro σ H1 ⟨w2, w3, w4, rfl, s1, hbar⟩
    refine q _ _ s1 ?_
    rw [hbar, show rs.length - xs.length = 0 by omega]
    rfl
end
end KB
namespace KB
open PySem PySem.Spec PyProof.Rows L2 KA
section
variable {P : Program} {w : World} {K : PySem.W.Frag} {mg : Str → Option Value} {base : Heap}
def PT : Int → Prop := fun _ => True
theorem dr_nl {PP : Int → Prop} {d : Addr} {n : Nat} {H H' : Hp} (dr : Dr PP d n H) (b : But d H H') : NL H H' := fun c o hn hc => by
  obtain ⟨_, _, _, e, _⟩ := dr
  exact b c o (fun z => by rw [z, e] at hc; exact hn _ (Option.some.inj hc).symm) hc
def spCell (K : PySem.W.Frag) : Sp := fun vs H Q _ => ∃ (a : Addr) (ns : List Int) (k : Nat), vs = [.ref a, .int k] ∧ SqL K H a (ns.map V.int) ∧ ∀ n : Int, Q (.int n) H
theorem ok_cell_at (T : Tx K mg) : FnOk P w K mg base CX0 1 T.A_cell_at T.fd_cell_at ["_law_script", "_law_k"] (spCell K) := by
  refine T.F_cell_at.ok sc_cell_at (fun vs H Q E h => ?_) (fun cdv A outer s H vs Q E hr h => ?_)
  · obtain ⟨a, ns, k, rfl, hS, q⟩ := h
    rfl
  obtain ⟨a, ns, k, rfl, hS, q⟩ := h
  refine ⟨_, (pss_cons (ps_if (pt_cmpR op_lt (pv 1) (pe_callB call_len_seq (by rfl) T.z_len PySem.boot_len (pa_cons (pv 0) pa_nil)) (nomark _)) (pss_one (ps_ret (pe_ix ix_list (pv 0) (pv 1) (fun _ _ => rfl)))) pss_nil)
      (pss_one (ps_ret pe_int))), ?_⟩
  refine ⟨_, rfl, _, rfl, a, _, rfl, .inl hS, _, _, rfl, rfl, _, rfl, ?_⟩
  by_cases h : k < ns.length
  · rw [decide_eq_true (show ((k : Nat) : Int) < ((ns.map V.int).length : Int) by rw [List.length_map]; omega)]
    exact iteT ⟨_, rfl, _, rfl, a, _, _, _, rfl, rfl, hS, atI_nat (j := k) (by rw [List.getElem?_map, List.getElem?_eq_getElem h]; rfl), q _⟩
  · rw [decide_eq_false (show ¬ ((k : Nat) : Int) < ((ns.map V.int).length : Int) by rw [List.length_map]; omega)]
    exact iteF (q _)
def spWell : Sp := fun vs H Q _ => ∃ (n : Int), vs = [.int n] ∧ ∀ (d : Addr) (H' : Hp), H d = none → Same H H' → Dr PT d 0 H' → Q (.ref d) H'
theorem ok_well (T : Tx K mg) : FnOk P w K mg base CX0 1 T.A_well T.fd_well ["_law_cell"] (spWell) := by
  refine T.F_well.ok sc_well (fun vs H Q E h => ?_) (fun cdv A outer s H vs Q E hr h => ?_)
  · obtain ⟨n, rfl, q⟩ := h
    rfl
  obtain ⟨n, rfl, q⟩ := h
  refine ⟨_, (pss_one (ps_ret (pe_lst (pa_cons (pe_ix ix_list (pe_lst (pa_cons pe_int (pa_cons (pv 0) pa_nil))) (pe_callTy call_int1 (by rfl) T.z_int (by decide +kernel) (pa_cons (pe_cmpR op_ge (pv 0) (pe_op op_pow pe_int pe_int) (nomark _)) pa_nil)) (fun _ _ => rfl)) (pa_cons (pv 0) (pa_cons pe_int pa_nil)))))), ?_⟩
  refine ⟨_, rfl, (by show 2 ≤ sizeLine; decide), fun l hl => ?_⟩
  refine ⟨_, rfl, _, _, rfl, rfl, ⟨by decide, by decide, by decide⟩, _, _, rfl, rfl, .inr ⟨_, rfl, ?_⟩⟩
  obtain ⟨a, ha⟩ : ∃ a : Int, atI [V.int 0, V.int n] (if decide (10 ^ (18 : Int).toNat ≤ n) = true then (1 : Int) else 0) = some (.int a) := by
    split
    · exact ⟨n, rfl⟩
    · exact ⟨0, rfl⟩
  refine ⟨l, _, _, _, rfl, rfl, SqL.of upd_same, ha, _, rfl, (by show 3 ≤ sizeLine; decide), fun d hd => ?_⟩
  have s1 : Same H (upd H l (.lst [.int 0, .int n])) := same_upd hl
  exact q d _ (s1.free hd) (s1.trans (same_upd hd)) ⟨_, _, _, upd_same, trivial, Int.le_refl _, Int.le_refl _⟩
def spDraw : Sp := fun vs H Q _ => ∃ (d : Addr) (m : Int) (n : Nat), vs = [.ref d, .int m] ∧ 0 < m ∧ m.natAbs.log2 < 9000 ∧ Dr PT d n H ∧ n ≤ 1000000 ∧
  ∀ (H' : Hp) (r : Int), 0 ≤ r → r < m → But d H H' → Dr PT d (n + 1) H' → Q (.int r) H'
theorem ok_draw (T : Tx K mg) : FnOk P w K mg base CX0 1 T.A_draw T.fd_draw ["_law_well_here", "_law_many"] (spDraw) := by
  refine T.F_draw.ok sc_draw (fun vs H Q E h => ?_) (fun cdv A outer s H vs Q E hr h => ?_)
  · obtain ⟨d, m, n, rfl, hm, hl, ⟨a, b, c, hd, _, hc0, hc1⟩, hn, q⟩ := h
    rfl
  obtain ⟨d, m, n, rfl, hm, hl, ⟨a, b, c, hd, _, hc0, hc1⟩, hn, q⟩ := h
  refine ⟨_, (pss_cons (ps_if (pt_cmpR op_gt (pe_ix ix_list (pv 0) pe_int (fun _ _ => rfl)) pe_int (nomark _)) (pss_cons (ps_set (i := 2) sc_draw.nd rfl (Or.inl rfl) (pe_op op_mod (pe_ix ix_list (pv 0) pe_int (fun _ _ => rfl)) (pv 1)))
      (pss_cons (ps_asg (pe_op op_fdivW (pe_ix ix_list (pv 0) pe_int (fun _ _ => rfl)) (pv 1)) (pg_sub (pv 0) pe_int set_list))
      (pss_one (ps_ret (pv 2))))) pss_nil)
      (pss_cons (ps_asg (pe_op op_add (pe_ix ix_list (pv 0) pe_int (fun _ _ => rfl)) pe_int) (pg_sub (pv 0) pe_int set_list))
      (pss_cons (ps_set (i := 3) sc_draw.nd rfl (Or.inl rfl) (pe_op op_mod (pe_op op_fdivW (pe_ix ix_list (pv 0) pe_int (fun _ _ => rfl)) pe_int) pe_int))
      (pss_cons (ps_set (i := 4) sc_draw.nd rfl (Or.inl rfl) (pe_op op_mod (pe_op op_pow (pe_op op_add (pe_op op_add (pe_op op_add (pe_op op_mod (pe_ix ix_list (pv 0) pe_int (fun _ _ => rfl)) pe_int) (pe_op op_mul pe_int (pe_ix ix_list (pv 0) pe_int (fun _ _ => rfl)))) (pv 3)) pe_int) pe_int) pe_int))
      (pss_cons (ps_set (i := 4) sc_draw.nd rfl (Or.inl rfl) (pe_op op_mod (pe_op op_mul (pv 4) (pe_op op_add (pe_op op_add (pe_op op_fdiv (pv 4) pe_int) pe_int) (pe_ix ix_list (pv 0) pe_int (fun _ _ => rfl)))) pe_int))
      (pss_one (ps_ret (pe_op op_mod (pe_op op_mod (pe_op op_mul (pv 4) (pe_op op_add (pe_op op_fdiv (pv 4) pe_int) pe_int)) pe_int) (pv 1))))))))), ?_⟩
  refine ⟨_, rfl, d, _, _, _, rfl, rfl, SqL.of hd, atI_nat (j := 0) rfl, _, _, rfl, rfl, _, rfl, ite2 (fun e => ?_) (fun e => ?_)⟩
  · refine ⟨_, rfl, d, _, _, _, rfl, rfl, SqL.of hd, atI_nat (j := 0) rfl, _, rfl, _, _, rfl, rfl, hm, ?_⟩
    refine ⟨_, rfl, d, _, _, _, rfl, rfl, SqL.of hd, atI_nat (j := 0) rfl, _, rfl, _, _, rfl, rfl, ⟨hm, hl⟩, ?_⟩
    refine ⟨_, rfl, d, _, _, 0, rfl, rfl, hd, rfl, ?_⟩
    exact ⟨_, rfl, q _ _ (Int.emod_nonneg _ (by omega)) (Int.emod_lt_of_pos _ hm) But.at_ ⟨_, _, _, upd_same, trivial, hc0, by omega⟩⟩
  · refine ⟨_, rfl, d, _, _, _, rfl, rfl, SqL.of hd, atI_nat (j := 2) rfl, _, _, rfl, rfl, ?_⟩
    refine ⟨_, rfl, d, _, _, 2, rfl, rfl, hd, rfl, ?_⟩
    have hd' : (upd H d (.lst [.int a, .int b, .int (c + 1)])) d = some (.lst [.int a, .int b, .int (c + 1)]) := upd_same
    have e64 : (2 : Int) ^ 64 = 18446744073709551616 := by decide
    refine ⟨_, rfl, d, _, _, _, rfl, rfl, SqL.of hd', atI_nat (j := 1) rfl, _, _, rfl, rfl, ⟨by decide, by decide⟩, _, _, rfl, rfl, (by show (0 : Int) < 65521; decide), ?_⟩
    have hz0 : 0 ≤ b / 2147483629 % 65521 := Int.emod_nonneg _ (by decide)
    have hz1 : b / 2147483629 % 65521 < 65521 := Int.emod_lt_of_pos _ (by decide)
    have hb0 : 0 ≤ b % 2147483629 := Int.emod_nonneg _ (by decide)
    have hb1 : b % 2147483629 < 2147483629 := Int.emod_lt_of_pos _ (by decide)
    refine ⟨_, rfl, d, _, _, _, rfl, rfl, SqL.of hd', atI_nat (j := 1) rfl, _, _, rfl, rfl, (by show (0 : Int) < 2147483629; decide), _, rfl, d, _, _, _, rfl, rfl, SqL.of hd', atI_nat (j := 2) rfl, _, _, rfl, rfl, .inl ⟨by decide, by decide⟩, _, _, rfl, rfl, _, rfl, _, _, rfl, rfl, _, _, rfl, rfl, _, _, rfl, rfl, ⟨by decide, by decide, ?_⟩, _, _, rfl, rfl, (by show (0 : Int) < 2147483647; decide), ?_⟩
    · have e64 : (2 : Nat) ^ 64 = 18446744073709551616 := by decide
      rw [e64]
      show (b % 2147483629 + 7919 * (c + 1) + b / 2147483629 % 65521 + 1).natAbs < _
      omega
    · generalize hx : (b % 2147483629 + 7919 * (c + 1) + b / 2147483629 % 65521 + 1) ^ (5 : Int).toNat % 2147483647 = x
      have hx0 : 0 ≤ x := by rw [← hx]; exact Int.emod_nonneg _ (by decide)
      have hx1 : x < 2147483647 := by rw [← hx]; exact Int.emod_lt_of_pos _ (by decide)
      refine ⟨_, rfl, _, rfl, _, _, rfl, rfl, ⟨by decide, by decide⟩, _, _, rfl, rfl, _, rfl, d, _, _, _, rfl, rfl, SqL.of hd', atI_nat (j := 2) rfl, _, _, rfl, rfl, _, _, rfl, rfl, .inl ⟨?_, ?_⟩, _, _, rfl, rfl, (by show (0 : Int) < 2147483629; decide), ?_⟩
      · rw [e64]; omega
      · rw [e64]; omega
      · generalize hy : x * (x / 1009 + 69621 + (c + 1)) % 2147483629 = y
        have hy0 : 0 ≤ y := by rw [← hy]; exact Int.emod_nonneg _ (by decide)
        have hy1 : y < 2147483629 := by rw [← hy]; exact Int.emod_lt_of_pos _ (by decide)
        refine ⟨_, rfl, _, rfl, _, _, rfl, rfl, ⟨by decide, by decide⟩, _, _, rfl, rfl, _, _, rfl, rfl, .inl ⟨?_, ?_⟩, _, _, rfl, rfl, (by show (0 : Int) < 2147483399; decide), _, rfl, _, _, rfl, rfl, hm, ?_⟩
        · rw [e64]; omega
        · rw [e64]; omega
        · exact q _ _ (Int.emod_nonneg _ (by omega)) (Int.emod_lt_of_pos _ hm) But.at_ ⟨_, _, _, upd_same, trivial, by omega, by omega⟩
def spOf (K : PySem.W.Frag) : Sp := fun vs H Q _ => ∃ (d b : Addr) (n : Nat) (xs : List V), vs = [.ref d, .ref b] ∧ b ≠ d ∧ SqL K H b xs ∧ xs ≠ [] ∧ xs.length ≤ 1000 ∧ Dr PT d n H ∧ n ≤ 1000000 ∧
  ∀ (H' : Hp) (v : V), v ∈ xs → But d H H' → Dr PT d (n + 1) H' → Q v H'
theorem ok_one (T : Tx K mg) : FnOk P w K mg base CX0 2 T.A_one T.fd_one ["_law_well_here", "_law_some"] (spOf K) := by
  refine T.F_one.ok sc_one (fun vs H Q E h => ?_) (fun cdv A outer s H vs Q E hr h => ?_)
  · obtain ⟨d, b, n, xs, rfl, hbd, hS, hne, hlen, dr, hn, q⟩ := h
    rfl
  obtain ⟨d, b, n, xs, rfl, hbd, hS, hne, hlen, dr, hn, q⟩ := h
  refine ⟨_, (pss_one (ps_ret (pe_ix ix_list (pv 1) (pe_call (ok_draw T) (hr.mono (by decide)) (by rfl) T.g_draw T.F_draw.kp T.b_draw .nil pass0 (pa_cons (pv 0) (pa_cons (pe_callB call_len_seq (by rfl) T.z_len PySem.boot_len (pa_cons (pv 1) pa_nil)) pa_nil))) (fun _ _ => rfl)))), ?_⟩
  have hl : 0 < (xs.length : Int) := by
    cases xs with
    | nil => exact absurd rfl hne
    | cons x r => rw [List.length_cons]; omega
  refine ⟨_, rfl, _, rfl, _, rfl, b, xs, rfl, .inl hS, d, _, n, rfl, hl, log_tiny hl (by omega), dr, hn, fun H' r h0 h1 bt dr' => ?_⟩
  obtain ⟨j, rfl⟩ : ∃ j : Nat, r = (j : Int) := ⟨r.toNat, by omega⟩
  have hj : j < xs.length := by omega
  exact ⟨b, xs, _, _, rfl, rfl, but_seq bt hbd hS, atI_nat (List.getElem?_eq_getElem hj), q H' _ (List.getElem_mem hj) bt dr'⟩
def spWord : Sp := fun vs H Q _ => ∃ (d : Addr) (n : Nat), vs = [.ref d] ∧ Dr PT d n H ∧ n ≤ 100000 ∧
  ∀ (H' : Hp) (z : Str), nm (.str z) = true → But d H H' → Dr PT d (n + 10) H' → Q (.str z) H'
theorem ok_word (T : Tx K mg) : FnOk P w K mg base CX0 2 T.A_word T.fd_word ["_law_well_here"] (spWord) := by
  refine T.F_word.ok sc_word (fun vs H Q E h => ?_) (fun cdv A outer s H vs Q E hr h => ?_)
  · obtain ⟨d, n, rfl, dr, hn, q⟩ := h
    rfl
  obtain ⟨d, n, rfl, dr, hn, q⟩ := h
  refine ⟨_, (pss_one (ps_ret (pe_bm PySem.F.plainAttrs_str PySem.F.slot_str_join PySem.F.type_str_join mt_join pe_str (pa_cons (pe_lc (own := [("_law_k", 1)]) (g := gName 1) (tt := tYes) rfl sc_word.nd (pi_range1 (by rfl) T.z_range (pa_cons (pe_op op_add pe_int (pe_call (ok_draw T) (hr.mono (by decide)) (by rfl) T.g_draw T.F_draw.kp T.b_draw .nil pass0 (pa_cons (pv 0) (pa_cons pe_int pa_nil)))) pa_nil)) (blkOk_by (N := ["_law_well_here", "_law_k"]) (sc := defScope s_word) (by decide +kernel)) (fun _ _ _ _ _ => (pg_name (i := 1) sc_word.nd rfl (Or.inl rfl))) (fun _ _ _ _ _ => pts_nil) (fun _ _ _ _ _ => (pe_ix ix_str pe_str (pe_call (ok_draw T) (hr.mono (by decide)) (by rfl) T.g_draw T.F_draw.kp T.b_draw .nil pass0 (pa_cons (pv 0) (pa_cons pe_int pa_nil))) (fun _ _ => rfl)))) pa_nil)))), ?_⟩
  refine ⟨rfl, _, rfl, d, 8, n, rfl, by decide, log_tiny (by decide) (by decide), dr, by omega, fun H1 r h0 h1 b1 dr1 => ?_⟩
  refine ⟨_, _, rfl, rfl, _, rfl, by omega, by omega, fun D hD => lc_draw (d := d) (n := n + 1) (k := (1 + r).toNat) hD dr1 (by omega) lower ?_ ?_⟩
  · intro i H2 R C hi dr2 hR
    refine ⟨rfl, yesT ?_⟩
    refine ⟨_, rfl, d, 26, n + 1 + i, rfl, by decide, log_tiny (by decide) (by decide), dr2, by omega, fun H3 r2 g0 g1 b3 dr3 => ?_⟩
    obtain ⟨c, hc, hl⟩ := az_at g0 g1
    exact ⟨_, _, c, rfl, rfl, (by decide +kernel), hc, hR H3 c hl b3 dr3⟩
  · intro H' cs hl hp b2 dr2 e2
    refine ⟨_, D, cs.map (fun c => ⟨#[c]⟩), rfl, rfl, .inl (SqL.of (by rw [map_sg]; exact e2)), ?_, ?_⟩
    · rw [size_signs, List.length_map]
      show _ + _ * 0 ≤ _
      omega
    · refine q H' _ ?_ (b1.trans b2) (dr2.mono (by omega))
      have ez := join_text (y := "") rfl cs
      have lz := join_len (y := "") rfl cs
      generalize Txt.join ("" : Str) (cs.map fun c => (⟨#[c]⟩ : Str)) = z at ez lz
      show (decide (1 ≤ z.length) && decide (z.length ≤ 8) && z.cps.toList.all lower) = true
      rw [decide_eq_true (show 1 ≤ z.length by omega), decide_eq_true (show z.length ≤ 8 by omega), ez, Bool.true_and, Bool.true_and, List.all_eq_true]
      exact hp
def fourVals (u : Rl) : List V := [.int u.lo, .int u.hi, .int u.far, .bl u.shd]
def GoodU (u : Rl) : Prop := GoodRl u ∧ u.hi ≤ 100 ∧ u.far ≤ 100
theorem zero_of {v : V} {xs : List V} (P : Int → Prop) (h : v ∈ xs) (hx : ∀ x ∈ xs, ∃ k, x = .int k ∧ P k) : ∃ k, v = .int k ∧ P k := hx v h
def spRuleT (K : PySem.W.Frag) : Sp := fun vs H Q _ => ∃ (d : Addr) (n : Nat), vs = [.ref d] ∧ Dr PT d n H ∧ n ≤ 100000 ∧
  ∀ (H' : Hp) (t : Addr) (u : Rl), GoodU u → H' t = some (.tup (fourVals u)) → But d H H' → Dr PT d (n + 10) H' → Q (.ref t) H'
theorem ok_rule (T : Tx K mg) : FnOk P w K mg base CX0 3 T.A_rule T.fd_rule ["_law_well_here"] (spRuleT K) := by
  refine T.F_rule.ok sc_rule (fun vs H Q E h => ?_) (fun cdv A outer s H vs Q E hr h => ?_)
  · obtain ⟨d, n, rfl, dr, hn, q⟩ := h
    rfl
  obtain ⟨d, n, rfl, dr, hn, q⟩ := h
  refine ⟨_, (pss_cons (ps_set (i := 1) sc_rule.nd rfl (Or.inl rfl) (pe_call (ok_one T) (hr.mono (by decide)) (by rfl) T.g_one T.F_one.kp T.b_one .nil pass0 (pa_cons (pv 0) (pa_cons (pe_lst (pa_cons pe_int (pa_cons pe_int (pa_cons pe_int (pa_cons pe_int (pa_cons (pe_call (ok_draw T) (hr.mono (by decide)) (by rfl) T.g_draw T.F_draw.kp T.b_draw .nil pass0 (pa_cons (pv 0) (pa_cons pe_int pa_nil))) pa_nil)))))) pa_nil))))
      (pss_cons (ps_set (i := 2) sc_rule.nd rfl (Or.inl rfl) (pe_op op_add (pv 1) (pe_call (ok_one T) (hr.mono (by decide)) (by rfl) T.g_one T.F_one.kp T.b_one .nil pass0 (pa_cons (pv 0) (pa_cons (pe_lst (pa_cons pe_int (pa_cons pe_int (pa_cons pe_int (pa_cons pe_int (pa_cons (pe_call (ok_draw T) (hr.mono (by decide)) (by rfl) T.g_draw T.F_draw.kp T.b_draw .nil pass0 (pa_cons (pv 0) (pa_cons pe_int pa_nil))) pa_nil)))))) pa_nil)))))
      (pss_cons (ps_set (i := 3) sc_rule.nd rfl (Or.inl rfl) (pe_call (ok_one T) (hr.mono (by decide)) (by rfl) T.g_one T.F_one.kp T.b_one .nil pass0 (pa_cons (pv 0) (pa_cons (pe_lst (pa_cons pe_int (pa_cons pe_int (pa_cons pe_int (pa_cons pe_int (pa_cons (pe_call (ok_draw T) (hr.mono (by decide)) (by rfl) T.g_draw T.F_draw.kp T.b_draw .nil pass0 (pa_cons (pv 0) (pa_cons pe_int pa_nil))) pa_nil)))))) pa_nil))))
      (pss_one (ps_ret (pe_tup (pa_cons (pv 1) (pa_cons (pv 2) (pa_cons (pv 3) (pa_cons (pe_cmpR op_gt (pe_call (ok_draw T) (hr.mono (by decide)) (by rfl) T.g_draw T.F_draw.kp T.b_draw .nil pass0 (pa_cons (pv 0) (pa_cons pe_int pa_nil))) pe_int (nomark _)) pa_nil)))))))))), ?_⟩
  refine ⟨_, rfl, _, rfl, d, 40, n, rfl, by decide, log_tiny (by decide) (by decide), dr, by omega, fun H1 r1 a1 c1 b1 dr1 => ?_⟩
  refine ⟨(by show 5 ≤ sizeLine; decide), fun l1 hl1 => ?_⟩
  have nl1 := dr1.ne hl1
  refine ⟨d, l1, n + 1, _, rfl, nl1, SqL.of upd_same, by simp, by show 5 ≤ 1000; decide, dr1.upd nl1, by omega, fun H2 v hv b2 dr2 => ?_⟩
  obtain ⟨lo, rfl, hlo⟩ : ∃ k, v = .int k ∧ (0 ≤ k ∧ k < 40) := zero_of (fun k => 0 ≤ k ∧ k < 40) hv (by
    intro x hx
    simp only [List.mem_cons, List.not_mem_nil, or_false] at hx
    rcases hx with e | e | e | e | e <;> exact ⟨_, e, by omega⟩)
  refine ⟨_, rfl, _, rfl, _, rfl, d, 60, n + 2, rfl, by decide, log_tiny (by decide) (by decide), dr2, by omega, fun H3 r3 a3 c3 b3 dr3 => ?_⟩
  refine ⟨(by show 5 ≤ sizeLine; decide), fun l3 hl3 => ?_⟩
  have nl3 := dr3.ne hl3
  refine ⟨d, l3, n + 3, _, rfl, nl3, SqL.of upd_same, by simp, by show 5 ≤ 1000; decide, dr3.upd nl3, by omega, fun H4 v hv b4 dr4 => ?_⟩
  obtain ⟨up, rfl, hup⟩ : ∃ k, v = .int k ∧ (0 ≤ k ∧ k < 60) := zero_of (fun k => 0 ≤ k ∧ k < 60) hv (by
    intro x hx
    simp only [List.mem_cons, List.not_mem_nil, or_false] at hx
    rcases hx with e | e | e | e | e <;> exact ⟨_, e, by omega⟩)
  refine ⟨_, _, rfl, rfl, ?_⟩
  refine ⟨_, rfl, _, rfl, d, 30, n + 4, rfl, by decide, log_tiny (by decide) (by decide), dr4, by omega, fun H5 r5 a5 c5 b5 dr5 => ?_⟩
  refine ⟨(by show 5 ≤ sizeLine; decide), fun l5 hl5 => ?_⟩
  have nl5 := dr5.ne hl5
  refine ⟨d, l5, n + 5, _, rfl, nl5, SqL.of upd_same, by simp, by show 5 ≤ 1000; decide, dr5.upd nl5, by omega, fun H6 v hv b6 dr6 => ?_⟩
  obtain ⟨far, rfl, hfar⟩ : ∃ k, v = .int k ∧ (0 ≤ k ∧ k < 30) := zero_of (fun k => 0 ≤ k ∧ k < 30) hv (by
    intro x hx
    simp only [List.mem_cons, List.not_mem_nil, or_false] at hx
    rcases hx with e | e | e | e | e <;> exact ⟨_, e, by omega⟩)
  refine ⟨_, rfl, _, rfl, _, rfl, _, rfl, d, 3, n + 6, rfl, by decide, log_tiny (by decide) (by decide), dr6, by omega, fun H7 r7 a7 c7 b7 dr7 => ?_⟩
  refine ⟨_, _, rfl, rfl, (by show 4 ≤ sizeLine; decide), fun t ht => ?_⟩
  refine q _ t ⟨lo, lo + up, far, decide (0 < r7)⟩ ⟨⟨by show 0 ≤ lo; omega, by show lo ≤ lo + up; omega, by show 0 ≤ far; omega⟩, by show lo + up ≤ 100; omega, by show far ≤ 100; omega⟩ upd_same ?_ ((dr7.upd (dr7.ne ht)).mono (by omega))
  exact (b1.trans ((But.new hl1).trans b2)).trans ((b3.trans ((But.new hl3).trans b4)).trans ((b5.trans ((But.new hl5).trans b6)).trans (b7.trans (But.new ht))))
def spNear : Sp := fun vs H Q _ => ∃ (d : Addr) (lo hi : Int) (n : Nat), vs = [.ref d, .int lo, .int hi] ∧ lo ≤ hi ∧ hi - lo ≤ 1000 ∧ Dr PT d n H ∧ n ≤ 100000 ∧
  ∀ (H' : Hp) (r : Int), lo - 1 ≤ r → r ≤ hi + 1 → But d H H' → Dr PT d (n + 2) H' → Q (.int r) H'
theorem ok_near (T : Tx K mg) : FnOk P w K mg base CX0 3 T.A_near T.fd_near ["_law_well_here", "_law_low", "_law_top"] (spNear) := by
  refine T.F_near.ok sc_near (fun vs H Q E h => ?_) (fun cdv A outer s H vs Q E hr h => ?_)
  · obtain ⟨d, lo, hi, n, rfl, h1, h2, dr, hn, q⟩ := h
    rfl
  obtain ⟨d, lo, hi, n, rfl, h1, h2, dr, hn, q⟩ := h
  refine ⟨_, (pss_cons (ps_set (i := 3) sc_near.nd rfl (Or.inl rfl) (pe_op op_sub (pv 2) (pv 1)))
      (pss_one (ps_ret (pe_op op_add (pv 1) (pe_call (ok_one T) (hr.mono (by decide)) (by rfl) T.g_one T.F_one.kp T.b_one .nil pass0 (pa_cons (pv 0) (pa_cons (pe_lst (pa_cons pe_int (pa_cons (pv 3) (pa_cons (pe_call (ok_draw T) (hr.mono (by decide)) (by rfl) T.g_draw T.F_draw.kp T.b_draw .nil pass0 (pa_cons (pv 0) (pa_cons (pe_op op_add (pv 3) pe_int) pa_nil))) (pa_cons (pe_op op_add (pv 3) pe_int) (pa_cons (pe_un un_neg pe_int) pa_nil)))))) pa_nil))))))), ?_⟩
  refine ⟨_, rfl, _, rfl, _, _, rfl, rfl, ?_⟩
  refine ⟨_, rfl, _, rfl, _, rfl, _, rfl, _, rfl, _, _, rfl, rfl, d, _, n, rfl, (by show 0 < hi - lo + 1; omega), log_tiny (by show 0 < hi - lo + 1; omega) (by show hi - lo + 1 < _; omega), dr, by omega, fun H1 r1 a1 c1 b1 dr1 => ?_⟩
  refine ⟨_, rfl, _, _, rfl, rfl, _, rfl, (by show 5 ≤ sizeLine; decide), fun l1 hl1 => ?_⟩
  have nl1 := dr1.ne hl1
  refine ⟨d, l1, n + 1, _, rfl, nl1, SqL.of upd_same, by simp, by show 5 ≤ 1000; decide, dr1.upd nl1, by omega, fun H2 v hv b2 dr2 => ?_⟩
  obtain ⟨k, rfl, hk⟩ : ∃ k, v = .int k ∧ (-1 ≤ k ∧ k ≤ hi - lo + 1) := zero_of (fun k => -1 ≤ k ∧ k ≤ hi - lo + 1) hv (by
    intro x hx
    simp only [List.mem_cons, List.not_mem_nil, or_false] at hx
    rcases hx with e | e | e | e | e <;> exact ⟨_, e, by omega⟩)
  exact ⟨_, _, rfl, rfl, q _ _ (by omega) (by omega) (b1.trans ((But.new hl1).trans b2)) dr2⟩
end
end KB
namespace KB
open PySem PySem.Spec PyProof.Rows L2 KA
section
variable {P : Program} {w : World} {K : PySem.W.Frag} {mg : Str → Option Value} {base : Heap}
def spAcross (K : PySem.W.Frag) : Sp := fun vs H Q _ => ∃ (d t : Addr) (m : Int) (n : Nat) (u : Rl), vs = [.ref d, .int m, .ref t] ∧ 0 ≤ m ∧ m ≤ 60 ∧ H t = some (.tup (fourVals u)) ∧ GoodU u ∧ Dr PT d n H ∧ n ≤ 10000 ∧
  ∀ (H' : Hp) (p : Addr) (zs : List V), H p = none → p ≠ d → H' p = some (.lst zs) → zs.length ≤ 200 → (1 ≤ m → 1 ≤ zs.length) → (∀ v ∈ zs, ∃ x, v = .int x ∧ x ≤ 100000) → But d H H' → Dr PT d (n + 200) H' → Q (.ref p) H'
theorem map_last {pre : List Int} {x : Int} : atI ((pre ++ [x]).map V.int) (-1) = some (.int x) := by
  rw [List.map_append]
  exact atI_last _ _
theorem ok_across (T : Tx K mg) : FnOk P w K mg base CX0 4 T.A_across T.fd_across ["_law_well_here", "_law_places", "_law_four"] (spAcross K) := by
  refine T.F_across.ok sc_across (fun vs H Q E h => ?_) (fun cdv A outer s H vs Q E hr h => ?_)
  · obtain ⟨d, t, m, n, u, rfl, hm0, hm1, ht, ⟨⟨g1, g2, g3⟩, g4, g5⟩, dr, hn, q⟩ := h
    rfl
  obtain ⟨d, t, m, n, u, rfl, hm0, hm1, ht, ⟨⟨g1, g2, g3⟩, g4, g5⟩, dr, hn, q⟩ := h
  refine ⟨_, (pss_cons (ps_set (i := 3) sc_across.nd rfl (Or.inl rfl) (pe_lst (pa_cons (pe_op op_add pe_int (pe_call (ok_draw T) (hr.mono (by decide)) (by rfl) T.g_draw T.F_draw.kp T.b_draw .nil pass0 (pa_cons (pv 0) (pa_cons pe_int pa_nil)))) pa_nil)))
      (pss_cons (ps_set (i := 4) sc_across.nd rfl (Or.inl rfl) (pe_lst pa_nil))
      (pss_cons (ps_for PassesOwn.never rfl (pi_range1 (by rfl) T.z_range (pa_cons (pe_op op_fdiv (pe_op op_add (pv 1) pe_int) pe_int) pa_nil)) (pg_name (i := 5) sc_across.nd rfl (Or.inl rfl))
        (pss_cons (ps_expr (pe_bm PySem.F.plainAttrs_list PySem.F.slot_list_append PySem.F.type_list_append mt_append (pv 4) (pa_cons (pe_op op_add (pe_ix ix_list (pv 3) (pe_un un_neg pe_int) (fun _ _ => rfl)) (pe_call (ok_near T) (hr.mono (by decide)) (by rfl) T.g_near T.F_near.kp T.b_near .nil pass0 (pa_cons (pv 0) (pa_cons (pe_op op_sub pe_int (pe_ix ix_tup (pv 2) pe_int (fun _ _ => rfl))) (pa_cons (pe_ix ix_tup (pv 2) pe_int (fun _ _ => rfl)) pa_nil))))) pa_nil)))
      (pss_one (ps_expr (pe_bm PySem.F.plainAttrs_list PySem.F.slot_list_append PySem.F.type_list_append mt_append (pv 3) (pa_cons (pe_op op_add (pe_ix ix_list (pv 3) (pe_un un_neg pe_int) (fun _ _ => rfl)) (pe_call (ok_near T) (hr.mono (by decide)) (by rfl) T.g_near T.F_near.kp T.b_near .nil pass0 (pa_cons (pv 0) (pa_cons (pe_ix ix_tup (pv 2) pe_int (fun _ _ => rfl)) (pa_cons (pe_ix ix_tup (pv 2) pe_int (fun _ _ => rfl)) pa_nil))))) pa_nil))))))
      (pss_cons (ps_set (i := 3) sc_across.nd rfl (Or.inl rfl) (pe_slice sl_list (pv 3) po_none (po_some (pe_op op_fdiv (pe_op op_add (pv 1) pe_int) pe_int))))
      (pss_one (ps_ret (pe_op op_cat (pv 3) (pe_revL (pe_slice sl_list (pv 4) po_none (po_some (pe_op op_fdiv (pv 1) pe_int))))))))))), ?_⟩
  have ntd : t ≠ d := by
    obtain ⟨_, _, _, e, _⟩ := dr
    exact fun z => by rw [z, e] at ht; cases ht
  refine ⟨_, rfl, d, 90, n, rfl, by decide, log_tiny (by decide) (by decide), dr, by omega, fun H1 r1 a1 c1 b1 dr1 => ?_⟩
  refine ⟨_, _, rfl, rfl, (by show 1 ≤ sizeLine; decide), fun l hl => ?_⟩
  have nl := dr1.ne hl
  have drl := dr1.upd (o := .lst [.int (400 + r1)]) nl
  refine ⟨Nat.zero_le _, fun rr hrr => ?_⟩
  have nr := drl.ne hrr
  have nlr : l ≠ rr := fun z => by rw [← z, upd_same] at hrr; cases hrr
  have hl0 : H l = none := b1.free nl hl
  have hr0 : H rr = none := (b1.trans (But.new hl)).free nr hrr
  refine ⟨_, rfl, _, _, rfl, rfl, _, _, rfl, rfl, ⟨by decide, by decide⟩, _, rfl, by omega, by omega, ?_⟩
  refine for_range (lo := 0) (n := ((m + 1) / 2).toNat) (fun i σ H' => ∃ (w5 : Option V) (pre rs : List Int) (x : Int), σ = [some (.ref d), some (.int m), some (.ref t), some (.ref l), some (.ref rr), w5] ∧ H' l = some (.lst ((pre ++ [x]).map V.int)) ∧ H' rr = some (.lst (rs.map V.int)) ∧ pre.length = i ∧ rs.length = i ∧ (∀ y ∈ pre ++ [x], y ≤ 500 + 200 * (i : Int)) ∧ (∀ y ∈ rs, y ≤ 1000 + 200 * (i : Int)) ∧ But d H H' ∧ Dr PT d (n + 1 + 4 * i) H')
    ⟨none, [], [], 400 + r1, rfl, ?_, upd_same, rfl, rfl, ?_, (fun _ h => nomatch h), (b1.trans (But.new hl)).trans (But.new hrr), drl.upd nr⟩ ?_ ?_
  · rw [upd_ne nlr]
    exact upd_same
  · intro y hy
    have : y = 400 + r1 := by simpa using hy
    omega
  · rintro i σ H2 hi ⟨w5, pre, rs, x, rfl, el, er, lp, lr, bp, br, b2, dr2⟩
    have hx : x ≤ 500 + 200 * (i : Int) := bp x (by simp)
    have ht2 := b2 _ _ ntd ht
    refine ⟨_, rfl, .inl ⟨rfl, _, SqL.of er⟩, _, rfl, 1, rfl, l, _, _, _, rfl, rfl, SqL.of el, map_last, ?_⟩
    refine ⟨_, rfl, _, rfl, t, _, _, _, rfl, rfl, .inl (.inl ht2), atI_nat (j := 2) rfl, _, _, rfl, rfl, _, rfl, t, _, _, _, rfl, rfl, .inl (.inl ht2), atI_nat (j := 2) rfl, ?_⟩
    refine ⟨d, _, _, n + 1 + 4 * i, rfl, (by show 0 - u.far ≤ u.far; omega), (by show u.far - (0 - u.far) ≤ 1000; omega), dr2, by omega, fun H3 r3 a3 c3 b3 dr3 => ?_⟩
    have el3 := b3 _ _ nl el
    have er3 := b3 _ _ nr er
    refine ⟨_, _, rfl, rfl, rr, _, _, rfl, rfl, er3, ?_, ?_⟩
    · rw [List.length_map, lr]
      exact Nat.lt_of_lt_of_le (show i < 100 by omega) (by decide)
    have el4 : (upd H3 rr (.lst (rs.map V.int ++ [.int (x + r3)]))) l = some (.lst ((pre ++ [x]).map V.int)) := by
      rw [upd_ne nlr]
      exact el3
    have ht4 : (upd H3 rr (.lst (rs.map V.int ++ [.int (x + r3)]))) t = some (.tup (fourVals u)) := by
      rw [upd_ne (fun z => by rw [← z, (b2.trans b3) _ _ ntd ht] at er3; cases er3)]
      exact (b2.trans b3) _ _ ntd ht
    have dr4 := dr3.upd (o := .lst (rs.map V.int ++ [.int (x + r3)])) nr
    refine ⟨_, rfl, .inl ⟨rfl, _, SqL.of el4⟩, _, rfl, 1, rfl, l, _, _, _, rfl, rfl, SqL.of el4, map_last, ?_⟩
    refine ⟨_, rfl, _, rfl, t, _, _, _, rfl, rfl, .inl (.inl ht4), atI_nat (j := 0) rfl, _, rfl, t, _, _, _, rfl, rfl, .inl (.inl ht4), atI_nat (j := 1) rfl, ?_⟩
    refine ⟨d, _, _, n + 1 + 4 * i + 2, rfl, g2, (by show u.hi - u.lo ≤ 1000; omega), dr4, by omega, fun H5 r5 a5 c5 b5 dr5 => ?_⟩
    have el5 := b5 _ _ nl el4
    have er5 := b5 _ _ nr upd_same
    refine ⟨_, _, rfl, rfl, l, _, _, rfl, rfl, el5, ?_, ?_⟩
    · rw [List.length_map, List.length_append, lp]
      exact Nat.lt_of_lt_of_le (show i + 1 < 100 by omega) (by decide)
    refine ⟨_, pre ++ [x], rs ++ [x + r3], x + r5, rfl, ?_, ?_, ?_, ?_, ?_, ?_, ?_, ?_⟩
    · rw [upd_same, List.map_append (l₂ := [x + r5])]
      rfl
    · rw [upd_ne nlr.symm, er5, List.map_append]
      rfl
    · rw [List.length_append, lp]
      rfl
    · rw [List.length_append, lr]
      rfl
    · intro y hy
      rcases List.mem_append.mp hy with h | h
      · have := bp y h
        omega
      · have : y = x + r5 := by simpa using h
        omega
    · intro y hy
      rcases List.mem_append.mp hy with h | h
      · have := br y h
        omega
      · have : y = x + r3 := by simpa using h
        omega
    · exact (((b2.trans b3).mut hr0).trans b5).mut hl0
    · exact (dr5.upd nl).mono (by omega)
  · rintro σ H2 ⟨w5, pre, rs, x, rfl, el, er, lp, lr, bp, br, b2, dr2⟩
    refine ⟨_, rfl, _, rfl, _, _, rfl, rfl, _, _, rfl, rfl, ⟨by decide, by decide⟩, _, rfl, l, _, rfl, SqL.of el, fun p hp => ?_⟩
    have np := dr2.ne hp
    have npr : rr ≠ p := ne_of_none er hp
    have dr3 := dr2.upd (o := .lst (cutV ((pre ++ [x]).map V.int) none (some ((m + 1) / 2)))) np
    refine ⟨_, rfl, _, rfl, _, rfl, _, _, rfl, rfl, ⟨by decide, by decide⟩, _, rfl, rr, _, rfl, SqL.of (same_upd hp _ _ er), fun p2 hp2 => ?_⟩
    have np2 := dr3.ne hp2
    have dr4 := dr3.upd (o := .lst (cutV (rs.map V.int) none (some (m / 2)))) np2
    refine ⟨p2, _, rfl, SqL.of upd_same, fun p3 hp3 => ?_⟩
    have np3 := dr4.ne hp3
    have dr5 := dr4.upd (o := .lst (cutV (rs.map V.int) none (some (m / 2))).reverse) np3
    have c1 := len_cut ((pre ++ [x]).map V.int) none (some ((m + 1) / 2))
    have c2 := len_cut (rs.map V.int) none (some (m / 2))
    rw [List.length_map, List.length_append, lp, List.length_singleton] at c1
    rw [List.length_map, lr] at c2
    have hmn : ((m + 1) / 2).toNat ≤ 31 := by omega
    refine ⟨p, p3, _, _, rfl, rfl, same_upd hp3 _ _ (same_upd hp2 _ _ upd_same), upd_same, sz _ (by rw [List.length_reverse]; omega), fun p4 hp4 => ?_⟩
    have np4 := dr5.ne hp4
    have b3 : But d H (upd (upd (upd H2 p (.lst (cutV ((pre ++ [x]).map V.int) none (some ((m + 1) / 2))))) p2 (.lst (cutV (rs.map V.int) none (some (m / 2))))) p3 (.lst (cutV (rs.map V.int) none (some (m / 2))).reverse)) := ((b2.trans (But.new hp)).trans (But.new hp2)).trans (But.new hp3)
    refine q _ p4 _ (b3.free np4 hp4) np4 upd_same ?_ ?_ ?_ (b3.trans (But.new hp4)) ((dr5.upd np4).mono (by omega))
    · rw [List.length_append, List.length_reverse]
      omega
    · intro h1
      obtain ⟨k, hk⟩ : ∃ k : Nat, (m + 1) / 2 = k := ⟨((m + 1) / 2).toNat, by omega⟩
      have lp' : pre.length = k := by omega
      rw [hk, cut_to, List.length_append, List.length_take, List.length_map, List.length_append, lp', List.length_singleton]
      omega
    · intro v hv
      rcases List.mem_append.mp hv with h | h
      · obtain ⟨y, hy, rfl⟩ := List.mem_map.mp (mem_cut h)
        exact ⟨y, rfl, by have := bp y hy; omega⟩
      · obtain ⟨y, hy, rfl⟩ := List.mem_map.mp (mem_cut (List.mem_reverse.mp h))
        exact ⟨y, rfl, by have := br y hy; omega⟩
end
end KB
namespace KB
open PySem PySem.Spec PyProof.Rows L2 KA
section
variable {P : Program} {w : World} {K : PySem.W.Frag} {mg : Str → Option Value} {base : Heap}
/-- a row as a tuple, or None -/
def RowV (K : PySem.W.Frag) (H : Hp) (v : V) (o : Option Rw) : Prop := (v = .non ∧ o = none) ∨ ∃ p r, v = .ref p ∧ o = some r ∧ SqT K H p (rowVals r)
structure Rws (K : PySem.W.Frag) (H : Hp) (vs : List V) (rs : List (Option Rw)) : Prop where
  len : vs.length = rs.length
  at_ : ∀ (i : Nat) (v : V), vs[i]? = some v → ∃ o, rs[i]? = some o ∧ RowV K H v o
theorem RowV.same {K : PySem.W.Frag} {H H' : Hp} {v : V} {o : Option Rw} (s : NL H H') (h : RowV K H v o) : RowV K H' v o := by
  rcases h with h | ⟨p, r, h1, h2, h3⟩
  · exact .inl h
  · exact .inr ⟨p, r, h1, h2, nl_tup s h3⟩
theorem Rws.same {K : PySem.W.Frag} {H H' : Hp} {vs : List V} {rs : List (Option Rw)} (s : NL H H') (h : Rws K H vs rs) : Rws K H' vs rs :=
  ⟨h.len, fun i v hv => by
    obtain ⟨o, h1, h2⟩ := h.at_ i v hv
    exact ⟨o, h1, h2.same s⟩⟩
theorem Rws.get {K : PySem.W.Frag} {H : Hp} {vs : List V} {rs : List (Option Rw)} (h : Rws K H vs rs) {i : Nat} {o : Option Rw} (ho : rs[i]? = some o) : ∃ v, vs[i]? = some v ∧ RowV K H v o := by
  have hi : i < vs.length := by
    rw [h.len]
    exact (List.getElem?_eq_some_iff.mp ho).1
  obtain ⟨o', h1, h2⟩ := h.at_ i _ (List.getElem?_eq_getElem hi)
  have : o = o' := Option.some.inj (ho.symm.trans h1)
  subst this
  exact ⟨_, List.getElem?_eq_getElem hi, h2⟩
theorem Rws.row {K : PySem.W.Frag} {H : Hp} {vs : List V} {rs : List (Option Rw)} (h : Rws K H vs rs) {i : Nat} {r : Rw} (ho : rs[i]? = some (some r)) : ∃ p, vs[i]? = some (.ref p) ∧ SqT K H p (rowVals r) := by
  obtain ⟨v, hv, h | ⟨p, r', h1, h2, h3⟩⟩ := h.get ho
  · cases h.2
  · subst h1
    have : r = r' := Option.some.inj h2
    subst this
    exact ⟨p, hv, h3⟩
theorem Rws.push {K : PySem.W.Frag} {H : Hp} {vs : List V} {rs : List (Option Rw)} {v : V} {o : Option Rw} (h : Rws K H vs rs) (hv : RowV K H v o) : Rws K H (vs ++ [v]) (rs ++ [o]) := by
  refine ⟨by rw [List.length_append, List.length_append, h.len]; rfl, fun i w hw => ?_⟩
  by_cases hi : i < vs.length
  · rw [List.getElem?_append_left hi] at hw
    obtain ⟨o', h1, h2⟩ := h.at_ i w hw
    exact ⟨o', by rw [List.getElem?_append_left (by rw [← h.len]; exact hi)]; exact h1, h2⟩
  · rw [List.getElem?_append_right (by omega)] at hw
    have : i = vs.length := by
      have := (List.getElem?_eq_some_iff.mp hw).1
      rw [List.length_singleton] at this
      omega
    subst this
    rw [Nat.sub_self] at hw
    have : v = w := Option.some.inj hw
    subst this
    exact ⟨o, by rw [h.len, List.getElem?_append_right (Nat.le_refl _), Nat.sub_self]; rfl, hv⟩
theorem Rws.gap {K : PySem.W.Frag} {H : Hp} {vs : List V} {rs : List (Option Rw)} {v : V} {o : Option Rw} (h : Rws K H vs rs) : Rws K H ((vs ++ [v]).set vs.length .non) (rs ++ [none]) := by
  have : (vs ++ [v]).set vs.length .non = vs ++ [.non] := by
    rw [List.set_append_right _ _ (Nat.le_refl _), Nat.sub_self]
    rfl
  rw [this]
  exact h.push (.inl ⟨rfl, rfl⟩)
def AllGood (rs : List (Option Rw)) : Prop := ∀ r, some r ∈ rs → GoodRw r
theorem good_int {a lo hi : Int} (h1 : lo ≤ a) (h2 : a ≤ hi) : whl (.int a) lo hi = true := by
  show (decide (lo ≤ a) && decide (a ≤ hi)) = true
  rw [decide_eq_true h1, decide_eq_true h2]
  rfl
/-- .. and not too wide -/
def AllGd (rs : List (Option Rw)) : Prop := ∀ r, some r ∈ rs → GoodRw r ∧ r.ac ≤ 100000
def spRows (K : PySem.W.Frag) : Sp := fun vs H Q _ => ∃ (d t : Addr) (m : Int) (n : Nat) (u : Rl), vs = [.ref d, .int m, .ref t] ∧ 0 ≤ m ∧ m ≤ 60 ∧ H t = some (.tup (fourVals u)) ∧ GoodU u ∧ Dr PT d n H ∧ n ≤ 1000 ∧
  ∀ (H' : Hp) (p : Addr) (xs : List V) (rs : List (Option Rw)), H' p = some (.lst xs) → H p = none → p ≠ d → Rws K H' xs rs → AllGood rs → (∀ r, some r ∈ rs → r.ac ≤ 100000) → rs.length ≤ 200 → (1 ≤ m → 1 ≤ rs.length) → But d H H' → Dr PT d (n + 3000) H' → Q (.ref p) H'
/-- a look as a tuple -/
def LookT (H : Hp) (a : Addr) : Prop := ∃ (s f : Str) (b : Bool), H a = some (.tup [.str s, .str f, .bl b]) ∧ nm (.str s) = true ∧ nm (.str f) = true
theorem LookT.same {H H' : Hp} {a : Addr} (s : NL H H') (h : LookT H a) : LookT H' a := by
  obtain ⟨x, f, b, e, g⟩ := h
  exact ⟨x, f, b, s _ _ (fun _ z => by cases z) e, g⟩
theorem ok_rows (T : Tx K mg) : FnOk P w K mg base CX0 5 T.A_rows T.fd_rows ["_law_well_here", "_law_places", "_law_four"] (spRows K) := by
  refine T.F_rows.ok sc_rows (fun vs H Q E h => ?_) (fun cdv A outer s H vs Q E hr h => ?_)
  · obtain ⟨d, t, m, n, u, rfl, hm0, hm1, ht, hU, dr, hn, q⟩ := h
    rfl
  obtain ⟨d, t, m, n, u, rfl, hm0, hm1, ht, hU, dr, hn, q⟩ := h
  refine ⟨_, (pss_cons (ps_set (i := 3) sc_rows.nd rfl (Or.inl rfl) (pe_tup (pa_cons (pe_call (ok_word T) (hr.mono (by decide)) (by rfl) T.g_word T.F_word.kp T.b_word .nil pass0 (pa_cons (pv 0) pa_nil)) (pa_cons (pe_call (ok_word T) (hr.mono (by decide)) (by rfl) T.g_word T.F_word.kp T.b_word .nil pass0 (pa_cons (pv 0) pa_nil)) (pa_cons (pe_cmpR op_eq (pe_call (ok_draw T) (hr.mono (by decide)) (by rfl) T.g_draw T.F_draw.kp T.b_draw .nil pass0 (pa_cons (pv 0) (pa_cons pe_int pa_nil))) pe_int (nomark _)) pa_nil)))))
      (pss_cons (ps_set (i := 4) sc_rows.nd rfl (Or.inl rfl) (pe_lst pa_nil))
      (pss_cons (ps_for PassesOwn.never rfl (pi_enum (by rfl) T.z_enumerate (pa_cons (pe_call (ok_across T) (hr.mono (by decide)) (by rfl) T.g_across T.F_across.kp T.b_across .nil pass0 (pa_cons (pv 0) (pa_cons (pv 1) (pa_cons (pv 2) pa_nil)))) pa_nil)) (pg_tup (by rfl) (pgs_cons (pg_name (i := 5) sc_rows.nd rfl (Or.inl rfl)) (pgs_cons (pg_name (i := 6) sc_rows.nd rfl (Or.inl rfl)) pgs_nil)))
        (pss_cons (ps_set (i := 7) sc_rows.nd rfl (Or.inl rfl) (pe_ix ix_list (pe_lst (pa_cons (pe_op op_add (pv 5) pe_int) (pa_cons (pe_op op_sub (pe_op op_pow pe_int pe_int) (pv 5)) (pa_cons (pe_op op_add pe_int (pe_call (ok_draw T) (hr.mono (by decide)) (by rfl) T.g_draw T.F_draw.kp T.b_draw .nil pass0 (pa_cons (pv 0) (pa_cons pe_int pa_nil)))) pa_nil)))) (pe_call (ok_one T) (hr.mono (by decide)) (by rfl) T.g_one T.F_one.kp T.b_one .nil pass0 (pa_cons (pv 0) (pa_cons (pe_lst (pa_cons pe_int (pa_cons pe_int (pa_cons pe_int (pa_cons pe_int (pa_cons pe_int (pa_cons pe_int (pa_cons pe_int (pa_cons pe_int (pa_cons pe_int pa_nil)))))))))) pa_nil))) (fun _ _ => rfl)))
      (pss_cons (ps_set (i := 8) sc_rows.nd rfl (Or.inl rfl) (pv 3))
      (pss_cutJ (ps_if (pt_cmpR op_eq (pe_call (ok_draw T) (hr.mono (by decide)) (by rfl) T.g_draw T.F_draw.kp T.b_draw .nil pass0 (pa_cons (pv 0) (pa_cons pe_int pa_nil))) pe_int (nomark _)) (pss_one (ps_set (i := 8) sc_rows.nd rfl (Or.inl rfl) (pe_call (ok_one T) (hr.mono (by decide)) (by rfl) T.g_one T.F_one.kp T.b_one .nil pass0 (pa_cons (pv 0) (pa_cons (pe_lst (pa_cons (pe_op op_catA (pe_tup (pa_cons pe_str pa_nil)) (pe_slice sl_tupA (pv 3) (po_some pe_int) po_none)) (pa_cons (pe_tup (pa_cons (pe_ix ix_tup (pv 3) pe_int (fun _ _ => rfl)) (pa_cons pe_str (pa_cons (pe_ix ix_tup (pv 3) pe_int (fun _ _ => rfl)) pa_nil)))) (pa_cons (pe_op op_catA (pe_slice sl_tupA (pv 3) po_none (po_some pe_int)) (pe_tup (pa_cons (pe_not (pe_ix ix_tup (pv 3) pe_int (fun _ _ => rfl))) pa_nil))) pa_nil)))) pa_nil))))) pss_nil)
      (pss_cons (ps_expr (pe_bm PySem.F.plainAttrs_list PySem.F.slot_list_append PySem.F.type_list_append mt_append (pv 4) (pa_cons (pe_op op_catA (pe_tup (pa_cons (pv 7) (pa_cons (pe_callB (call_max2 rfl) (by rfl) T.z_max (by decide +kernel) (pa_cons pe_int (pa_cons (pv 6) pa_nil))) (pa_cons (pe_op op_add pe_int (pe_call (ok_draw T) (hr.mono (by decide)) (by rfl) T.g_draw T.F_draw.kp T.b_draw .nil pass0 (pa_cons (pv 0) (pa_cons (pe_op op_pow pe_int pe_int) pa_nil)))) pa_nil)))) (pv 8)) pa_nil)))
      (pss_one (ps_if (pt_cmpR op_eq (pe_call (ok_draw T) (hr.mono (by decide)) (by rfl) T.g_draw T.F_draw.kp T.b_draw .nil pass0 (pa_cons (pv 0) (pa_cons pe_int pa_nil))) pe_int (nomark _)) (pss_one (ps_asg pe_non (pg_sub (pv 4) (pe_un un_neg pe_int) set_list))) pss_nil)))))))
      (pss_one (ps_ret (pv 4)))))), ?_⟩
  have ntd : t ≠ d := by
    obtain ⟨_, _, _, e, _⟩ := dr
    exact fun z => by rw [z, e] at ht; cases ht
  refine ⟨_, rfl, d, n, rfl, dr, by omega, fun H1 z1 g1 b1 dr1 => ?_⟩
  refine ⟨_, rfl, d, n + 10, rfl, dr1, by omega, fun H2 z2 g2 b2 dr2 => ?_⟩
  refine ⟨_, rfl, d, 2, n + 20, rfl, by decide, log_tiny (by decide) (by decide), dr2, by omega, fun H3 r3 _ _ b3 dr3 => ?_⟩
  refine ⟨rfl, (by show 3 ≤ sizeLine; decide), fun tl htl => ?_⟩
  have ntl := dr3.ne htl
  refine ⟨Nat.zero_le _, fun f hf => ?_⟩
  have drl := dr3.upd (o := .tup [.str z1, .str z2, .bl (decide (V.int r3 = V.int 0))]) ntl
  have nf := drl.ne hf
  have ntf : tl ≠ f := fun z => by rw [← z, upd_same] at hf; cases hf
  have dr4 := drl.upd (o := .lst []) nf
  have b4 : But d H (upd (upd H3 tl (.tup [.str z1, .str z2, .bl (decide (V.int r3 = V.int 0))])) f (.lst [])) := (((b1.trans b2).trans b3).trans (But.new htl)).trans (But.new hf)
  have hf0 : H f = none := ((((b1.trans b2).trans b3).trans (But.new htl))).free nf hf
  refine ⟨_, rfl, _, rfl, _, rfl, d, t, m, n + 21, u, rfl, hm0, hm1, b4 _ _ ntd ht, hU, dr4, by omega, fun H5 p zs hp np e5 lz lz1 bz b5 dr5 => ?_⟩
  have npf : p ≠ f := fun z => by rw [z, upd_same] at hp; cases hp
  refine ⟨p, zs, rfl, SqL.of e5, for_it (walk_enum (K := K) (a := p) (xs := zs)) (fun i σ H' => ∃ (w5 w6 w7 w8 : Option V) (acc : List V) (rs : List (Option Rw)), σ = [some (.ref d), some (.int m), some (.ref t), some (.ref tl), some (.ref f), w5, w6, w7, w8] ∧ H' f = some (.lst acc) ∧ Rws K H' acc rs ∧ AllGd rs ∧ rs.length = i ∧ H' p = some (.lst zs) ∧ LookT H' tl ∧ But d H H' ∧ Dr PT d (n + 221 + 10 * i) H')
    ⟨_, _, _, _, [], [], rfl, b5 _ _ nf upd_same, ⟨rfl, fun i v h => by simp at h⟩, (fun _ h => nomatch h), rfl, e5, ⟨z1, z2, _, b5 _ _ ntl (by rw [upd_ne ntf]; exact upd_same), g1, g2⟩, b4.trans b5, dr5.mono (by omega)⟩ (fun i σ H' _ h => ?_) ?_ ?_⟩
  · obtain ⟨_, _, _, _, _, _, _, _, _, _, _, e, _⟩ := h
    exact SqL.of e
  · rintro i x σ H6 H7 hi ⟨w5, w6, w7, w8, acc, rs, rfl, ef, hR, hG, lrs, ep, hL, b6, dr6⟩ ⟨T', x1, x2, rfl, nt, rfl, e1, e2⟩
    obtain rfl : V.int (i : Nat) = x1 := Option.some.inj e1
    obtain ⟨ac, rfl, hac⟩ := bz x2 (List.mem_of_getElem? e2)
    have nT := dr6.ne nt
    have s7 : Same H6 (upd H6 T' (.tup [.int (i : Nat), .int ac])) := same_upd nt
    have dr7 := dr6.same s7
    refine ⟨T', _, rfl, .inl (.inl upd_same), rfl, _, [.int ac], rfl, .int ac, [], rfl, rfl, ?_⟩
    -- number
    refine ⟨_, rfl, _, _, rfl, rfl, _, _, rfl, rfl, ⟨by decide, by decide, by decide⟩, _, rfl, _, _, rfl, rfl, _, rfl, d, 9, n + 221 + 10 * i, rfl, by decide, log_tiny (by decide) (by decide), dr7, by omega, fun H8 r8 a8 c8 b8 dr8 => ?_⟩
    refine ⟨_, _, rfl, rfl, (by show 3 ≤ sizeLine; decide), fun l1 hl1 => ?_⟩
    have nl1 := dr8.ne hl1
    have dr8' := dr8.upd (o := .lst [.int ((i : Nat) + 1), .int (10 ^ (9 : Int).toNat - (i : Nat)), .int (1 + r8)]) nl1
    refine ⟨_, rfl, (by show 9 ≤ sizeLine; decide), fun l2 hl2 => ?_⟩
    have nl2 := dr8'.ne hl2
    refine ⟨d, l2, n + 222 + 10 * i, _, rfl, nl2, SqL.of upd_same, by simp, by show 9 ≤ 1000; decide, (dr8'.upd nl2).mono (by omega), by omega, fun H9 v hv b9 dr9 => ?_⟩
    obtain ⟨j, rfl, hj⟩ : ∃ j : Int, v = .int j ∧ (j = 0 ∨ j = 1 ∨ j = 2) := zero_of (fun j => j = 0 ∨ j = 1 ∨ j = 2) hv (by
      intro x hx
      simp only [List.mem_cons, List.not_mem_nil, or_false] at hx
      rcases hx with e | e | e | e | e | e | e | e | e <;> exact ⟨_, e, by omega⟩)
    have e9 : (10 : Int) ^ (9 : Int).toNat = 1000000000 := by decide
    obtain ⟨num, hat, hn0, hn1⟩ : ∃ num : Int, atI [V.int ((i : Nat) + 1), .int (10 ^ (9 : Int).toNat - (i : Nat)), .int (1 + r8)] j = some (.int num) ∧ 1 ≤ num ∧ num ≤ 1000000000 := by
      rcases hj with rfl | rfl | rfl
      · exact ⟨_, rfl, by omega, by omega⟩
      · exact ⟨_, rfl, by rw [e9]; omega, by rw [e9]; omega⟩
      · exact ⟨_, rfl, by omega, by omega⟩
    have el1 := b9 _ _ nl1 (same_upd hl2 _ _ upd_same)
    refine ⟨l1, _, _, _, rfl, rfl, SqL.of el1, hat, ?_⟩
    have b9' : But d H6 H9 := (But.of s7).trans ((b8.trans (But.new hl1)).trans ((But.new hl2).trans b9))
    have nl9 : NL H6 H9 := dr_nl dr6 b9'
    have ef9 := b9' _ _ nf ef
    have hL9 := hL.same nl9
    have hR9 := hR.same nl9
    -- look
    refine ⟨_, rfl, ?_⟩
    refine ⟨fun σ' H' => ∃ la : Addr, σ' = [some (.ref d), some (.int m), some (.ref t), some (.ref tl), some (.ref f), some (.int (i : Nat)), some (.int ac), some (.int num), some (.ref la)] ∧ LookT H' la ∧ But d H9 H' ∧ Dr PT d (n + 225 + 10 * i) H', ?_, ?_⟩
    · refine ⟨_, rfl, d, 12, n + 223 + 10 * i, rfl, by decide, log_tiny (by decide) (by decide), dr9.mono (by omega), by omega, fun H10 r10 _ _ b10 dr10 => ?_⟩
      refine ⟨rfl, _, rfl, ite2 (fun _ => ?_) (fun _ => ?_)⟩
      · obtain ⟨s, fo, bb, eL, gs, gf⟩ := hL9
        have eL := b10 _ _ ntl eL
        refine ⟨_, rfl, (by show 1 ≤ sizeLine; decide), fun a1 ha1 => ?_⟩
        have n1 := dr10.ne ha1
        have eL1 := same_upd ha1 (o := .tup [.str "a"]) _ _ eL
        refine ⟨_, rfl, _, rfl, tl, _, rfl, .inl (.inl eL1), fun z => absurd z (by show ¬ (HT.sIx 3 0 (some 1) = 0 ∧ HT.sIx 3 3 none = 3); decide), fun _ a2 ha2 => ?_⟩
        have eL2 := same_upd ha2 (o := .tup [.str fo, .bl bb]) _ _ eL1
        refine ⟨a1, a2, _, _, rfl, rfl, .inl (.inl (same_upd ha2 _ _ upd_same)), .inl (.inl upd_same), (by show 3 ≤ sizeLine; decide), (fun z => nomatch z), (fun _ z => nomatch z), fun _ _ a3 ha3 => ?_⟩
        have eL3 := same_upd ha3 (o := .tup [.str "a", .str fo, .bl bb]) _ _ eL2
        refine ⟨_, rfl, tl, _, _, _, rfl, rfl, .inl (.inl eL3), atI_nat (j := 0) rfl, _, rfl, tl, _, _, _, rfl, rfl, .inl (.inl eL3), atI_nat (j := 2) rfl, (by show 3 ≤ sizeLine; decide), fun a4 ha4 => ?_⟩
        have eL4 := same_upd ha4 (o := .tup [.str s, .str "b", .bl bb]) _ _ eL3
        refine ⟨_, rfl, _, rfl, tl, _, rfl, .inl (.inl eL4), fun z => absurd z (by show ¬ (HT.sIx 3 0 none = 0 ∧ HT.sIx 3 3 (some 2) = 3); decide), fun _ a5 ha5 => ?_⟩
        have eL5 := same_upd ha5 (o := .tup [.str s, .str fo]) _ _ eL4
        refine ⟨_, rfl, tl, _, _, _, rfl, rfl, .inl (.inl eL5), atI_nat (j := 2) rfl, _, rfl, (by show 1 ≤ sizeLine; decide), fun a6 ha6 => ?_⟩
        refine ⟨a5, a6, _, _, rfl, rfl, .inl (.inl (same_upd ha6 _ _ upd_same)), .inl (.inl upd_same), (by show 3 ≤ sizeLine; decide), (fun z => nomatch z), (fun _ z => nomatch z), fun _ _ a7 ha7 => ?_⟩
        refine ⟨(by show 3 ≤ sizeLine; decide), fun l3 hl3 => ?_⟩
        have dL := (dr10.same ((same_upd ha1).trans ((same_upd ha2).trans ((same_upd ha3).trans ((same_upd ha4).trans ((same_upd ha5).trans ((same_upd ha6).trans (same_upd ha7)))))))).same (same_upd hl3 (o := .lst [.ref a3, .ref a4, .ref a7]))
        have nl3 : l3 ≠ d := (dr10.same ((same_upd ha1).trans ((same_upd ha2).trans ((same_upd ha3).trans ((same_upd ha4).trans ((same_upd ha5).trans ((same_upd ha6).trans (same_upd ha7)))))))).ne hl3
        refine ⟨d, l3, n + 224 + 10 * i, _, rfl, nl3, SqL.of upd_same, by simp, by show 3 ≤ 1000; decide, dL.mono (by omega), by omega, fun H11 v hv b11 dr11 => ?_⟩
        have nl11 := dr_nl dL b11
        have bb11 : But d H9 H11 := b10.trans ((But.of ((same_upd ha1).trans ((same_upd ha2).trans ((same_upd ha3).trans ((same_upd ha4).trans ((same_upd ha5).trans ((same_upd ha6).trans ((same_upd ha7).trans (same_upd hl3))))))))).trans b11)
        simp only [List.mem_cons, List.not_mem_nil, or_false] at hv
        rcases hv with rfl | rfl | rfl
        · refine ⟨a3, rfl, ⟨"a", fo, bb, nl11 _ _ (fun _ z => by cases z) (((same_upd ha4).trans ((same_upd ha5).trans ((same_upd ha6).trans ((same_upd ha7).trans (same_upd hl3))))) _ _ upd_same), by decide +kernel, gf⟩, bb11, dr11.mono (by omega)⟩
        · refine ⟨a4, rfl, ⟨s, "b", bb, nl11 _ _ (fun _ z => by cases z) (((same_upd ha5).trans ((same_upd ha6).trans ((same_upd ha7).trans (same_upd hl3)))) _ _ upd_same), gs, by decide +kernel⟩, bb11, dr11.mono (by omega)⟩
        · refine ⟨a7, rfl, ⟨s, fo, !bb, nl11 _ _ (fun _ z => by cases z) ((same_upd hl3) _ _ upd_same), gs, gf⟩, bb11, dr11.mono (by omega)⟩
      · exact ⟨tl, rfl, hL9.same (dr_nl dr9 b10), b10, dr10.mono (by omega)⟩
    · rintro σ' H10 ⟨la, rfl, ⟨s, fo, bb, eL, gs, gf⟩, b10, dr10⟩
      have ef10 := b10 _ _ nf ef9
      have nl10 : NL H6 H10 := nl9.trans (dr_nl dr9 b10)
      have bH10 : But d H H10 := b6.trans (b9'.trans b10)
      -- found.append((number, max(1, across), 1 + draw) + look)
      have e6 : (10 : Int) ^ (6 : Int).toNat = 1000000 := by decide
      refine ⟨_, rfl, .inl ⟨rfl, _, SqL.of ef10⟩, _, rfl, _, rfl, _, _, rfl, _, rfl, _, _, rfl, rfl, ⟨by decide, by decide, by decide⟩, d, _, n + 225 + 10 * i, rfl, by decide, log_tiny (by decide) (by decide), dr10, by omega, fun H11 r11 a11 c11 b11 dr11 => ?_⟩
      refine ⟨_, _, rfl, rfl, (by show 3 ≤ sizeLine; decide), fun t1 ht1 => ?_⟩
      have eL11 := b11 _ _ (fun z => by obtain ⟨_, _, _, z2, _⟩ := dr10; rw [z, z2] at eL; cases eL) eL
      refine ⟨_, rfl, t1, la, _, _, rfl, rfl, .inl (.inl upd_same), .inl (.inl (same_upd ht1 _ _ eL11)), (by show 6 ≤ sizeLine; decide), (fun z => nomatch z), (fun _ z => nomatch z), fun _ _ t2 ht2 => ?_⟩
      have S12 : Same H11 (upd (upd H11 t1 (.tup [.int num, .int (if ac > 1 then ac else 1), .int (1 + r11)])) t2 (.tup (rowVals ⟨num, if ac > 1 then ac else 1, 1 + r11, s, fo, bb⟩))) := (same_upd ht1).trans (same_upd ht2)
      have ef12 := S12 _ _ (b11 _ _ nf ef10)
      refine ⟨f, _, _, rfl, rfl, ef12, ?_, ?_⟩
      · rw [hR.len, lrs]
        exact Nat.lt_of_lt_of_le (show i < 1000 by omega) (by decide)
      have dr12 := (dr11.same S12)
      have dr13 := dr12.upd (o := .lst (acc ++ [.ref t2])) nf
      have hmx : (if ac > 1 then ac else 1 : Int) ≤ 1000000 ∧ 1 ≤ (if ac > 1 then ac else 1 : Int) := by
        split <;> omega
      have gR : GoodRw ⟨num, if ac > 1 then ac else 1, 1 + r11, s, fo, bb⟩ := ⟨good_int hn0 hn1, good_int hmx.2 hmx.1, good_int (a := 1 + r11) (by omega) (by rw [e6] at c11; omega), gs, gf⟩
      have nl12 := (nl10.trans (dr_nl dr10 b11)).trans (NL.of S12)
      have nl13 := nl12.trans (NL.at_ (o := .lst (acc ++ [.ref t2])) ef12)
      have ep13 : (upd (upd (upd H11 t1 (.tup [.int num, .int (if ac > 1 then ac else 1), .int (1 + r11)])) t2 (.tup (rowVals ⟨num, if ac > 1 then ac else 1, 1 + r11, s, fo, bb⟩))) f (.lst (acc ++ [.ref t2]))) p = some (.lst zs) := (upd_ne npf).trans (S12 _ _ (b11 _ _ np (b10 _ _ np (b9' _ _ np ep))))
      have b13 := ((bH10.trans b11).trans (But.of S12)).mut (o := .lst (acc ++ [.ref t2])) hf0
      have tR : RowV K (upd (upd (upd H11 t1 (.tup [.int num, .int (if ac > 1 then ac else 1), .int (1 + r11)])) t2 (.tup (rowVals ⟨num, if ac > 1 then ac else 1, 1 + r11, s, fo, bb⟩))) f (.lst (acc ++ [.ref t2]))) (.ref t2) (some ⟨num, if ac > 1 then ac else 1, 1 + r11, s, fo, bb⟩) := .inr ⟨t2, _, rfl, rfl, .inl (.inl ((NL.at_ (o := .lst (acc ++ [.ref t2])) ef12) _ _ (fun _ z => by cases z) (upd_same (H := upd H11 t1 (.tup [.int num, .int (if ac > 1 then ac else 1), .int (1 + r11)])))))⟩
      -- if draw(well, 9) == 0: found[-1] = None
      refine ⟨_, rfl, d, 9, n + 226 + 10 * i, rfl, by decide, log_tiny (by decide) (by decide), dr13.mono (by omega), by omega, fun H14 r14 _ _ b14 dr14 => ?_⟩
      have nl14 := nl13.trans (dr_nl dr13 b14)
      have ef14 := b14 _ _ nf upd_same
      refine ⟨rfl, _, rfl, ite2 (fun _ => ?_) (fun _ => ?_)⟩
      · have hix : ixN (acc ++ [V.ref t2]).length (-1) = some acc.length := by
          unfold ixN
          rw [if_neg (by decide), if_pos (by rw [List.length_append, List.length_singleton]; omega), List.length_append, List.length_singleton]
          congr 1
          omega
        refine ⟨_, rfl, 1, rfl, f, _, _, _, rfl, rfl, ef14, hix, ?_⟩
        refine ⟨_, _, _, _, _, rs ++ [none], rfl, upd_same, ?_, ?_, ?_, ?_, ?_, ?_, ?_⟩
        · exact ((hR.same nl14).same (NL.at_ ef14)).gap (o := none)
        · intro r hr
          rcases List.mem_append.mp hr with h | h
          · exact hG r h
          · simp at h
        · rw [List.length_append, lrs]
          rfl
        · exact (upd_ne npf).trans (b14 _ _ np ep13)
        · exact (hL.same nl14).same (NL.at_ ef14)
        · exact (b13.trans b14).mut hf0
        · exact (dr14.upd nf).mono (by omega)
      · refine ⟨_, _, _, _, _, rs ++ [some ⟨num, if ac > 1 then ac else 1, 1 + r11, s, fo, bb⟩], rfl, ef14, ?_, ?_, ?_, ?_, ?_, ?_, ?_⟩
        · exact (hR.same nl14).push (tR.same (dr_nl dr13 b14))
        · intro r hr
          rcases List.mem_append.mp hr with h | h
          · exact hG r h
          · have := Option.some.inj (List.mem_singleton.mp h)
            rw [this]
            exact ⟨gR, show (if ac > 1 then ac else 1 : Int) ≤ 100000 by split <;> omega⟩
        · rw [List.length_append, lrs]
          rfl
        · exact b14 _ _ np ep13
        · exact hL.same nl14
        · exact b13.trans b14
        · exact dr14.mono (by omega)
  · rintro σ H6 ⟨w5, w6, w7, w8, acc, rs, rfl, ef, hR, hG, lrs, ep, hL, b6, dr6⟩
    exact ⟨_, rfl, q H6 f acc rs ef hf0 nf hR (fun r h => (hG r h).1) (fun r h => (hG r h).2) (by omega) (fun h => by have := lz1 h; omega) b6 (dr6.mono (by omega))⟩
def spBeadOf (K : PySem.W.Frag) (C : Addr) : Sp := fun vs H Q _ => ∃ (v : V) (o : Option Rw), vs = [v] ∧ RowV K H v o ∧ (∀ r, o = some r → GoodRw r) ∧ ∀ (H' : Hp) (x : V), Same H H' → BV C H' x o → Q x H'
theorem ok_bead (T : Tx K mg) : FnOk P w K mg base CX0 6 T.A_bead T.fd_bead ["_law_row"] (spBeadOf K T.C_Bead) := by
  refine T.F_bead.ok sc_bead (fun vs H Q E h => ?_) (fun cdv A outer s H vs Q E hr h => ?_)
  · obtain ⟨v, o, rfl, hv, hg, q⟩ := h
    rfl
  obtain ⟨v, o, rfl, hv, hg, q⟩ := h
  refine ⟨_, (pss_cons (ps_if (pt_cmpR op_isN (pv 0) pe_non (nomark _)) (pss_one (ps_ret pe_non)) pss_nil)
      (pss_one (ps_ret (pe_make T.mk_Bead (ok_Bead_init T) (hr.mono (by decide)) (by rfl) T.g_Bead T.b_Bead_init .nil pass0 (pa_cons (pe_ix ix_tup (pv 0) pe_int (fun _ _ => rfl)) (pa_cons (pe_ix ix_tup (pv 0) pe_int (fun _ _ => rfl)) (pa_cons (pe_ix ix_tup (pv 0) pe_int (fun _ _ => rfl)) (pa_cons (pe_ix ix_tup (pv 0) pe_int (fun _ _ => rfl)) (pa_cons (pe_ix ix_tup (pv 0) pe_int (fun _ _ => rfl)) (pa_cons (pe_ix ix_tup (pv 0) pe_int (fun _ _ => rfl)) pa_nil)))))))))), ?_⟩
  refine ⟨_, rfl, rfl, _, rfl, ?_⟩
  rcases hv with ⟨rfl, rfl⟩ | ⟨p, r, rfl, rfl, hp⟩
  · exact iteT (q H _ (Same.refl H) (.inl ⟨rfl, rfl⟩))
  · refine iteF ?_
    refine ⟨_, rfl, p, _, _, _, rfl, rfl, hp, atI_nat (j := 0) rfl, _, rfl, p, _, _, _, rfl, rfl, hp, atI_nat (j := 1) rfl, _, rfl, p, _, _, _, rfl, rfl, hp, atI_nat (j := 2) rfl, _, rfl, p, _, _, _, rfl, rfl, hp, atI_nat (j := 3) rfl, _, rfl, p, _, _, _, rfl, rfl, hp, atI_nat (j := 4) rfl, _, rfl, p, _, _, _, rfl, rfl, hp, atI_nat (j := 5) rfl, ?_⟩
    intro x dx nx ndx nex
    refine ⟨x, dx, r, rfl, upd_same, hg r rfl, fun H1 hB k => ⟨rfl, ?_⟩⟩
    refine q H1 _ (fun b o e => k b o ?_ (ne_of_none e nx)) (.inr ⟨x, r, rfl, rfl, hB⟩)
    rw [upd_ne (ne_of_none e nx), upd_ne (ne_of_none e ndx)]
    exact e
end
end KB
namespace KB
open PySem PySem.Spec PyProof.Rows L2 KA
section
variable {P : Program} {w : World} {K : PySem.W.Frag} {mg : Str → Option Value} {base : Heap}
def spStepR (K : PySem.W.Frag) : Sp := fun vs H Q _ => ∃ (b t : Addr) (i : Nat) (xs : List V) (rs : List (Option Rw)) (r : Rw) (u : Rl), vs = [.ref b, .ref t, .int i] ∧ SqL K H b xs ∧ Rws K H xs rs ∧ SqT K H t (fourVals u) ∧ rs[i]? = some (some r) ∧ rs.length ≤ 1000 ∧
  Q (.bl (stepBars rs u i r)) H
theorem ok_step_bars (T : Tx K mg) : FnOk P w K mg base CX0 1 T.A_step_bars T.fd_step_bars ["_law_rows_here", "_law_four", "_law_spot"] (spStepR K) := by
  refine T.F_step_bars.ok sc_step_bars (fun vs H Q E h => ?_) (fun cdv A outer s H vs Q E hr h => ?_)
  · obtain ⟨b, t, i, xs, rs, r, u, rfl, hS, hB, ht, hi, hl, q⟩ := h
    rfl
  obtain ⟨b, t, i, xs, rs, r, u, rfl, hS, hB, ht, hi, hl, q⟩ := h
  refine ⟨_, (pss_cons (ps_if (PW.pt (pw_or (pt_cmpR op_eq (pv 2) pe_int (nomark _)) (pw_or (pt_cmpR op_eq (pe_op op_mul pe_int (pv 2)) (pe_callB call_len_seq (by rfl) T.z_len PySem.boot_len (pa_cons (pv 0) pa_nil)) (nomark _)) (pw_or1 (pt_cmpR op_isN (pe_ix ix_list (pv 0) (pe_op op_sub (pv 2) pe_int) (fun _ _ => rfl)) pe_non (nomark _)))))) (pss_one (ps_ret pe_bl)) pss_nil)
      (pss_cons (ps_set (i := 3) sc_step_bars.nd rfl (Or.inl rfl) (pe_op op_sub (pe_ix ix_tup (pe_ix ix_list (pv 0) (pv 2) (fun _ _ => rfl)) pe_int (fun _ _ => rfl)) (pe_ix ix_tup (pe_ix ix_list (pv 0) (pe_op op_sub (pv 2) pe_int) (fun _ _ => rfl)) pe_int (fun _ _ => rfl))))
      (pss_cons (ps_if (pt_cmpR op_gt (pe_op op_mul pe_int (pv 2)) (pe_callB call_len_seq (by rfl) T.z_len PySem.boot_len (pa_cons (pv 0) pa_nil)) (nomark _)) (pss_one (ps_set (i := 3) sc_step_bars.nd rfl (Or.inl rfl) (pe_op op_sub pe_int (pv 3)))) pss_nil)
      (pss_one (ps_ret (pe_or (pe_cmpR op_lt (pv 3) (pe_ix ix_tup (pv 1) pe_int (fun _ _ => rfl)) (nomark _)) (pe_one (pe_cmpR op_gt (pv 3) (pe_ix ix_tup (pv 1) pe_int (fun _ _ => rfl)) (nomark _))))))))), ?_⟩
  obtain ⟨p, hp, hH⟩ := hB.row hi
  have hil : i < rs.length := (List.getElem?_eq_some_iff.mp hi).1
  have eL := hB.len
  refine ⟨_, rfl, rfl, _, rfl, ?_⟩
  by_cases h0 : i = 0
  · subst h0
    refine iteT (iteT ?_)
    have : stepBars rs u 0 r = false := by
      unfold stepBars
      rw [if_pos (Or.inl rfl)]
    rw [this] at q
    exact q
  · rw [decide_eq_false (show ¬ V.int (i : Int) = V.int 0 from fun e => h0 (by injection e with e; omega))]
    refine iteF ⟨_, rfl, _, _, rfl, rfl, .inl ⟨by decide, by decide⟩, _, rfl, b, xs, rfl, .inl hS, rfl, _, rfl, ?_⟩
    by_cases h1 : 2 * i = rs.length
    · rw [decide_eq_true (show V.int (2 * (i : Int)) = V.int (xs.length : Int) by congr 1; omega)]
      refine iteT (iteT ?_)
      have : stepBars rs u i r = false := by
        unfold stepBars
        rw [if_pos (Or.inr h1)]
      rw [this] at q
      exact q
    · rw [decide_eq_false (show ¬ V.int (2 * (i : Int)) = V.int (xs.length : Int) from fun e => h1 (by injection e with e; omega))]
      obtain ⟨o, ho⟩ : ∃ o, rs[i - 1]? = some o := ⟨_, List.getElem?_eq_getElem (by omega)⟩
      obtain ⟨v, hv, hbv⟩ := hB.get ho
      have hat : atI xs ((i : Int) - 1) = some v := at_of (j := i - 1) (by omega) hv
      refine iteF ⟨_, rfl, _, rfl, _, _, rfl, rfl, b, xs, _, v, rfl, rfl, hS, hat, rfl, _, rfl, ?_⟩
      have hS0 : ∀ x, x = stepBars rs u i r → Q (.bl x) H := fun x e => by rw [e]; exact q
      rcases hbv with ⟨rfl, rfl⟩ | ⟨p', r', rfl, rfl, h'⟩
      · refine iteT ?_
        refine hS0 _ ?_
        unfold stepBars
        rw [if_neg (by omega), ho]
      · refine iteF ?_
        refine ⟨_, rfl, _, rfl, b, xs, _, _, rfl, rfl, hS, atI_nat hp, p, _, _, _, rfl, rfl, hH, atI_nat (j := 1) rfl, ?_⟩
        refine ⟨_, rfl, _, rfl, _, _, rfl, rfl, b, xs, _, _, rfl, rfl, hS, hat, p', _, _, _, rfl, rfl, h', atI_nat (j := 1) rfl, _, _, rfl, rfl, ?_⟩
        have eS : stepBars rs u i r = stepBad u (if rs.length < 2 * i then -(r.ac - r'.ac) else r.ac - r'.ac) := by
          unfold stepBars
          rw [if_neg (by omega), ho]
        refine ⟨_, rfl, _, _, rfl, rfl, .inl ⟨by decide, by decide⟩, _, rfl, b, xs, rfl, .inl hS, _, _, rfl, rfl, _, rfl, ?_⟩
        by_cases h2 : rs.length < 2 * i
        · rw [decide_eq_true (show (xs.length : Int) < 2 * (i : Int) by omega)]
          rw [if_pos h2] at eS
          refine iteT ⟨_, rfl, _, _, rfl, rfl, ?_⟩
          refine ⟨_, rfl, _, rfl, t, _, _, _, rfl, rfl, ht, atI_nat (j := 0) rfl, _, _, rfl, rfl, _, rfl, ?_⟩
          have e0 : 0 - (r.ac - r'.ac) = -(r.ac - r'.ac) := by omega
          show if decide (0 - (r.ac - r'.ac) < u.lo) = true then _ else _
          rw [e0]
          by_cases h3 : -(r.ac - r'.ac) < u.lo
          · rw [decide_eq_true h3]
            refine iteT (hS0 _ ?_)
            rw [eS]
            unfold stepBad
            rw [decide_eq_true h3, Bool.true_or]
          · rw [decide_eq_false h3]
            refine iteF ⟨_, rfl, _, rfl, t, _, _, _, rfl, rfl, ht, atI_nat (j := 1) rfl, _, _, rfl, rfl, hS0 _ ?_⟩
            show decide (u.hi < 0 - (r.ac - r'.ac)) = _
            rw [e0, eS]
            unfold stepBad
            rw [decide_eq_false h3, Bool.false_or]
        · rw [decide_eq_false (show ¬ (xs.length : Int) < 2 * (i : Int) by omega)]
          rw [if_neg h2] at eS
          refine iteF ?_
          refine ⟨_, rfl, _, rfl, t, _, _, _, rfl, rfl, ht, atI_nat (j := 0) rfl, _, _, rfl, rfl, _, rfl, ?_⟩
          show if decide (r.ac - r'.ac < u.lo) = true then _ else _
          by_cases h3 : (r.ac - r'.ac) < u.lo
          · rw [decide_eq_true h3]
            refine iteT (hS0 _ ?_)
            rw [eS]
            unfold stepBad
            rw [decide_eq_true h3, Bool.true_or]
          · rw [decide_eq_false h3]
            refine iteF ⟨_, rfl, _, rfl, t, _, _, _, rfl, rfl, ht, atI_nat (j := 1) rfl, _, _, rfl, rfl, hS0 _ ?_⟩
            show decide (u.hi < r.ac - r'.ac) = _
            rw [eS]
            unfold stepBad
            rw [decide_eq_false h3, Bool.false_or]
end
end KB
namespace KB
open PySem PySem.Spec PyProof.Rows L2 KA
theorem sh_name {z : Str} (h : nm (.str z) = true) : PyData.canLay0 (.str z) = true := by
  have nmE : nm (.str z) = (decide (1 ≤ z.length) && decide (z.length ≤ 8) && z.cps.toList.all lower) := rfl
  rw [nmE] at h
  simp only [Bool.and_eq_true] at h
  show z.cps.all (· < 0x110000) = true
  rw [← Array.all_toList, List.all_eq_true]
  intro c hc
  have := lower_lt (List.all_eq_true.mp h.2 c hc)
  exact decide_eq_true (by omega)
def lookD (r : Rw) : PyData := .tuple [.str r.sh, .str r.fo, .bool r.dr]
theorem lookD_ok {r : Rw} (h : GoodRw r) : SeqAt.shaped (lookD r) = true := by
  have e : PyData.canLay0 (lookD r) = true := by
    show (PyData.canLay0 (.str r.sh) && (PyData.canLay0 (.str r.fo) && (PyData.canLay0 (.bool r.dr) && true))) = true
    rw [sh_name h.2.2.2.1, sh_name h.2.2.2.2]
    rfl
  show (PyData.canLay0 (lookD r) && decide (PyData.depth (lookD r) ≤ 64)) = true
  rw [e]
  rfl
theorem lookD_eqv (p r : Rw) : PyData.eqv (lookD p) (lookD r) = look r p := by
  show ((p.sh == r.sh) && ((p.fo == r.fo) && ((p.dr == r.dr) && true))) = (decide (r.sh = p.sh) && (decide (r.fo = p.fo) && decide (r.dr = p.dr)))
  rw [Bool.and_true]
  have e1 : (p.sh == r.sh) = decide (r.sh = p.sh) := by
    rw [Bool.eq_iff_iff, beq_iff_eq, decide_eq_true_eq]
    exact eq_comm
  have e2 : (p.fo == r.fo) = decide (r.fo = p.fo) := by
    rw [Bool.eq_iff_iff, beq_iff_eq, decide_eq_true_eq]
    exact eq_comm
  have e3 : (p.dr == r.dr) = decide (r.dr = p.dr) := by
    rw [Bool.eq_iff_iff, beq_iff_eq, decide_eq_true_eq]
    exact eq_comm
  rw [e1, e2, e3]
def isSm (o : Option Rw) : Bool := match o with
  | some _ => true
  | none => false
def numOf (o : Option Rw) : V := match o with
  | some r => .int r.num
  | none => .non
theorem in_twice (rs : List (Option Rw)) (n : Int) : ∀ i : Nat, i ≤ rs.length → inV (.int n) (((List.range i).filter fun j => isSm (rs.getD j none)).map fun j => numOf (rs.getD j none)) = twice rs i n := by
  intro i hi
  have : rs.take i = (List.range i).map (fun j => rs.getD j none) := by
    refine List.ext_getElem? fun j => ?_
    rw [List.getElem?_map]
    by_cases h : j < i
    · rw [List.getElem?_range h, List.getElem?_take_of_lt h]
      show _ = some (rs.getD j none)
      rw [List.getD_eq_getElem?_getD, List.getElem?_eq_getElem (show j < rs.length by omega)]
      rfl
    · rw [List.getElem?_eq_none (by rw [List.length_take]; omega), List.getElem?_eq_none (by rw [List.length_range]; omega)]
      rfl
  unfold twice inV
  rw [this, List.any_map, List.any_map]
  generalize List.range i = l
  induction l with
  | nil => rfl
  | cons j r ih =>
    rw [List.filter_cons]
    cases h : rs.getD j none with
    | none =>
      rw [List.any_cons]
      show _ = (isNum n (rs.getD j none) || _)
      rw [h]
      show List.any (if isSm none = true then _ else _) _ = _
      exact ih
    | some q =>
      rw [List.any_cons]
      show _ = (isNum n (rs.getD j none) || _)
      rw [h]
      show List.any (j :: _) _ = _
      rw [List.any_cons, ih]
      show (eqV (numOf (rs.getD j none)) (.int n) || _) = _
      rw [h]
      show ((q.num == n) || _) = (decide (q.num = n) || _)
      rfl
theorem flat_nums (rs : List (Option Rw)) (l : List Nat) : ((l.filter fun j => isSm (rs.getD j none)).map fun j => numOf (rs.getD j none)).all flatV = true := by
  rw [List.all_eq_true]
  intro v hv
  obtain ⟨j, _, rfl⟩ := List.mem_map.mp hv
  cases rs.getD j none <;> rfl
section
variable {P : Program} {w : World} {K : PySem.W.Frag} {mg : Str → Option Value} {base : Heap}
def spWhy (K : PySem.W.Frag) : Sp := fun vs H Q _ => ∃ (b t : Addr) (xs : List V) (rs : List (Option Rw)) (u : Rl), vs = [.ref b, .ref t] ∧ SqL K H b xs ∧ Rws K H xs rs ∧ SqT K H t (fourVals u) ∧ AllGood rs ∧ rs.length ≤ 1000 ∧
  ∀ H' v, Same H H' → OutV H' (bar rs u) v → Q v H'
theorem ok_why (T : Tx K mg) : FnOk P w K mg base CX0 2 T.A_why T.fd_why ["_law_rows_here", "_law_four"] (spWhy K) := by
  refine T.F_why.ok sc_why (fun vs H Q E h => ?_) (fun cdv A outer s H vs Q E hr h => ?_)
  · obtain ⟨b, t, xs, rs, u, rfl, hS, hB, ht, hG, hl, q⟩ := h
    rfl
  obtain ⟨b, t, xs, rs, u, rfl, hS, hB, ht, hG, hl, q⟩ := h
  refine ⟨_, (pss_cons (ps_for PassesOwn.never rfl (pi_range1 (by rfl) T.z_range (pa_cons (pe_callB call_len_seq (by rfl) T.z_len PySem.boot_len (pa_cons (pv 0) pa_nil)) pa_nil)) (pg_name (i := 2) sc_why.nd rfl (Or.inl rfl))
        (pss_one (ps_if (pt_cmpR op_notN (pe_ix ix_list (pv 0) (pv 2) (fun _ _ => rfl)) pe_non (nomark _)) (pss_cons (ps_set (i := 3) sc_why.nd rfl (Or.inl rfl) pe_non)
      (pss_cutJ (ps_if (pt_cmpR op_ge (pe_op op_mul pe_int (pv 2)) (pe_callB call_len_seq (by rfl) T.z_len PySem.boot_len (pa_cons (pv 0) pa_nil)) (nomark _)) (pss_one (ps_set (i := 3) sc_why.nd rfl (Or.inl rfl) (pe_ix ix_list (pv 0) (pe_op op_sub (pe_op op_sub (pe_callB call_len_seq (by rfl) T.z_len PySem.boot_len (pa_cons (pv 0) pa_nil)) pe_int) (pv 2)) (fun _ _ => rfl)))) pss_nil)
      (pss_cons (ps_if (pt_cmpR op_in_seq (pe_ix ix_tup (pe_ix ix_list (pv 0) (pv 2) (fun _ _ => rfl)) pe_int (fun _ _ => rfl)) (pe_lc (own := [("_law_row", 4)]) (g := gName 4) (tt := _) rfl sc_why.nd (pi_list (pe_slice sl_list (pv 0) po_none (po_some (pv 2)))) (blkOk_by (N := ["_law_rows_here", "_law_four", "_law_spot", "_law_partner", "_law_row"]) (sc := defScope s_why) (by decide +kernel)) (fun _ _ _ _ _ => (pg_name (i := 4) sc_why.nd rfl (Or.inl rfl))) (fun _ _ _ _ _ => (pts_one (pt_cmpR op_notN (pv 4) pe_non (nomark _)))) (fun _ _ _ _ _ => (pe_ix (ix_tupK (K' := K) rfl) (pv 4) pe_int (fun _ _ => rfl)))) (by rfl)) (pss_one (ps_ret (pe_tup (pa_cons (pv 2) (pa_cons pe_str pa_nil))))) pss_nil)
      (pss_cons (ps_if (pt_val (pe_call (ok_step_bars T) (hr.mono (by decide)) (by rfl) T.g_step_bars T.F_step_bars.kp T.b_step_bars .nil pass0 (pa_cons (pv 0) (pa_cons (pv 1) (pa_cons (pv 2) pa_nil))))) (pss_one (ps_ret (pe_tup (pa_cons (pv 2) (pa_cons pe_str pa_nil))))) pss_nil)
      (pss_cons (ps_if (PW.pt (pw_and (pt_cmpR op_notN (pv 3) pe_non (nomark _)) (pw_and1 (pt_cmpR op_gt (pe_callB call_abs (by rfl) T.z_abs (by decide +kernel) (pa_cons (pe_op op_sub (pe_ix ix_tup (pv 3) pe_int (fun _ _ => rfl)) (pe_ix ix_tup (pe_ix ix_list (pv 0) (pv 2) (fun _ _ => rfl)) pe_int (fun _ _ => rfl))) pa_nil)) (pe_ix ix_tup (pv 1) pe_int (fun _ _ => rfl)) (nomark _))))) (pss_one (ps_ret (pe_tup (pa_cons (pv 2) (pa_cons pe_str pa_nil))))) pss_nil)
      (pss_one (ps_if (PW.pt (pw_and (pt_cmpR op_notN (pv 3) pe_non (nomark _)) (pw_and (pt_val (pe_ix ix_tup (pv 1) pe_int (fun _ _ => rfl))) (pw_and1 (pt_cmpR (op_neD hr.units) (pe_slice sl_tupA (pv 3) (po_some pe_int) po_none) (pe_slice sl_tupA (pe_ix ix_list (pv 0) (pv 2) (fun _ _ => rfl)) (po_some pe_int) po_none) (nomark _)))))) (pss_one (ps_ret (pe_tup (pa_cons (pv 2) (pa_cons pe_str pa_nil))))) pss_nil))))))) pss_nil)))
      (pss_one (ps_ret pe_non))), ?_⟩
  have eL := hB.len
  refine ⟨_, rfl, b, xs, rfl, .inl hS, _, rfl, by omega, by omega, ?_⟩
  refine for_range (lo := 0) (n := ((xs.length : Nat) : Int).toNat) (fun i σ H' => ∃ w2 w3 w4, σ = [some (.ref b), some (.ref t), w2, w3, w4] ∧ Same H H' ∧ bar rs u = barFrom rs u (rs.length - i) i) ⟨_, _, _, rfl, Same.refl H, rfl⟩ ?_ ?_
  · rintro i σ H1 hi ⟨w2, w3, w4, rfl, s1, hbar⟩
    have hil : i < xs.length := by omega
    have e0 : (0 : Int) + (i : Int) = (i : Int) := by omega
    rw [e0]
    obtain ⟨x2, e2⟩ : ∃ v, xs[i]? = some v := ⟨_, List.getElem?_eq_getElem hil⟩
    obtain ⟨o, ho, hv⟩ := (hB.same (NL.of s1)).at_ i x2 e2
    have hS1 := s1.seq hS
    have hB1 := hB.same (NL.of s1)
    have ht1 := nl_tup (NL.of s1) ht
    obtain ⟨k, hk⟩ : ∃ k, rs.length - i = k + 1 := ⟨rs.length - i - 1, by omega⟩
    have hk' : rs.length - (i + 1) = k := by omega
    rw [hk] at hbar
    refine ⟨_, rfl, _, rfl, b, xs, _, _, rfl, rfl, hS1, atI_nat e2, rfl, _, rfl, ?_⟩
    rcases hv with ⟨rfl, rfl⟩ | ⟨p, r, rfl, rfl, hp⟩
    · refine iteF ⟨_, _, _, rfl, s1, ?_⟩
      rw [hbar, hk', barFrom_gap ho]
    · have gr : GoodRw r := hG r (List.mem_of_getElem? ho)
      refine iteT ?_
      refine ⟨fun σ' H' => ∃ pv, σ' = [some (.ref b), some (.ref t), some (.int (i : Int)), some pv, w4] ∧ H1 = H' ∧ RowV K H1 pv (partner rs i), ?_, ?_⟩
      · refine ⟨_, rfl, _, _, rfl, rfl, .inl ⟨by decide, by decide⟩, _, rfl, b, xs, rfl, .inl hS1, _, _, rfl, rfl, _, rfl, ?_⟩
        by_cases h : 2 * i < rs.length
        · rw [decide_eq_false (show ¬ (xs.length : Int) ≤ 2 * (i : Int) by omega)]
          refine iteF ⟨_, rfl, rfl, .inl ⟨rfl, ?_⟩⟩
          unfold partner
          rw [if_pos h]
        · rw [decide_eq_true (show (xs.length : Int) ≤ 2 * (i : Int) by omega)]
          obtain ⟨o', ho'⟩ : ∃ o, rs[rs.length - 1 - i]? = some o := ⟨_, List.getElem?_eq_getElem (by omega)⟩
          obtain ⟨v, hv, hbv⟩ := hB1.get ho'
          refine iteT ⟨_, rfl, _, rfl, b, xs, rfl, .inl hS1, _, _, rfl, rfl, _, rfl, _, _, rfl, rfl, b, xs, _, v, rfl, rfl, hS1, at_of (j := rs.length - 1 - i) (by omega) hv, v, rfl, rfl, ?_⟩
          have : partner rs i = o' := by
            unfold partner
            rw [if_neg h, ho']
            cases o' <;> rfl
          rw [this]
          exact hbv
      · rintro σ' _ ⟨pv, rfl, rfl, hpv⟩
        -- a return
        have ret : ∀ (H2 : Hp) (x : V), Same H H2 → reason rs u i r = x → ¬ x = .non → 2 ≤ sizeLine ∧ ∀ t2, H2 t2 = none → Q (.ref t2) (upd H2 t2 (.tup [.int (i : Int), x])) := fun H2 x s e hx => by
          refine ⟨by decide, fun t2 ht2 => q _ _ (s.trans (same_upd ht2)) ?_⟩
          rw [hbar, barFrom_bad ho (by rw [e]; exact hx), e]
          exact ⟨t2, rfl, upd_same⟩
        have eR : reason rs u i r = if twice rs i r.num = true then .str "twice" else if stepBars rs u i r = true then .str "step" else match partner rs i with
          | none => .non
          | some p => if u.far < apart r.ac p.ac then .str "match" else if (u.shd && !look r p) = true then .str "shade" else .non := rfl
        refine ⟨_, rfl, _, rfl, b, xs, _, _, rfl, rfl, hS1, atI_nat e2, p, _, _, _, rfl, rfl, hp, atI_nat (j := 0) rfl, ?_⟩
        refine ⟨_, rfl, _, rfl, _, rfl, b, xs, rfl, hS1, fun c hc => ?_⟩
        have s2 : Same H1 (upd H1 c (.lst (cutV xs none (some (i : Int))))) := same_upd hc
        have hcut := cut_to xs i
        refine ⟨c, rfl, ⟨_, SqL.of upd_same⟩, fun D hD => ?_⟩
        have hlen : (cutV xs none (some (i : Int))).length = i := by
          rw [hcut, List.length_take]
          omega
        refine lc_someI (K := K) (a := c) hD (SqL.of upd_same) (by omega) (fun j => isSm (rs.getD j none)) (fun j => numOf (rs.getD j none)) ?_ ?_
        · intro j x H2 R C hx s3 h1 h2
          rw [hcut] at hx
          have hji : j < i := by
            have := (List.getElem?_eq_some_iff.mp hx).1
            rw [List.length_take] at this
            omega
          rw [List.getElem?_take_of_lt hji] at hx
          obtain ⟨o', ho', hv'⟩ := hB1.at_ j x hx
          have hv' := hv'.same (NL.of (s2.trans s3))
          have eo : rs.getD j none = o' := by rw [List.getD_eq_getElem?_getD, ho']; rfl
          rw [eo] at h1 h2
          refine ⟨rfl, ⟨_, rfl, rfl, _, rfl, ?_⟩⟩
          rcases hv' with ⟨rfl, rfl⟩ | ⟨p', r', rfl, rfl, h'⟩
          · exact iteF (h2 rfl)
          · exact iteT ⟨_, rfl, p', _, _, _, rfl, rfl, h', atI_nat (j := 0) rfl, h1 rfl⟩
        · intro H2 s3 e3
          rw [hlen] at e3
          have s4 := s2.trans s3
          refine ⟨D, _, rfl, .inl (SqL.of e3), rfl, flat_nums rs _, _, rfl, ?_⟩
          show if inV (.int r.num) (((List.range i).filter fun j => isSm (rs.getD j none)).map fun j => numOf (rs.getD j none)) = true then _ else _
          rw [in_twice rs r.num i (by omega)]
          have hS2 := s4.seq hS1
          have hB2 := hB1.same (NL.of s4)
          have ht2 := nl_tup (NL.of s4) ht1
          have hp2 := nl_tup (NL.of s4) hp
          have hpv2 := hpv.same (NL.of s4)
          have s5 := s1.trans s4
          by_cases h1 : twice rs i r.num = true
          · rw [h1]
            rw [if_pos h1] at eR
            exact iteT ⟨_, rfl, ret H2 _ s5 eR (fun z => nomatch z)⟩
          · rw [if_neg h1] at eR
            rw [Bool.not_eq_true] at h1
            rw [h1]
            refine iteF ⟨_, rfl, _, rfl, _, rfl, b, t, i, xs, rs, r, u, rfl, hS2, hB2, ht2, ho, hl, _, rfl, ?_⟩
            by_cases h2 : stepBars rs u i r = true
            · rw [h2]
              rw [if_pos h2] at eR
              exact iteT ⟨_, rfl, ret H2 _ s5 eR (fun z => nomatch z)⟩
            · rw [if_neg h2] at eR
              rw [Bool.not_eq_true] at h2
              rw [h2]
              refine iteF ⟨_, rfl, rfl, _, rfl, ?_⟩
              have none_ : reason rs u i r = .non → ∀ (σ3 : L2.St) (H3 : Hp), Same H H3 → (∃ w2 w3 w4, σ3 = [some (.ref b), some (.ref t), w2, w3, w4]) → ∃ w2 w3 w4, σ3 = [some (.ref b), some (.ref t), w2, w3, w4] ∧ Same H H3 ∧ bar rs u = barFrom rs u (rs.length - (i + 1)) (i + 1) := fun e σ3 H3 s ⟨w2, w3, w4, eσ⟩ => ⟨w2, w3, w4, eσ, s, by rw [hbar, hk', barFrom_ok ho e]⟩
              rcases hpv2 with ⟨rfl, ep⟩ | ⟨p', r', rfl, ep, hp'⟩
              · rw [ep] at eR
                refine iteF (iteF ?_)
                refine ⟨_, rfl, rfl, _, rfl, ?_⟩
                exact iteF (iteF (none_ eR _ _ s5 ⟨_, _, _, rfl⟩))
              · rw [ep] at eR
                have eR : reason rs u i r = if u.far < apart r.ac r'.ac then .str "match" else if (u.shd && !look r r') = true then .str "shade" else .non := eR
                have gr' : GoodRw r' := by
                  unfold partner at ep
                  split at ep
                  · cases ep
                  · rename_i hh
                    cases e : rs[rs.length - 1 - i]? with
                    | none => rw [e] at ep; cases ep
                    | some o =>
                      rw [e] at ep
                      cases o with
                      | none => cases ep
                      | some q' =>
                        have : q' = r' := Option.some.inj ep
                        subst this
                        exact hG q' (List.mem_of_getElem? e)
                refine iteT ⟨_, rfl, p', _, _, _, rfl, rfl, hp', atI_nat (j := 1) rfl, _, rfl, _, rfl, b, xs, _, _, rfl, rfl, hS2, atI_nat e2, p, _, _, _, rfl, rfl, hp2, atI_nat (j := 1) rfl, _, _, rfl, rfl, _, rfl, ?_⟩
                refine ⟨_, rfl, t, _, _, _, rfl, rfl, ht2, atI_nat (j := 2) rfl, _, _, rfl, rfl, _, rfl, ?_⟩
                have eap : apart r'.ac r.ac = apart r.ac r'.ac := by
                  unfold apart
                  split <;> split <;> omega
                show if decide (u.far < apart r'.ac r.ac) = true then _ else _
                rw [eap]
                by_cases h3 : u.far < apart r.ac r'.ac
                · rw [decide_eq_true h3]
                  rw [if_pos h3] at eR
                  exact iteT ⟨_, rfl, ret H2 _ s5 eR (fun z => nomatch z)⟩
                · rw [decide_eq_false h3]
                  rw [if_neg h3] at eR
                  refine iteF ⟨_, rfl, rfl, _, rfl, ?_⟩
                  refine iteT ⟨_, rfl, t, _, _, _, rfl, rfl, ht2, atI_nat (j := 3) rfl, _, rfl, ?_⟩
                  by_cases h4 : u.shd = true
                  · rw [h4, Bool.true_and] at eR
                    rw [h4]
                    refine iteT ⟨_, rfl, _, rfl, p', _, rfl, hp', (fun z => absurd z (by show ¬ (HT.sIx 6 0 (some 3) = 0 ∧ HT.sIx 6 6 none = 6); decide)), fun _ k1 hk1 => ?_⟩
                    have s6 := same_upd hk1 (o := .tup [.str r'.sh, .str r'.fo, .bl r'.dr])
                    refine ⟨_, rfl, _, rfl, b, xs, _, _, rfl, rfl, s6.seq hS2, atI_nat e2, _, rfl, p, _, rfl, nl_tup (NL.of s6) hp2, (fun z => absurd z (by show ¬ (HT.sIx 6 0 (some 3) = 0 ∧ HT.sIx 6 6 none = 6); decide)), fun _ k2 hk2 => ?_⟩
                    have s7 := same_upd hk2 (o := .tup [.str r.sh, .str r.fo, .bl r.dr])
                    refine ⟨lookD r', lookD r, .tup (.inl (.inl (s7 _ _ upd_same))) (.cons (.str _) (.cons (.str _) (.cons (.bl _) .nil))), .tup (.inl (.inl upd_same)) (.cons (.str _) (.cons (.str _) (.cons (.bl _) .nil))), lookD_ok gr', lookD_ok gr, _, rfl, ?_⟩
                    rw [lookD_eqv]
                    by_cases h5 : (!look r r') = true
                    · rw [if_pos h5] at eR
                      rw [h5]
                      exact iteT ⟨_, rfl, ret _ _ (s5.trans (s6.trans s7)) eR (fun z => nomatch z)⟩
                    · rw [if_neg h5] at eR
                      rw [Bool.not_eq_true] at h5
                      rw [h5]
                      exact iteF (none_ eR _ _ (s5.trans (s6.trans s7)) ⟨_, _, _, rfl⟩)
                  · rw [Bool.not_eq_true] at h4
                    rw [h4] at eR ⊢
                    exact iteF (iteF (none_ eR _ _ s5 ⟨_, _, _, rfl⟩))
  · rintro σ H1 ⟨w2, w3, w4, rfl, s1, hbar⟩
    refine q _ _ s1 ?_
    rw [hbar, show rs.length - ((xs.length : Nat) : Int).toNat = 0 by omega]
    rfl
end
end KB
namespace KB
open PySem PySem.Spec PyProof.Rows L2 KA

section
variable {P : Program} {w : World} {K : PySem.W.Frag} {mg : Str → Option Value} {base : Heap}
theorem ok_PearlError_init (T : Tx K mg) : FnOk P w K mg base CX0 1 T.A_PearlError_init T.fd_PearlError_init ["self", "why"] (spPearl K "why") := by
  refine okD T.F_PearlError_init sc_PearlError_init (fun vs H Q E h => ?_) (fun cdv A outer s H vs Q E hr h => ?_)
  · obtain ⟨a, C, v, rfl, T1, hno, ha, q⟩ := h
    rfl
  obtain ⟨a, C, v, rfl, T1, hno, ha, q⟩ := h
  refine ⟨_, (pss_cons (ps_expr (pe_veinit (by rfl) T.z_ValueError T.vV (pa_cons (pv 0) (pa_cons (pv 1) pa_nil))))
      (pss_one (ps_ost (pv 0) (pv 1)))), ?_⟩
  refine ⟨_, rfl, _, rfl, a, C, [v], rfl, (by show 1 ≤ 1000; decide), T1, ha, ?_⟩
  exact ⟨_, rfl, _, rfl, a, C, rfl, T1, hno, .inl ⟨ha, q⟩⟩
theorem ok_NoPlace_init (T : Tx K mg) : FnOk P w K mg base CX0 1 T.A_NoPlace_init T.fd_NoPlace_init ["self", "at"] (spErr "IndexError.__new__" ixT K "at") := by
  refine T.F_NoPlace_init.ok sc_NoPlace_init (fun vs H Q E h => ?_) (fun cdv A outer s H vs Q E hr h => ?_)
  · obtain ⟨a, C, v, rfl, T1, hno, ha, q⟩ := h
    rfl
  obtain ⟨a, C, v, rfl, T1, hno, ha, q⟩ := h
  refine ⟨_, (pss_cons (ps_expr (pe_binit PySem.F.excBase_IndexError (by rfl) T.z_IndexError (by decide +kernel) typ_IX (by decide +kernel) (by decide +kernel) T.vV_IndexError (pa_cons (pv 0) (pa_cons pe_str pa_nil))))
      (pss_one (ps_ostB (newId := "IndexError.__new__") (bmB := ixT) PySem.F.store_IndexError (pv 0) (pv 1)))), ?_⟩
  refine ⟨_, rfl, a, C, [.str "there is no such place"], rfl, (by show 1 ≤ 1000; decide), T1, ha, ?_⟩
  exact ⟨_, rfl, _, rfl, a, C, rfl, T1, hno, .inl ⟨ha, q⟩⟩
def spNotLet (K : PySem.W.Frag) : Sp := fun vs H Q _ => ∃ (a C : Addr) (v1 v2 : V), vs = [.ref a, v1, v2] ∧ OexC K C ∧ PySem.W.findIn K (.ref C) "at" = some none ∧ PySem.W.findIn K (.ref C) "why" = some none ∧ H a = some (exo a C none) ∧
  ∀ dx, H dx = none → dx ≠ a → Q .non (upd (upd (upd H dx (exd dx [("why", v2)])) a (exo a C (some dx))) dx (exd dx [("at", v1), ("why", v2)]))
theorem ok_NotLet_init (T : Tx K mg) : FnOk P w K mg base CX0 2 T.A_NotLet_init T.fd_NotLet_init ["self", "at", "why"] (spNotLet K) := by
  refine T.F_NotLet_init.ok sc_NotLet_init (fun vs H Q E h => ?_) (fun cdv A outer s H vs Q E hr h => ?_)
  · obtain ⟨a, C, v1, v2, rfl, T1, n1, n2, ha, q⟩ := h
    rfl
  obtain ⟨a, C, v1, v2, rfl, T1, n1, n2, ha, q⟩ := h
  refine ⟨_, (pss_cons (ps_expr (pe_cfn T.cf_PearlError (ok_PearlError_init T) (hr.mono (by decide)) (by rfl) T.g_PearlError T.b_PearlError_init .nil pass0 (pa_cons (pv 0) (pa_cons (pv 2) pa_nil))))
      (pss_one (ps_ost (pv 0) (pv 1)))), ?_⟩
  refine ⟨_, rfl, _, rfl, a, C, v2, rfl, T1, n2, ha, fun dx hd hne => ?_⟩
  refine ⟨_, rfl, _, rfl, a, C, rfl, T1, n1, .inr ⟨dx, [("why", v2)], upd_same, ?_, (by show 1 ≤ 900; decide), q dx hd hne⟩⟩
  rw [upd_ne hne]
  exact upd_same
/-- a string: its row at t, its rule at m -/
def sf (t m : Addr) : List (Str × V) := putF "rule" (.ref m) (putF "held" (.ref t) [])
theorem sf_held (t m : Addr) : (sf t m).lookup ("held" : Str) = some (.ref t) := by
  unfold sf
  rw [lookup_putF, if_neg (by decide +kernel), lookup_putF, if_pos rfl]
theorem sf_rule (t m : Addr) : (sf t m).lookup ("rule" : Str) = some (.ref m) := by
  unfold sf
  rw [lookup_putF, if_pos rfl]
theorem sf_no (t m : Addr) {x : Str} (h1 : ¬ x = "rule") (h2 : ¬ x = "held") : (sf t m).lookup x = none := by
  unfold sf
  rw [lookup_putF, if_neg h1, lookup_putF, if_neg h2]
  rfl
def StrAt (C : Addr) (H : Hp) (s t m : Addr) : Prop := ∃ dx, H s = some (.ins C dx (sf t m))
/-- the string at s has the places rs and the rule u -/
structure SV (CB CR C : Addr) (H : Hp) (s : Addr) (rs : List (Option Rw)) (u : Rl) : Prop where
  ex : ∃ (t m : Addr) (xs : List V), StrAt C H s t m ∧ H t = some (.tup xs) ∧ Bds CB H xs rs ∧ RuleAt CR H m u
theorem SV.same {CB CR C : Addr} {H H' : Hp} {s : Addr} {rs : List (Option Rw)} {u : Rl} (h : SV CB CR C H s rs u) (z : Same H H') : SV CB CR C H' s rs u := by
  obtain ⟨t, m, xs, ⟨dx, h1⟩, h2, h3, dm, h4⟩ := h.ex
  exact ⟨t, m, xs, ⟨dx, z _ _ h1⟩, z _ _ h2, h3.same (NL.of z), dm, z _ _ h4⟩
def notLetD (j : Nat) (z : V) : List (Str × V) := [("at", .int j), ("why", z)]
def spStringX (K : PySem.W.Frag) (CB CR C CN : Addr) : Sp := fun vs H Q E => ∃ (s dx b m : Addr) (xs : List V) (rs : List (Option Rw)) (u : Rl), vs = [.ref s, .ref b, .ref m] ∧ H s = some (.ins C dx []) ∧ SqL K H b xs ∧ Bds CB H xs rs ∧ RuleAt CR H m u ∧ rs.length ≤ 1000 ∧
  (bar rs u = none → ∀ (H' : Hp) (t : Addr), StrAt C H' s t m → H' t = some (.tup xs) → (∀ b o, H b = some o → b ≠ s → H' b = some o) → Q .non H') ∧
  (∀ j z, bar rs u = some (j, z) → ∀ H' dd, Same H H' → H' dd = some (.xd (notLetD j z)) → E (.ref CN) (some dd) H')
theorem ok_String_init (T : Tx K mg) : FnOk P w K mg base (L2.CX P w) 4 T.A_String_init T.fd_String_init ["self", "beads", "rule"] (spStringX K T.C_Bead T.C_Rule T.C_String T.C_NotLet) := by
  refine T.F_String_init.okX sc_String_init (fun vs H Q E h => ?_) (fun cdv A outer s H vs Q E hr h => ?_)
  · obtain ⟨s, dx, b, m, xs, rs, u, rfl, hs, hS, hB, hM, hl, qy, qn⟩ := h
    rfl
  obtain ⟨s, dx, b, m, xs, rs, u, rfl, hs, hS, hB, hM, hl, qy, qn⟩ := h
  refine ⟨_, (pss_cons (ps_set (i := 3) sc_String_init.nd rfl (Or.inl rfl) (pe_call (ok_barred T) (hr.mono (by decide)) (by rfl) T.g_barred T.F_barred.kp T.b_barred .nil pass0 (pa_cons (pv 1) (pa_cons (pv 2) pa_nil))))
      (pss_cons (ps_if (pt_cmpR op_notN (pv 3) pe_non (nomark _)) (pss_one (ps_raise rfl (takes_of rfl rfl rfl rfl) (pmk_oex T.ox_NotLet T.in_NotLet T.ti_NotLet (ok_NotLet_init T) (hr.mono (by decide)) T.b_NotLet_init .nil pass0 (by rfl) T.g_NotLet (pa_cons (pe_ix ix_tup (pv 3) pe_int (fun _ _ => rfl)) (pa_cons (pe_ix ix_tup (pv 3) pe_int (fun _ _ => rfl)) pa_nil))))) pss_nil)
      (pss_cons (ps_fld (pv 0) (pe_callTy call_tuple_of (by rfl) T.z_tuple (by decide +kernel) (pa_cons (pv 1) pa_nil)) rfl)
      (pss_one (ps_fld (pv 0) (pv 2) rfl))))), ?_⟩
  refine ⟨_, rfl, _, rfl, b, m, xs, rs, u, rfl, hS, hB, hM, hl, fun H1 v s1 hv => ?_⟩
  cases hbar : bar rs u with
  | none =>
    rw [hbar] at hv
    have hv : v = .non := hv
    subst hv
    refine ⟨_, rfl, rfl, _, rfl, iteF ?_⟩
    refine ⟨_, rfl, b, xs, rfl, .inl ⟨s1.seq hS, fun t ht => ?_⟩⟩
    have z := same_upd ht (o := .tup xs)
    have nts : t ≠ s := fun e => by
      have := s1 _ _ hs
      rw [← e, ht] at this
      cases this
    refine ⟨_, rfl, s, _, dx, _, rfl, z _ _ (s1 _ _ hs), T.cl_String, T.n_String_held, by decide, ?_⟩
    refine ⟨_, rfl, _, rfl, s, _, dx, _, rfl, upd_same, T.cl_String, T.n_String_rule, Nat.lt_of_le_of_lt (few few0) (by decide), ?_⟩
    refine qy hbar _ t ⟨dx, upd_same⟩ ?_ fun b o e hb => ?_
    · rw [upd_ne nts, upd_ne nts]
      exact upd_same
    · rw [upd_ne hb, upd_ne hb]
      exact z _ _ (s1 _ _ e)
  | some jz =>
    obtain ⟨j, z⟩ := jz
    rw [hbar] at hv
    obtain ⟨t, rfl, ht⟩ := (show ∃ t, v = .ref t ∧ H1 t = some (.tup [.int j, z]) from hv)
    refine ⟨_, rfl, rfl, _, rfl, iteT ?_⟩
    refine ⟨_, rfl, t, _, _, _, rfl, rfl, .inl (.inl ht), atI_nat (j := 0) rfl, _, rfl, t, _, _, _, rfl, rfl, .inl (.inl ht), atI_nat (j := 1) rfl, (by show 2 ≤ 1000; decide), fun a ha => ?_⟩
    refine ⟨a, T.C_NotLet, .int j, z, rfl, T.ox_NotLet, T.nf_NotLet_at, T.nf_NotLet_why, upd_same, fun d hd hne => ⟨rfl, d, notLetD j z, ?_, upd_same, ?_, qn j z hbar _ d ?_ upd_same⟩⟩
    · rw [upd_ne hne.symm]
      exact upd_same
    · rwa [upd_ne hne] at hd
    · have hd' : H1 d = none := by rwa [upd_ne hne] at hd
      intro b o e
      have e1 := s1 _ _ e
      rw [upd_ne (ne_of_none e1 hd'), del_ne (ne_of_none e1 ha), upd_ne (ne_of_none e1 hd'), upd_ne (ne_of_none e1 ha), upd_ne (ne_of_none e1 hd'), upd_ne (ne_of_none e1 ha)]
      exact e1
def spSBeads (K : PySem.W.Frag) (CB C : Addr) : Sp := fun vs H Q _ => ∃ (s t m : Addr) (xs : List V), vs = [.ref s] ∧ StrAt C H s t m ∧ H t = some (.tup xs) ∧ ∀ l, H l = none → Q (.ref l) (upd H l (.lst xs))
theorem ok_String_beads (T : Tx K mg) : FnOk P w K mg base CX0 1 T.A_String_beads T.fd_String_beads ["self"] (spSBeads K T.C_Bead T.C_String) := by
  refine T.F_String_beads.ok sc_String_beads (fun vs H Q E h => ?_) (fun cdv A outer s H vs Q E hr h => ?_)
  · obtain ⟨s, t, m, xs, rfl, ⟨dx, hs⟩, ht, q⟩ := h
    rfl
  obtain ⟨s, t, m, xs, rfl, ⟨dx, hs⟩, ht, q⟩ := h
  refine ⟨_, (pss_one (ps_ret (pe_callTy call_list_of (by rfl) T.z_list (by decide +kernel) (pa_cons (pe_fld (pv 0) rfl) pa_nil)))), ?_⟩
  exact ⟨_, rfl, s, _, dx, _, _, rfl, hs, T.cl_String, T.n_String_held, sf_held t m, t, xs, rfl, .inr (.inl (.inl ht)), fun l hl => q l hl⟩
/-- what the two ways tell: a new string, or that it is not let -/
def After (CB CR C CN : Addr) (H : Hp) (rs : List (Option Rw)) (u : Rl) (Q : VK) (E : XK) : Prop :=
  (bar rs u = none → ∀ H' s', Same H H' → SV CB CR C H' s' rs u → Q (.ref s') H') ∧
  (∀ j z, bar rs u = some (j, z) → ∀ H' dd, Same H H' → H' dd = some (.xd (notLetD j z)) → E (.ref CN) (some dd) H')
theorem Bds.set {C : Addr} {H : Hp} {vs : List V} {rs : List (Option Rw)} (h : Bds C H vs rs) (i : Nat) {y : V} {o : Option Rw} (hy : BV C H y o) : Bds C H (vs.set i y) (rs.set i o) := by
  refine ⟨by rw [List.length_set, List.length_set]; exact h.len, fun k v hv => ?_⟩
  have hk : k < vs.length := by
    have := (List.getElem?_eq_some_iff.mp hv).1
    rwa [List.length_set] at this
  by_cases e : i = k
  · subst e
    rw [List.getElem?_set_self hk] at hv
    refine ⟨o, List.getElem?_set_self (by rw [← h.len]; exact hk), ?_⟩
    rw [← Option.some.inj hv]
    exact hy
  · rw [List.getElem?_set_ne e] at hv
    obtain ⟨o', h1, h2⟩ := h.at_ k v hv
    exact ⟨o', (List.getElem?_set_ne e).trans h1, h2⟩
theorem ix_nat {n i : Nat} (h : i < n) : ixN n ((i : Nat) : Int) = some i := by
  unfold ixN
  simp
  omega
def spChanged (K : PySem.W.Frag) (CB CR C CN : Addr) : Sp := fun vs H Q E => ∃ (s : Addr) (i : Nat) (y : V) (o : Option Rw) (rs : List (Option Rw)) (u : Rl), vs = [.ref s, .int i, y] ∧ SV CB CR C H s rs u ∧ BV CB H y o ∧ i < rs.length ∧ rs.length ≤ 1000 ∧ After CB CR C CN H (rs.set i o) u Q E
theorem ok_String_changed_at (T : Tx K mg) : FnOk P w K mg base (L2.CX P w) 6 T.A_String_changed_at T.fd_String_changed_at ["self", "at", "bead"] (spChanged K T.C_Bead T.C_Rule T.C_String T.C_NotLet) := by
  refine T.F_String_changed_at.okX sc_String_changed_at (fun vs H Q E h => ?_) (fun cdv A outer s H vs Q E hr h => ?_)
  · obtain ⟨s, i, y, o, rs, u, rfl, hs, hy, hi, hl, q⟩ := h
    rfl
  obtain ⟨s, i, y, o, rs, u, rfl, hs, hy, hi, hl, q⟩ := h
  refine ⟨_, (pss_cons (ps_set (i := 3) sc_String_changed_at.nd rfl (Or.inl rfl) (pe_meth0 (pv 0) T.cl_String T.m_String_beads (ok_String_beads T) (hr.mono (by decide)) T.b_String_beads .nil pass0))
      (pss_cons (ps_asg (pv 2) (pg_sub (pv 3) (pv 1) set_list))
      (pss_one (ps_ret (pe_make T.mk_String (ok_String_init T) (hr.mono (by decide)) (by rfl) T.g_String T.b_String_init .nil (passes_call (takes_of rfl rfl rfl rfl) (fun _ _ _ _ h => h)) (pa_cons (pv 3) (pa_cons (pe_fld (pv 0) rfl) pa_nil))))))), ?_⟩
  obtain ⟨t, m, xs, ⟨dx, h1⟩, h2, h3, dm, h4⟩ := hs.ex
  refine ⟨_, rfl, s, dx, _, rfl, h1, sf_no t m (by decide +kernel) (by decide +kernel), s, t, m, xs, rfl, ⟨dx, h1⟩, h2, fun l hl' => ?_⟩
  have z1 := same_upd hl' (o := .lst xs)
  refine ⟨_, rfl, _, rfl, _, rfl, l, xs, i, i, rfl, rfl, upd_same, ix_nat (by rw [h3.len]; exact hi), ?_⟩
  have z2 : Same H (upd (upd H l (.lst xs)) l (.lst (xs.set i y))) := fun b o e => by
    rw [upd_ne (ne_of_none e hl')]
    exact z1 _ _ e
  have el : (upd (upd H l (.lst xs)) l (.lst (xs.set i y))) l = some (.lst (xs.set i y)) := upd_same
  generalize upd (upd H l (.lst xs)) l (.lst (xs.set i y)) = H1 at z2 el
  refine ⟨_, rfl, _, rfl, s, _, dx, _, _, rfl, z2 _ _ h1, T.cl_String, T.n_String_rule, sf_rule t m, ?_⟩
  intro x dx2 a1 a2 a3
  have z3 : Same H1 (upd (upd H1 dx2 (.own x)) x (.ins T.C_String dx2 [])) := fun b o e => by
    rw [upd_ne (ne_of_none e a1), upd_ne (ne_of_none e a2)]
    exact e
  have z4 := z2.trans z3
  have nx : ∀ b o, H b = some o → b ≠ x := fun b o e => ne_of_none (z2 _ _ e) a1
  have hB := (h3.set i hy)
  refine ⟨x, dx2, l, m, xs.set i y, rs.set i o, u, rfl, upd_same, SqL.of (z3 _ _ el), hB.same (NL.of z4), ⟨dm, z4 _ _ h4⟩, by rw [List.length_set]; exact hl, fun hb H' t3 hs3 ht3 k => ⟨rfl, q.1 hb H' x (fun b o e => k b o (z4 _ _ e) (nx b o e)) ⟨t3, m, _, hs3, ht3, hB.same (NL.of fun b o e => k b o (z4 _ _ e) (nx b o e)), dm, k _ _ (z4 _ _ h4) (nx _ _ h4)⟩⟩, fun j z hb H' dd s5 hd => q.2 j z hb H' dd (z4.trans s5) hd⟩
def gapsOf (rs : List (Option Rw)) : List Nat := (List.range rs.length).filter fun j => (rs.getD j none).isNone
def spGaps (K : PySem.W.Frag) (CB CR C : Addr) : Sp := fun vs H Q _ => ∃ (s : Addr) (rs : List (Option Rw)) (u : Rl), vs = [.ref s] ∧ SV CB CR C H s rs u ∧ rs.length ≤ 1000 ∧ ∀ H' l, Same H H' → H' l = some (.lst ((gapsOf rs).map fun j => V.int (j : Nat))) → Q (.ref l) H'
theorem ok_String_gaps (T : Tx K mg) : FnOk P w K mg base CX0 1 T.A_String_gaps T.fd_String_gaps ["self"] (spGaps K T.C_Bead T.C_Rule T.C_String) := by
  refine T.F_String_gaps.ok sc_String_gaps (fun vs H Q E h => ?_) (fun cdv A outer s H vs Q E hr h => ?_)
  · obtain ⟨s, rs, u, rfl, hs, hl, q⟩ := h
    rfl
  obtain ⟨s, rs, u, rfl, hs, hl, q⟩ := h
  refine ⟨_, (pss_one (ps_ret (pe_lc (own := [("at", 1), ("bead", 2)]) (g := gTup K 2 (gCons (gName 1) (gCons (gName 2) gNil))) (tt := _) rfl sc_String_gaps.nd (pi_enumT (by rfl) T.z_enumerate (pa_cons (pe_fld (pv 0) rfl) pa_nil)) (blkOk_by (N := ["self", "at", "bead"]) (sc := defScope s_String_gaps) (by decide +kernel)) (fun _ _ _ _ _ => (pg_tupK (K' := K) rfl (by rfl) (pgs_cons (pg_name (i := 1) sc_String_gaps.nd rfl (Or.inl rfl)) (pgs_cons (pg_name (i := 2) sc_String_gaps.nd rfl (Or.inl rfl)) pgs_nil)))) (fun _ _ _ _ _ => (pts_one (pt_cmpR op_isN (pv 2) pe_non (nomark _)))) (fun _ _ _ _ _ => (pv 1))))), ?_⟩
  obtain ⟨t, m, xs, ⟨dx, h1⟩, h2, h3, dm, h4⟩ := hs.ex
  refine ⟨_, rfl, s, _, dx, _, _, rfl, h1, T.cl_String, T.n_String_held, sf_held t m, t, xs, rfl, .inl (.inl h2), fun D hD => lc_enumT (K := K) hD h2 (by rw [h3.len]; omega) (fun j => (rs.getD j none).isNone) (fun j => V.int (j : Nat)) ?_ ?_⟩
  · intro i x T2 H2 R C hx s2 hT yes no
    refine ⟨T2, _, rfl, .inl (.inl hT), rfl, _, _, rfl, _, _, rfl, rfl, rfl, _, rfl, rfl, _, rfl, ?_⟩
    obtain ⟨o, ho, hb⟩ := h3.at_ i x hx
    have hg : rs.getD i none = o := by
      rw [List.getD_eq_getElem?_getD, ho]
      rfl
    rw [hg] at yes no
    rcases hb with ⟨rfl, rfl⟩ | ⟨p, r, rfl, rfl, _⟩
    · exact iteT ⟨_, rfl, yes rfl⟩
    · exact iteF (no rfl)
  · intro H' s' e
    rw [h3.len] at e
    exact q H' D s' e
theorem gaps_in (rs : List (Option Rw)) (n : Int) : inV (.int n) ((gapsOf rs).map fun j => V.int (j : Nat)) = true ↔ ∃ i : Nat, n = i ∧ rs[i]? = some none := by
  unfold inV gapsOf
  rw [List.any_map, List.any_eq_true]
  constructor
  · rintro ⟨j, hj, e⟩
    have e : ((j : Int) == n) = true := e
    rw [List.mem_filter, List.mem_range] at hj
    refine ⟨j, (beq_iff_eq.mp e).symm, ?_⟩
    obtain ⟨h1, h2⟩ := hj
    rw [List.getD_eq_getElem?_getD, List.getElem?_eq_getElem h1] at h2
    rw [List.getElem?_eq_getElem h1]
    have h2 : (rs[j]).isNone = true := h2
    rw [Option.isNone_iff_eq_none.mp h2]
  · rintro ⟨i, rfl, h⟩
    refine ⟨i, ?_, beq_self_eq_true _⟩
    rw [List.mem_filter, List.mem_range]
    refine ⟨(List.getElem?_eq_some_iff.mp h).1, ?_⟩
    rw [List.getD_eq_getElem?_getD, h]
    rfl
theorem gaps_flat (rs : List (Option Rw)) : ((gapsOf rs).map fun j => V.int (j : Nat)).all flatV = true := by
  rw [List.all_map, List.all_eq_true]
  exact fun _ _ => rfl
/-- the error that there is no such place -/
theorem no_place {C CP : Addr} {H : Hp} {n : V} {E : XK} (ox : OexB "IndexError.__new__" ixT K C) (nf : PySem.W.findIn K (.ref C) "at" = some none) (q : ∀ H' dd, Same H H' → H' dd = some (.xd [("at", n)]) → E (.ref C) (some dd) H') : [n].length ≤ 1000 ∧ ∀ a, H a = none → spErr "IndexError.__new__" ixT K "at" (.ref a :: ([n] ++ [])) (upd H a (exo a C none))
    (fun v H2 => v = .non ∧ ∃ (d : Addr) (fs : List (Str × V)), H2 a = some (exo a C (some d)) ∧ H2 d = some (exd d fs) ∧ H d = none ∧ E (.ref C) (some d) (upd (del H2 a) d (.xd fs))) (fun _ _ _ => False) := by
  refine ⟨by show 1 ≤ 1000; decide, fun a ha => ⟨a, C, n, rfl, ox, nf, upd_same, fun d hd hne => ?_⟩⟩
  have hd' : H d = none := by rwa [upd_ne hne] at hd
  refine ⟨rfl, d, [("at", n)], upd_same, ?_, hd', q _ d (pearl_same ha hd') upd_same⟩
  rw [upd_ne hne]
  exact upd_same
/-- where a bead may be put, or taken from -/
def spFilled (K : PySem.W.Frag) (CB CR C CN CP : Addr) : Sp := fun vs H Q E => ∃ (s : Addr) (n : Int) (y : V) (r : Rw) (rs : List (Option Rw)) (u : Rl), vs = [.ref s, .int n, y] ∧ SV CB CR C H s rs u ∧ BV CB H y (some r) ∧ rs.length ≤ 1000 ∧
  (∀ i : Nat, n = i → rs[i]? = some none → After CB CR C CN H (rs.set i (some r)) u Q E) ∧
  ((¬ ∃ i : Nat, n = i ∧ rs[i]? = some none) → ∀ H' dd, Same H H' → H' dd = some (.xd [("at", .int n)]) → E (.ref CP) (some dd) H')
theorem ok_String_filled (T : Tx K mg) : FnOk P w K mg base (L2.CX P w) 7 T.A_String_filled T.fd_String_filled ["self", "at", "bead"] (spFilled K T.C_Bead T.C_Rule T.C_String T.C_NotLet T.C_NoPlace) := by
  refine T.F_String_filled.okX sc_String_filled (fun vs H Q E h => ?_) (fun cdv A outer s H vs Q E hr h => ?_)
  · obtain ⟨s, n, y, r, rs, u, rfl, hs, hy, hl, qy, qn⟩ := h
    rfl
  obtain ⟨s, n, y, r, rs, u, rfl, hs, hy, hl, qy, qn⟩ := h
  refine ⟨_, (pss_cons (ps_if (pt_cmpR op_notIn_seq (pv 1) (pe_meth0 (pv 0) T.cl_String T.m_String_gaps (ok_String_gaps T) (hr.mono (by decide)) T.b_String_gaps .nil pass0) (by rfl)) (pss_one (ps_raise rfl (takes_of rfl rfl rfl rfl) (pmk_gex PySem.F.excBase_IndexError T.ox_NoPlace T.in_NoPlace T.ti_NoPlace (ok_NoPlace_init T) (hr.mono (by decide)) T.b_NoPlace_init .nil pass0 (by rfl) T.g_NoPlace (pa_cons (pv 1) pa_nil)))) pss_nil)
      (pss_one (ps_ret (pe_meth (pv 0) T.cl_String T.m_String_changed_at (ok_String_changed_at T) (hr.mono (by decide)) T.b_String_changed_at .nil (passes_call (takes_of rfl rfl rfl rfl) (fun _ _ _ _ h => h)) (pa_cons (pv 1) (pa_cons (pv 2) pa_nil)))))), ?_⟩
  obtain ⟨t, m, xs, ⟨dx, h1⟩, h2, h3, dm, h4⟩ := hs.ex
  refine ⟨_, rfl, _, rfl, s, dx, _, rfl, h1, sf_no t m (by decide +kernel) (by decide +kernel), s, rs, u, rfl, hs, hl, fun H1 l s1 el => ?_⟩
  refine ⟨l, _, rfl, .inl (SqL.of el), rfl, gaps_flat rs, _, rfl, ?_⟩
  cases hin : inV (.int n) ((gapsOf rs).map fun j => V.int (j : Nat)) with
  | false =>
    refine iteT ⟨_, rfl, no_place (CP := T.C_NoPlace) T.ox_NoPlace T.nf_NoPlace_at fun H' dd s2 hd => qn ?_ H' dd (s1.trans s2) hd⟩
    intro z
    rw [(gaps_in rs n).mpr z] at hin
    cases hin
  | true =>
    obtain ⟨i, rfl, hi⟩ := (gaps_in rs n).mp hin
    have q := qy i rfl hi
    have hlt := (List.getElem?_eq_some_iff.mp hi).1
    refine iteF ⟨_, rfl, s, dx, _, rfl, s1 _ _ h1, sf_no t m (by decide +kernel) (by decide +kernel), _, rfl, _, rfl, s, i, y, some r, rs, u, rfl, hs.same s1, hy.same (NL.of s1), hlt, hl, fun hb H' s' s2 => q.1 hb H' s' (s1.trans s2), fun j z hb H' dd s2 => q.2 j z hb H' dd (s1.trans s2)⟩
def spEmptied (K : PySem.W.Frag) (CB CR C CN CP : Addr) : Sp := fun vs H Q E => ∃ (s : Addr) (n : Int) (rs : List (Option Rw)) (u : Rl), vs = [.ref s, .int n] ∧ SV CB CR C H s rs u ∧ rs.length ≤ 1000 ∧
  (∀ (i : Nat) (r : Rw), n = i → rs[i]? = some (some r) → After CB CR C CN H (rs.set i none) u Q E) ∧
  ((¬ ∃ (i : Nat) (r : Rw), n = i ∧ rs[i]? = some (some r)) → ∀ H' dd, Same H H' → H' dd = some (.xd [("at", .int n)]) → E (.ref CP) (some dd) H')
theorem ok_String_emptied (T : Tx K mg) : FnOk P w K mg base (L2.CX P w) 7 T.A_String_emptied T.fd_String_emptied ["self", "at"] (spEmptied K T.C_Bead T.C_Rule T.C_String T.C_NotLet T.C_NoPlace) := by
  refine T.F_String_emptied.okX sc_String_emptied (fun vs H Q E h => ?_) (fun cdv A outer s H vs Q E hr h => ?_)
  · obtain ⟨s, n, rs, u, rfl, hs, hl, qy, qn⟩ := h
    rfl
  obtain ⟨s, n, rs, u, rfl, hs, hl, qy, qn⟩ := h
  refine ⟨_, (pss_cons (ps_if (PW.pt (pw_or (pt_notInRg (pv 1) (prg_1 (by rfl) T.z_range (pe_callB call_len_seq (by rfl) T.z_len PySem.boot_len (pa_cons (pe_fld (pv 0) rfl) pa_nil)))) (pw_or1 (pt_cmpR op_isN (pe_ix ix_tup (pe_fld (pv 0) rfl) (pv 1) (fun _ _ => rfl)) pe_non (nomark _))))) (pss_one (ps_raise rfl (takes_of rfl rfl rfl rfl) (pmk_gex PySem.F.excBase_IndexError T.ox_NoPlace T.in_NoPlace T.ti_NoPlace (ok_NoPlace_init T) (hr.mono (by decide)) T.b_NoPlace_init .nil pass0 (by rfl) T.g_NoPlace (pa_cons (pv 1) pa_nil)))) pss_nil)
      (pss_one (ps_ret (pe_meth (pv 0) T.cl_String T.m_String_changed_at (ok_String_changed_at T) (hr.mono (by decide)) T.b_String_changed_at .nil (passes_call (takes_of rfl rfl rfl rfl) (fun _ _ _ _ h => h)) (pa_cons (pv 1) (pa_cons pe_non pa_nil)))))), ?_⟩
  obtain ⟨t, m, xs, ⟨dx, h1⟩, h2, h3, dm, h4⟩ := hs.ex
  have no : (¬ ∃ (i : Nat) (r : Rw), n = i ∧ rs[i]? = some (some r)) → _ := fun z => no_place (H := H) (E := E) (CP := T.C_NoPlace) T.ox_NoPlace T.nf_NoPlace_at (qn z)
  refine ⟨_, rfl, n, rfl, _, rfl, s, _, dx, _, _, rfl, h1, T.cl_String, T.n_String_held, sf_held t m, t, xs, rfl, .inr (.inl (.inl h2)), _, rfl, ?_⟩
  rw [h3.len]
  by_cases hn : 0 ≤ n ∧ n < rs.length
  · obtain ⟨i, rfl⟩ : ∃ i : Nat, n = i := ⟨n.toNat, by omega⟩
    have hlt : i < rs.length := by omega
    rw [decide_eq_true hn.1, decide_eq_true hn.2]
    obtain ⟨v, hv, hb⟩ := h3.get (List.getElem?_eq_getElem hlt)
    refine iteF ⟨_, rfl, s, _, dx, _, _, rfl, h1, T.cl_String, T.n_String_held, sf_held t m, _, rfl, t, xs, _, v, rfl, rfl, .inl (.inl h2), atI_nat hv, rfl, _, rfl, ?_⟩
    rcases hb with ⟨rfl, e⟩ | ⟨p, r, rfl, e, _⟩
    · refine iteT ⟨_, rfl, no ?_⟩
      rintro ⟨j, r, hj, h⟩
      have : i = j := by omega
      subst this
      rw [List.getElem?_eq_getElem hlt, e] at h
      cases h
    · have q := qy i r rfl (by rw [List.getElem?_eq_getElem hlt, e])
      exact iteF ⟨_, rfl, s, dx, _, rfl, h1, sf_no t m (by decide +kernel) (by decide +kernel), _, rfl, s, i, .non, none, rs, u, rfl, hs, .inl ⟨rfl, rfl⟩, hlt, hl, q⟩
  · have : (!(decide (0 ≤ n) && decide (n < ((rs.length : Nat) : Int)))) = true := by
      by_cases h0 : 0 ≤ n
      · rw [decide_eq_false (fun z => hn ⟨h0, z⟩), Bool.and_false]
        rfl
      · rw [decide_eq_false h0]
        rfl
    refine Eq.mpr (if_pos this) (iteT ⟨_, rfl, no ?_⟩)
    rintro ⟨j, r, hj, h⟩
    have := (List.getElem?_eq_some_iff.mp h).1
    exact hn ⟨by omega, by omega⟩
end
end KB
namespace KB
open PySem PySem.Spec PyProof.Rows L2 KA

/-- the place that is filled or emptied, if there is one -/
def dueAt (rs : List (Option Rw)) (n : Int) (o : Option Rw) : Option Nat := if 0 ≤ n ∧ n < rs.length ∧ (rs.getD n.toNat none).isNone = !o.isNone then some n.toNat else none
theorem due_some {rs : List (Option Rw)} {i : Nat} {o x : Option Rw} (h : rs[i]? = some x) (e : x.isNone = !o.isNone) : dueAt rs (i : Nat) o = some i := by
  have hl := (List.getElem?_eq_some_iff.mp h).1
  unfold dueAt
  rw [if_pos]
  · rfl
  · refine ⟨Int.natCast_nonneg _, by omega, ?_⟩
    rw [Int.toNat_natCast, List.getD_eq_getElem?_getD, h]
    exact e
theorem due_none {rs : List (Option Rw)} {n : Int} {o : Option Rw} (h : ∀ (i : Nat) (x : Option Rw), n = i → rs[i]? = some x → x.isNone = o.isNone) : dueAt rs n o = none := by
  unfold dueAt
  rw [if_neg]
  rintro ⟨h1, h2, h3⟩
  have hl : n.toNat < rs.length := by omega
  have := h n.toNat _ (by omega) (List.getElem?_eq_getElem hl)
  rw [List.getD_eq_getElem?_getD, List.getElem?_eq_getElem hl] at h3
  have h3 : (rs[n.toNat]).isNone = !o.isNone := h3
  rw [this] at h3
  cases o <;> cases h3
theorem set_cut (xs : List V) (i : Nat) (v : V) (h : i < xs.length) : xs.take i ++ [v] ++ xs.drop (i + 1) = xs.set i v := by
  rw [List.set_eq_take_append_cons_drop, if_pos h, List.append_assoc]
  rfl
theorem good_set {rs : List (Option Rw)} {i : Nat} {o : Option Rw} (h : AllGood rs) (g : ∀ r, o = some r → GoodRw r) : AllGood (rs.set i o) := fun r hr => by
  rcases List.mem_or_eq_of_mem_set hr with z | z
  · exact h r z
  · exact g r z.symm
section
variable {P : Program} {w : World} {K : PySem.W.Frag} {mg : Str → Option Value} {base : Heap}
def DoneV (CB CR C : Addr) (H : Hp) (rs : List (Option Rw)) (u : Rl) (n : Int) (o : Option Rw) (t : Addr) : Prop := match dueAt rs n o with
  | none => H t = some (.tup [.str "place", .int n, .bl true])
  | some i => match bar (rs.set i o) u with
    | none => ∃ s, H t = some (.tup [.str "told", .ref s]) ∧ SV CB CR C H s (rs.set i o) u
    | some (j, z) => H t = some (.tup [.str "barred", .int (j : Nat), z])
def DueV (K : PySem.W.Frag) (H0 H : Hp) (rs : List (Option Rw)) (u : Rl) (n : Int) (o : Option Rw) (t : Addr) : Prop := match dueAt rs n o with
  | none => H t = some (.tup [.str "place", .int n, .bl true])
  | some i => match bar (rs.set i o) u with
    | none => ∃ l xs, H t = some (.tup [.str "told", .ref l]) ∧ H l = some (.lst xs) ∧ Rws K H xs (rs.set i o) ∧ H0 l = none
    | some (j, z) => H t = some (.tup [.str "barred", .int (j : Nat), z])
theorem Rws.set {K : PySem.W.Frag} {H : Hp} {vs : List V} {rs : List (Option Rw)} (h : Rws K H vs rs) (i : Nat) {y : V} {o : Option Rw} (hy : RowV K H y o) : Rws K H (vs.set i y) (rs.set i o) := by
  refine ⟨by rw [List.length_set, List.length_set]; exact h.len, fun k v hv => ?_⟩
  have hk : k < vs.length := by
    have := (List.getElem?_eq_some_iff.mp hv).1
    rwa [List.length_set] at this
  by_cases e : i = k
  · subst e
    rw [List.getElem?_set_self hk] at hv
    refine ⟨o, List.getElem?_set_self (by rw [← h.len]; exact hk), ?_⟩
    rw [← Option.some.inj hv]
    exact hy
  · rw [List.getElem?_set_ne e] at hv
    obtain ⟨o', h1, h2⟩ := h.at_ k v hv
    exact ⟨o', (List.getElem?_set_ne e).trans h1, h2⟩
def spDone (K : PySem.W.Frag) (CB CR C : Addr) : Sp := fun vs H Q _ => ∃ (s : Addr) (n : Int) (v : V) (o : Option Rw) (rs : List (Option Rw)) (u : Rl), vs = [.ref s, .int n, v] ∧ SV CB CR C H s rs u ∧ RowV K H v o ∧ (∀ r, o = some r → GoodRw r) ∧ rs.length ≤ 1000 ∧ ∀ H' t, Same H H' → DoneV CB CR C H' rs u n o t → Q (.ref t) H'
theorem ok_done (T : Tx K mg) : FnOk P w K mg base CX0 8 T.A_done T.fd_done ["_law_string", "_law_spot", "_law_row"] (spDone K T.C_Bead T.C_Rule T.C_String) := by
  refine T.F_done.ok sc_done (fun vs H Q E h => ?_) (fun cdv A outer s H vs Q E hr h => ?_)
  · obtain ⟨s, n, v, o, rs, u, rfl, hs, hv, hG, hl, q⟩ := h
    rfl
  obtain ⟨s, n, v, o, rs, u, rfl, hs, hv, hG, hl, q⟩ := h
  refine ⟨_, (pss_cons (ps_try_all rfl rfl sc_done.nd L2.takes0 (fun W pn xe tk _ => (pss_one (ps_if (pt_cmpR op_isN (pv 2) pe_non (nomark _)) (pss_one (ps_set (i := 3) sc_done.nd rfl (Or.inl rfl) (pe_tup (pa_cons pe_str (pa_cons (pe_methN (pv 0) T.cl_String T.m_String_emptied (ok_String_emptied T) (hr.mono (by decide)) T.kb_e (fun σ => passAt tk σ) (pk_cons (pv 1) pk_nil)) pa_nil))))) (pss_one (ps_set (i := 3) sc_done.nd rfl (Or.inl rfl) (pe_tup (pa_cons pe_str (pa_cons (pe_methN (pv 0) T.cl_String T.m_String_filled (ok_String_filled T) (hr.mono (by decide)) T.kb_f (fun σ => passAt tk σ) (pk_cons (pe_call (ok_bead T) (hr.mono (by decide)) (by rfl) T.g_bead T.F_bead.kp T.b_bead .nil pass0 (pa_cons (pv 2) pa_nil)) (pk_cons (pv 1) pk_nil))) pa_nil))))))))
        (.cons ⟨rfl, by decide, .inl T.g_NoPlace⟩ (j := 4) rfl rfl (fun a oe cls d pn hz hf => (pss_one (ps_ret (pe_tup (pa_cons pe_str (pa_cons (pe_xf ⟨T.xc_NoPlace.hg, T.xc_NoPlace.hk, T.xc_NoPlace.hs, T.xc_NoPlace.hd⟩ T.nf_NoPlace_at hz hf (pv 4)) (pa_cons (pe_callB (call_isD hz hf) (by rfl) T.z_isinstance (by decide +kernel) (pa_cons (pv 4) (pa_cons (pe_bltn (v := .ty "IndexError") (by rfl) T.z_IndexError (by decide +kernel) rfl) pa_nil))) pa_nil))))))) (.cons ⟨rfl, by decide, .inl T.g_NotLet⟩ (j := 4) rfl rfl (fun a oe cls d pn hz hf => (pss_one (ps_ret (pe_tup (pa_cons pe_str (pa_cons (pe_xf ⟨T.xc_NotLet.hg, T.xc_NotLet.hk, T.xc_NotLet.hs, T.xc_NotLet.hd⟩ T.nf_NotLet_at hz hf (pv 4)) (pa_cons (pe_xf ⟨T.xc_NotLet.hg, T.xc_NotLet.hk, T.xc_NotLet.hs, T.xc_NotLet.hd⟩ T.nf_NotLet_why hz hf (pv 4)) pa_nil))))))) .nil)))
      (pss_one (ps_ret (pv 3)))), ?_⟩
  obtain ⟨t, m, xs, ⟨dx, h1⟩, h2, h3, dm, h4⟩ := id hs.ex
  have told : ∀ (i : Nat) (x : Option Rw) (H' : Hp) (s' : Addr), n = i → rs[i]? = some x → x.isNone = !o.isNone → bar (rs.set i o) u = none → Same H H' → SV T.C_Bead T.C_Rule T.C_String H' s' (rs.set i o) u → ∀ p, H' p = none → Q (.ref p) (upd H' p (.tup [.str "told", .ref s'])) := fun i x H' s' en hi hx hb z hS p hp => by
    subst en
    refine q _ p (z.trans (same_upd hp)) ?_
    unfold DoneV
    rw [due_some hi hx]
    show (match bar (rs.set i o) u with | none => _ | some (j, z) => _)
    rw [hb]
    exact ⟨s', upd_same, hS.same (same_upd hp)⟩
  have barred : ∀ (i : Nat) (x : Option Rw) (H' : Hp) (j : Nat) (z : V), n = i → rs[i]? = some x → x.isNone = !o.isNone → bar (rs.set i o) u = some (j, z) → Same H H' → ∀ p, H' p = none → Q (.ref p) (upd H' p (.tup [.str "barred", .int j, z])) := fun i x H' j z' en hi hx hb z p hp => by
    subst en
    refine q _ p (z.trans (same_upd hp)) ?_
    unfold DoneV
    rw [due_some hi hx]
    show (match bar (rs.set i o) u with | none => _ | some (j, z) => _)
    rw [hb]
    exact upd_same
  have place : (∀ (i : Nat) (x : Option Rw), n = i → rs[i]? = some x → x.isNone = o.isNone) → ∀ (H' : Hp), Same H H' → ∀ p, H' p = none → Q (.ref p) (upd H' p (.tup [.str "place", .int n, .bl true])) := fun hn H' z p hp => by
    refine q _ p (z.trans (same_upd hp)) ?_
    unfold DoneV
    rw [due_none hn]
    exact upd_same
  refine ⟨_, rfl, rfl, _, rfl, ?_⟩
  rcases hv with ⟨rfl, rfl⟩ | ⟨p, r, rfl, rfl, hp⟩
  · refine iteT ⟨_, rfl, s, dx, _, rfl, h1, sf_no t m (by decide +kernel) (by decide +kernel), _, rfl, rfl, s, n, rs, u, rfl, hs, hl, fun i r en hi => ⟨fun hb H' s' z hS => ?_, fun j z hb H' dd zz hd => ?_⟩, fun hn H' dd z hd => ?_⟩
    · exact ⟨(by show 2 ≤ sizeLine; decide), fun p hp => ⟨_, rfl, told i _ H' s' en hi rfl hb z hS p hp⟩⟩
    · exact ⟨false, T.en_NotLet, (fun z => by cases z), fun _ => ⟨true, T.em_NotLet_NotLet, fun _ a ha => ⟨_, rfl, rfl, rfl, dd, _, _, rfl, hd, rfl, _, rfl, rfl, rfl, dd, _, _, rfl, hd, rfl, (by show 3 ≤ sizeLine; decide), fun p hp => barred i _ H' j z en hi rfl hb zz p hp⟩, (fun z => by cases z)⟩⟩
    · refine ⟨true, T.em_NoPlace_NoPlace, fun _ a ha => ⟨_, rfl, rfl, rfl, dd, _, _, rfl, hd, rfl, _, rfl, T.C_NoPlace, dd, _, _, _, true, rfl, rfl, rfl, hd, T.xc_NoPlace, .ty _, T.ki_ix, (by show 3 ≤ sizeLine; decide), fun p hp => place ?_ H' z p hp⟩, (fun z => by cases z)⟩
      intro i x en hi
      cases x with
      | none => rfl
      | some r => exact absurd ⟨i, r, en, hi⟩ hn
  · refine iteF ⟨_, rfl, s, dx, _, rfl, h1, sf_no t m (by decide +kernel) (by decide +kernel), _, rfl, _, _, rfl, .inr ⟨p, r, rfl, rfl, hp⟩, hG, fun H1 y s1 hy => ?_⟩
    refine ⟨_, rfl, rfl, s, n, y, r, rs, u, rfl, hs.same s1, hy, hl, fun i en hi => ⟨fun hb H' s' z hS => ?_, fun j z hb H' dd zz hd => ?_⟩, fun hn H' dd z hd => ?_⟩
    · exact ⟨(by show 2 ≤ sizeLine; decide), fun p hp => ⟨_, rfl, told i _ H' s' en hi rfl hb (s1.trans z) hS p hp⟩⟩
    · exact ⟨false, T.en_NotLet, (fun z => by cases z), fun _ => ⟨true, T.em_NotLet_NotLet, fun _ a ha => ⟨_, rfl, rfl, rfl, dd, _, _, rfl, hd, rfl, _, rfl, rfl, rfl, dd, _, _, rfl, hd, rfl, (by show 3 ≤ sizeLine; decide), fun p hp => barred i _ H' j z en hi rfl hb (s1.trans zz) p hp⟩, (fun z => by cases z)⟩⟩
    · refine ⟨true, T.em_NoPlace_NoPlace, fun _ a ha => ⟨_, rfl, rfl, rfl, dd, _, _, rfl, hd, rfl, _, rfl, T.C_NoPlace, dd, _, _, _, true, rfl, rfl, rfl, hd, T.xc_NoPlace, .ty _, T.ki_ix, (by show 3 ≤ sizeLine; decide), fun p hp => place ?_ H' (s1.trans z) p hp⟩, (fun z => by cases z)⟩
      intro i x en hi
      cases x with
      | none => exact absurd ⟨i, en, hi⟩ hn
      | some r => rfl
theorem RowV.isN {K : PySem.W.Frag} {H : Hp} {v : V} {o : Option Rw} (h : RowV K H v o) : decide (v = V.non) = o.isNone := by
  rcases h with ⟨rfl, rfl⟩ | ⟨p, r, rfl, rfl, _⟩
  · rfl
  · rfl
theorem list_set {K : PySem.W.Frag} {H0 : Hp} {b : Addr} {xs : List V} {i : Nat} {v : V} {Q : VK} {σ : L2.St} (hb : SqL K H0 b xs) (h0 : σ[0]? = some (some (.ref b))) (h1 : σ[1]? = some (some (.int i))) (h2 : σ[2]? = some (some v)) (hi : i < xs.length) (hl : xs.length ≤ 1000)
    (q : ∀ H' p, Same H0 H' → H0 p = none → H' p = some (.lst (xs.set i v)) → Q (.ref p) H') :
    tOp rCat (tOp rCat (tSl (rSlL K) (tVar 0) tNoPart (tPart (tVar 1))) (tLst (tCons (tVar 2) tNil))) (tSl (rSlL K) (tVar 0) (tPart (tOp (rI0 fun i j => V.int (i + j)) (tVar 1) (tC (V.int 1)))) tNoPart) σ H0 Q := by
  refine ⟨_, h0, _, h1, _, rfl, b, xs, rfl, hb, fun p1 hp1 => ⟨_, h2, (by show 1 ≤ sizeLine; decide), fun p2 hp2 => ?_⟩⟩
  have z1 := same_upd hp1 (o := .lst (cutV xs none (some (i : Int))))
  have z2 := same_upd hp2 (o := .lst [v])
  have l1 : (cutV xs none (some (i : Int))).length ≤ 1000 := by
    rw [cut_to, List.length_take]
    omega
  refine ⟨p1, p2, _, _, rfl, rfl, z2 _ _ upd_same, upd_same, Nat.le_trans (show _ + 1 ≤ 1001 by omega) (by decide), fun p3 hp3 => ?_⟩
  have z3 := same_upd hp3 (o := .lst (cutV xs none (some (i : Int)) ++ [v]))
  have z13 := z1.trans (z2.trans z3)
  refine ⟨_, h0, _, h1, _, _, rfl, rfl, _, rfl, b, xs, rfl, z13.seq hb, fun p4 hp4 => ?_⟩
  have z4 := same_upd hp4 (o := .lst (cutV xs (some ((i : Int) + 1)) none))
  have e4 : cutV xs (some ((i : Int) + 1)) none = xs.drop (i + 1) := cut_from xs (i + 1)
  refine ⟨p3, p4, _, _, rfl, rfl, z4 _ _ upd_same, upd_same, ?_, fun p5 hp5 => ?_⟩
  · rw [e4, List.length_append, List.length_drop]
    exact Nat.le_trans (show _ + 1 + _ ≤ 3000 by omega) (by decide)
  · refine q _ p5 (z13.trans (z4.trans (same_upd hp5))) ((z13.trans z4).free hp5) ?_
    rw [upd_same, e4, cut_to, set_cut xs i v hi]
def spDue (K : PySem.W.Frag) : Sp := fun vs H Q _ => ∃ (b t : Addr) (n : Int) (v : V) (o : Option Rw) (xs : List V) (rs : List (Option Rw)) (u : Rl), vs = [.ref b, .int n, v, .ref t] ∧ SqL K H b xs ∧ Rws K H xs rs ∧ RowV K H v o ∧ AllGood rs ∧ (∀ r, o = some r → GoodRw r) ∧ SqT K H t (fourVals u) ∧ rs.length ≤ 900 ∧ ∀ H' t, Same H H' → DueV K H H' rs u n o t → Q (.ref t) H'
theorem ok_due (T : Tx K mg) : FnOk P w K mg base CX0 3 T.A_due T.fd_due ["_law_rows_here", "_law_spot", "_law_row", "_law_four"] (spDue K) := by
  refine T.F_due.ok sc_due (fun vs H Q E h => ?_) (fun cdv A outer s H vs Q E hr h => ?_)
  · obtain ⟨b, t, n, v, o, xs, rs, u, rfl, hb, hB, hv, hG, hg, ht, hl, q⟩ := h
    rfl
  obtain ⟨b, t, n, v, o, xs, rs, u, rfl, hb, hB, hv, hG, hg, ht, hl, q⟩ := h
  refine ⟨_, (pss_cons (ps_if (PW.pt (pw_or (pt_not (pt_chain op_le op_lt pe_int (pv 1) (pe_callB call_len_seq (by rfl) T.z_len PySem.boot_len (pa_cons (pv 0) pa_nil)))) (pw_or1 (pt_cmpR op_eq (pe_cmpR op_isN (pe_ix ix_list (pv 0) (pv 1) (fun _ _ => rfl)) pe_non (nomark _)) (pe_cmpR op_isN (pv 2) pe_non (nomark _)) (nomark _))))) (pss_one (ps_ret (pe_tup (pa_cons pe_str (pa_cons (pv 1) (pa_cons pe_bl pa_nil)))))) pss_nil)
      (pss_cons (ps_set (i := 4) sc_due.nd rfl (Or.inl rfl) (pe_call (ok_why T) (hr.mono (by decide)) (by rfl) T.g_why T.F_why.kp T.b_why .nil pass0 (pa_cons (pe_op op_cat (pe_op op_cat (pe_slice sl_list (pv 0) po_none (po_some (pv 1))) (pe_lst (pa_cons (pv 2) pa_nil))) (pe_slice sl_list (pv 0) (po_some (pe_op op_add (pv 1) pe_int)) po_none)) (pa_cons (pv 3) pa_nil))))
      (pss_cons (ps_if (pt_cmpR op_notN (pv 4) pe_non (nomark _)) (pss_one (ps_ret (pe_op op_catA (pe_tup (pa_cons pe_str pa_nil)) (pv 4)))) pss_nil)
      (pss_one (ps_ret (pe_tup (pa_cons pe_str (pa_cons (pe_op op_cat (pe_op op_cat (pe_slice sl_list (pv 0) po_none (po_some (pv 1))) (pe_lst (pa_cons (pv 2) pa_nil))) (pe_slice sl_list (pv 0) (po_some (pe_op op_add (pv 1) pe_int)) po_none)) pa_nil)))))))), ?_⟩
  have place : (∀ (i : Nat) (x : Option Rw), n = i → rs[i]? = some x → x.isNone = o.isNone) → ∀ p, H p = none → Q (.ref p) (upd H p (.tup [.str "place", .int n, .bl true])) := fun hn p hp => by
    refine q _ p (same_upd hp) ?_
    unfold DueV
    rw [due_none hn]
    exact upd_same
  have eL := hB.len
  refine ⟨_, rfl, 0, n, rfl, rfl, _, rfl, ?_⟩
  by_cases h0 : 0 ≤ n
  · obtain ⟨i, rfl⟩ : ∃ i : Nat, n = i := ⟨n.toNat, by omega⟩
    rw [decide_eq_true h0]
    refine iteT ⟨_, rfl, b, xs, rfl, .inl hb, _, _, rfl, rfl, _, rfl, ?_⟩
    by_cases hlt : i < rs.length
    · rw [decide_eq_true (show ((i : Nat) : Int) < ((xs.length : Nat) : Int) by omega)]
      obtain ⟨x, hx, hr2⟩ := hB.get (List.getElem?_eq_getElem hlt)
      refine iteF ⟨_, rfl, _, rfl, b, xs, _, x, rfl, rfl, hb, atI_nat hx, rfl, _, rfl, rfl, rfl, _, rfl, ?_⟩
      rw [hr2.isN, hv.isN]
      by_cases he : (rs[i]).isNone = o.isNone
      · rw [he, decide_eq_true rfl]
        refine iteT ⟨_, rfl, (by show 3 ≤ sizeLine; decide), fun p hp => place ?_ p hp⟩
        intro j x ej hj
        have : i = j := by omega
        subst this
        rw [List.getElem?_eq_getElem hlt] at hj
        rw [← Option.some.inj hj]
        exact he
      · rw [decide_eq_false (fun e => he (by injection e))]
        have hd : dueAt rs (i : Nat) o = some i := due_some (List.getElem?_eq_getElem hlt) (by
          revert he
          cases (rs[i]).isNone <;> cases o.isNone <;> simp)
        refine iteF (list_set hb rfl rfl rfl (by omega) (by omega) fun H1 p1 s1 _ e1 => ⟨_, rfl, p1, t, _, rs.set i o, u, rfl, SqL.of e1, (hB.same (NL.of s1)).set i (hv.same (NL.of s1)), nl_tup (NL.of s1) ht, good_set hG hg, by rw [List.length_set]; omega, fun H2 y s2 hy => ?_⟩)
        have s12 := s1.trans s2
        cases hbar : bar (rs.set i o) u with
        | none =>
          rw [hbar] at hy
          have hy : y = .non := hy
          subst hy
          refine ⟨_, rfl, rfl, _, rfl, iteF (list_set (s12.seq hb) rfl rfl rfl (by omega) (by omega) fun H3 p3 s3 f3 e3 => ⟨(by show 2 ≤ sizeLine; decide), fun p4 hp4 => q _ p4 (s12.trans (s3.trans (same_upd hp4))) ?_⟩)⟩
          unfold DueV
          rw [hd]
          show (match bar (rs.set i o) u with | none => _ | some (j, z) => _)
          rw [hbar]
          have s14 := NL.of (s12.trans (s3.trans (same_upd hp4 (o := .tup [.str "told", .ref p3]))))
          exact ⟨p3, _, upd_same, same_upd hp4 _ _ e3, (hB.same s14).set i (hv.same s14), s12.free f3⟩
        | some jz =>
          obtain ⟨j, z⟩ := jz
          rw [hbar] at hy
          obtain ⟨t2, rfl, ht2⟩ := (show ∃ t, y = .ref t ∧ H2 t = some (.tup [.int j, z]) from hy)
          refine ⟨_, rfl, rfl, _, rfl, iteT ⟨(by show 1 ≤ sizeLine; decide), fun p3 hp3 => ⟨_, rfl, p3, t2, _, _, rfl, rfl, .inl (.inl upd_same), .inl (.inl (same_upd hp3 _ _ ht2)), (by show 3 ≤ sizeLine; decide), (fun e => by cases e), (fun _ e => by cases e), fun _ _ p4 hp4 => q _ p4 (s12.trans ((same_upd hp3).trans (same_upd hp4))) ?_⟩⟩⟩
          unfold DueV
          rw [hd]
          show (match bar (rs.set i o) u with | none => _ | some (j, z) => _)
          rw [hbar]
          exact upd_same
    · rw [decide_eq_false (show ¬ ((i : Nat) : Int) < ((xs.length : Nat) : Int) by omega)]
      refine iteT (iteT ⟨_, rfl, (by show 3 ≤ sizeLine; decide), fun p hp => place ?_ p hp⟩)
      intro j x ej hj
      have := (List.getElem?_eq_some_iff.mp hj).1
      omega
  · rw [decide_eq_false h0]
    refine iteF ⟨_, rfl, iteT (iteT ⟨_, rfl, (by show 3 ≤ sizeLine; decide), fun p hp => place ?_ p hp⟩)⟩
    intro j x ej hj
    omega
/-- [bead and bead.row() for bead in beads] -/
theorem told_comp {K : PySem.W.Frag} {mg : Str → Option Value} (T : Tx K mg) {a : Addr} {xs : List V} {rs : List (Option Rw)} {H : Hp} {D : Addr} {c : Nat} (hD : H D = none) (hS : SqL K H a xs) (hB : Bds T.C_Bead H xs rs) (hl : xs.length ≤ 10000)
    {vs : List Nat} {σ : L2.St} {Qd : Hp → Prop} (hw : ∀ v, wipe ((wipe σ vs).set c (some v)) vs = wipe σ vs) (hc : ∀ v, ((wipe σ vs).set c (some v))[c]? = some (some v))
    (fin : ∀ H' acc, Same H H' → H' D = some (.lst acc) → Rws K H' acc rs → Qd H') :
    ∃ W : Nat → Nat → Hp → Prop, (∃ m, W 0 m (upd H D (.lst []))) ∧ ∀ i m H, W i m H →
      ((Itl K a).stop i H ∧ Qd H) ∨ ((Itl K a).go i H ∧ ∃ Nx : Hp → Prop, (∀ H', Nx H' → ∃ m', m' < m ∧ W (i + 1) m' H') ∧ ∀ x H', (Itl K a).yld i H x H' → gName c x (wipe σ vs) H' fun σ2 H2 => wipe σ2 vs = wipe σ vs ∧ tYes σ2 H2 fun b H3 =>
        if b = true then tAndW K (tVar c) (tMeth T.C_Bead "row" (spRow T.C_Bead) [] E0 (tVar c) tNil) σ2 H3 fun y H4 => ∃ acc, H4 D = some (.lst acc) ∧ acc.length < sizeLine ∧ Nx (upd H4 D (.lst (acc ++ [y]))) else Nx H3) := by
  refine lc_gen hD hS hl (fun j v H' => ∃ o, rs[j]? = some o ∧ RowV K H' v o) (fun j v H1 H2 s h => ?_) ?_ ?_
  · obtain ⟨o, h1, h2⟩ := h
    exact ⟨o, h1, h2.same s⟩
  · intro i x H2 R C hi s2 hRv
    obtain ⟨o, ho, hv⟩ := hB.at_ i x hi
    refine ⟨hw x, yesT ⟨x, hc x, ?_⟩⟩
    rcases hv.same (NL.of s2) with ⟨rfl, rfl⟩ | ⟨p, r, rfl, rfl, dp, hp⟩
    · exact ⟨false, .inl rfl, iteF (hRv _ _ (Same.refl _) ⟨none, ho, .inl ⟨rfl, rfl⟩⟩)⟩
    · refine ⟨true, .inr ⟨p, T.C_Bead, dp, _, rfl, hp, T.bb_Bead, T.bl_Bead, rfl⟩, iteT ?_⟩
      refine ⟨_, hc _, p, dp, _, rfl, hp, bf_no r (by decide +kernel) (by decide +kernel) (by decide +kernel) (by decide +kernel) (by decide +kernel) (by decide +kernel), p, r, rfl, ⟨dp, hp⟩, fun t' ht' => ?_⟩
      exact hRv _ _ (same_upd ht') ⟨some r, ho, .inr ⟨t', r, rfl, rfl, .inl (.inl upd_same)⟩⟩
  · intro H' acc s e l g
    exact fin H' acc s e ⟨by rw [l, hB.len], g⟩
def spTold (K : PySem.W.Frag) (CB CR C : Addr) : Sp := fun vs H Q _ => ∃ (s : Addr) (rs : List (Option Rw)) (u : Rl), vs = [.ref s] ∧ SV CB CR C H s rs u ∧ rs.length ≤ 1000 ∧ ∀ H' l ys, Same H H' → H l = none → H' l = some (.lst ys) → Rws K H' ys rs → Q (.ref l) H'
theorem ok_told (T : Tx K mg) : FnOk P w K mg base CX0 2 T.A_told T.fd_told ["_law_string"] (spTold K T.C_Bead T.C_Rule T.C_String) := by
  refine T.F_told.ok sc_told (fun vs H Q E h => ?_) (fun cdv A outer s H vs Q E hr h => ?_)
  · obtain ⟨s, rs, u, rfl, hs, hl, q⟩ := h
    rfl
  obtain ⟨s, rs, u, rfl, hs, hl, q⟩ := h
  refine ⟨_, (pss_one (ps_ret (pe_lc (own := [("_law_one_here", 1)]) (g := gName 1) (tt := tYes) rfl sc_told.nd (pi_list (pe_meth0 (pv 0) T.cl_String T.m_String_beads (ok_String_beads T) (hr.mono (by decide)) T.b_String_beads .nil pass0)) (blkOk_by (N := ["_law_string", "_law_one_here"]) (sc := defScope s_told) (by decide +kernel)) (fun _ _ _ _ _ => (pg_name (i := 1) sc_told.nd rfl (Or.inl rfl))) (fun _ _ _ _ _ => pts_nil) (fun _ _ _ _ _ => (pe_andW (K' := K) rfl (pv 1) (pe_one (pe_meth0 (pv 1) T.cl_Bead T.m_Bead_row (ok_Bead_row T) (hr.mono (by decide)) T.b_Bead_row .nil pass0))))))), ?_⟩
  obtain ⟨t, m, xs, ⟨dx, h1⟩, h2, h3, dm, h4⟩ := hs.ex
  refine ⟨_, rfl, s, dx, _, rfl, h1, sf_no t m (by decide +kernel) (by decide +kernel), s, t, m, xs, rfl, ⟨dx, h1⟩, h2, fun l hl' => ?_⟩
  have z := same_upd hl' (o := .lst xs)
  refine ⟨l, rfl, ⟨_, SqL.of upd_same⟩, fun D hD => told_comp T (c := 1) hD (SqL.of upd_same) (h3.same (NL.of z)) (by rw [h3.len]; omega) (fun _ => rfl) (fun _ => rfl) fun H' acc s' e hR => q H' D acc (z.trans s') (z.free hD) e hR⟩
end
end KB
namespace KB
open PySem PySem.Spec PyProof.Rows L2 KA
theorem reason_str (rs : List (Option Rw)) (u : Rl) (i : Nat) (r : Rw) : reason rs u i r = .non ∨ ∃ s, reason rs u i r = .str s ∧ PyData.canLay0 (.str s) = true := by
  unfold reason
  split
  · exact .inr ⟨_, rfl, by decide +kernel⟩
  · split
    · exact .inr ⟨_, rfl, by decide +kernel⟩
    · split
      · exact .inl rfl
      · split
        · exact .inr ⟨_, rfl, by decide +kernel⟩
        · split
          · exact .inr ⟨_, rfl, by decide +kernel⟩
          · exact .inl rfl
theorem barFrom_str {rs : List (Option Rw)} {u : Rl} : ∀ {k i : Nat} {j : Nat} {x : V}, barFrom rs u k i = some (j, x) → ∃ s, x = .str s ∧ PyData.canLay0 (.str s) = true
  | 0, _, _, _, h => nomatch h
  | k + 1, i, j, x, h => by
    cases e : rs[i]? with
    | none =>
      have h : (match rs[i]? with | some (some r) => _ | _ => barFrom rs u k (i + 1)) = some (j, x) := h
      rw [e] at h
      exact barFrom_str h
    | some o =>
      cases o with
      | none =>
        rw [barFrom_gap e] at h
        exact barFrom_str h
      | some r =>
        by_cases hr : reason rs u i r = .non
        · rw [barFrom_ok e hr] at h
          exact barFrom_str h
        · rw [barFrom_bad e hr] at h
          have h := Option.some.inj h
          have h2 : reason rs u i r = x := congrArg Prod.snd h
          rcases reason_str rs u i r with z | ⟨s, es, hs⟩
          · exact absurd z hr
          · exact ⟨s, by rw [← h2]; exact es, hs⟩
def rowD (o : Option Rw) : PyData := match o with
  | some r => .tuple [.int r.num, .int r.ac, .int r.we, .str r.sh, .str r.fo, .bool r.dr]
  | none => .none
theorem RowV.dp {K : PySem.W.Frag} {H : Hp} {v : V} {o : Option Rw} (h : RowV K H v o) : Dp K H v (rowD o) := by
  rcases h with ⟨rfl, rfl⟩ | ⟨p, r, rfl, rfl, hp⟩
  · exact .non
  · exact .tup hp (.cons (.int _) (.cons (.int _) (.cons (.int _) (.cons (.str _) (.cons (.str _) (.cons (.bl _) .nil))))))
theorem dpAll_of {K : PySem.W.Frag} {H : Hp} {α : Type} {f : α → PyData} : ∀ {vs : List V} {rs : List α}, vs.length = rs.length → (∀ (j : Nat) (o : α), rs[j]? = some o → ∃ v, vs[j]? = some v ∧ Dp K H v (f o)) → DpAll K H vs (rs.map f)
  | [], [], _, _ => .nil
  | [], _ :: _, l, _ => by simp at l
  | _ :: _, [], l, _ => by simp at l
  | v :: vs, o :: rs, l, h => by
    refine .cons ?_ (dpAll_of (by simpa using l) fun j x hx => ?_)
    · obtain ⟨v', e, hv⟩ := h 0 o rfl
      have : v = v' := Option.some.inj e
      subst this
      exact hv
    · obtain ⟨o', e, hv⟩ := h (j + 1) x hx
      exact ⟨o', e, hv⟩
theorem rowD_ok {o : Option Rw} (h : ∀ r, o = some r → GoodRw r) : PyData.canLay0 (rowD o) = true ∧ PyData.depth (rowD o) ≤ 1 := by
  cases o with
  | none => exact ⟨rfl, by decide⟩
  | some r =>
    have g := h r rfl
    constructor
    · show (true && (true && (true && (PyData.canLay0 (.str r.sh) && (PyData.canLay0 (.str r.fo) && (true && true)))))) = true
      rw [sh_name g.2.2.2.1, sh_name g.2.2.2.2]
      rfl
    · exact Nat.le_refl _
theorem rowsD_ok : ∀ {rs : List (Option Rw)}, AllGood rs → PyData.canLayAll0 (rs.map rowD) = true ∧ PyData.depthAll (rs.map rowD) ≤ 1
  | [], _ => ⟨rfl, by decide⟩
  | o :: rs, h => by
    obtain ⟨a, b⟩ := rowsD_ok (rs := rs) fun r hr => h r (List.mem_cons_of_mem _ hr)
    obtain ⟨c, d⟩ := rowD_ok (o := o) fun r hr => h r (by rw [hr]; exact List.mem_cons_self ..)
    constructor
    · show (PyData.canLay0 (rowD o) && PyData.canLayAll0 (rs.map rowD)) = true
      rw [a, c]
      rfl
    · show max (PyData.depth (rowD o)) (PyData.depthAll (rs.map rowD)) ≤ 1
      omega
def rowsD (rs : List (Option Rw)) : PyData := .list (rs.map rowD)
theorem rowsD_shaped {rs : List (Option Rw)} (h : AllGood rs) : SeqAt.shaped (rowsD rs) = true := by
  obtain ⟨a, b⟩ := rowsD_ok h
  show (PyData.canLayAll0 (rs.map rowD) && decide (PyData.depthAll (rs.map rowD) + 1 ≤ 64)) = true
  rw [a, decide_eq_true (by omega)]
  rfl
theorem rss_ok : ∀ {rss : List (List (Option Rw))}, (∀ rs ∈ rss, AllGood rs) → PyData.canLayAll0 (rss.map rowsD) = true ∧ PyData.depthAll (rss.map rowsD) ≤ 2
  | [], _ => ⟨rfl, by decide⟩
  | rs :: rss, h => by
    obtain ⟨a, b⟩ := rss_ok (rss := rss) fun r hr => h r (List.mem_cons_of_mem _ hr)
    obtain ⟨c, d⟩ := rowsD_ok (h rs (List.mem_cons_self ..))
    constructor
    · show (PyData.canLayAll0 (rs.map rowD) && PyData.canLayAll0 (rss.map rowsD)) = true
      rw [a, c]
      rfl
    · show max (PyData.depthAll (rs.map rowD) + 1) (PyData.depthAll (rss.map rowsD)) ≤ 2
      omega
theorem rss_shaped {rss : List (List (Option Rw))} (h : ∀ rs ∈ rss, AllGood rs) : SeqAt.shaped (.list (rss.map rowsD)) = true := by
  obtain ⟨a, b⟩ := rss_ok h
  show (PyData.canLayAll0 (rss.map rowsD) && decide (PyData.depthAll (rss.map rowsD) + 1 ≤ 64)) = true
  rw [a, decide_eq_true (by omega)]
  rfl
theorem rws_dp {K : PySem.W.Frag} {H : Hp} {l : Addr} {xs : List V} {rs : List (Option Rw)} (h : H l = some (.lst xs)) (hR : Rws K H xs rs) : Dp K H (.ref l) (rowsD rs) := by
  refine .lst (SqL.of h) (dpAll_of hR.len fun j o ho => ?_)
  obtain ⟨v, hv, hw⟩ := hR.get ho
  exact ⟨v, hv, hw.dp⟩
theorem eqv_self {d : PyData} (h : SeqAt.shaped d = true) : PyData.eqv d d = true := SeqAt.eqv_refl _ (SeqAt.canLay_of_shaped h)
/-- rows that are the same are not unequal -/
theorem ne_rows {K : PySem.W.Frag} {H : Hp} {l l' : Addr} {xs ys : List V} {rs : List (Option Rw)} {Q : VK} (hG : AllGood rs) (h : H l = some (.lst xs)) (hR : Rws K H xs rs) (h' : H l' = some (.lst ys)) (hR' : Rws K H ys rs) (q : Q (.bl false) H) : rNeD K (.ref l) (.ref l') H Q := by
  refine ⟨_, _, rws_dp h hR, rws_dp h' hR', rowsD_shaped hG, rowsD_shaped hG, ?_⟩
  rw [eqv_self (rowsD_shaped hG)]
  exact q
theorem SV.nl {CB CR C : Addr} {H H' : Hp} {s : Addr} {rs : List (Option Rw)} {u : Rl} (h : SV CB CR C H s rs u) (z : NL H H') : SV CB CR C H' s rs u := by
  obtain ⟨t, m, xs, ⟨dx, h1⟩, h2, h3, dm, h4⟩ := h.ex
  exact ⟨t, m, xs, ⟨dx, z _ _ (fun _ z => by cases z) h1⟩, z _ _ (fun _ z => by cases z) h2, h3.same z, dm, z _ _ (fun _ z => by cases z) h4⟩
/-- the strings at sl and what is told of them, at rl -/
structure Pr (K : PySem.W.Frag) (CB CR C : Addr) (u : Rl) (H : Hp) (sl rl : Addr) (ss ls : List V) (rss : List (List (Option Rw))) : Prop where
  l1 : ss.length = rss.length
  l2 : ls.length = rss.length
  at_ : ∀ (k : Nat) (rs : List (Option Rw)), rss[k]? = some rs → ∃ sa la xs, ss[k]? = some (V.ref sa) ∧ ls[k]? = some (V.ref la) ∧ SV CB CR C H sa rs u ∧ H la = some (.lst xs) ∧ Rws K H xs rs ∧ AllGood rs ∧ rs.length ≤ 200 ∧ la ≠ sl ∧ la ≠ rl
theorem Pr.same {K : PySem.W.Frag} {CB CR C : Addr} {u : Rl} {H H' : Hp} {sl rl : Addr} {ss ls : List V} {rss : List (List (Option Rw))} (h : Pr K CB CR C u H sl rl ss ls rss) (z : Same H H') : Pr K CB CR C u H' sl rl ss ls rss :=
  ⟨h.l1, h.l2, fun k rs hk => by
    obtain ⟨sa, la, xs, h1, h2, h3, h4, h5, h6⟩ := h.at_ k rs hk
    exact ⟨sa, la, xs, h1, h2, h3.same z, z _ _ h4, h5.same (NL.of z), h6⟩⟩
theorem Pr.push {K : PySem.W.Frag} {CB CR C : Addr} {u : Rl} {H : Hp} {sl rl : Addr} {ss ls : List V} {rss : List (List (Option Rw))} (h : Pr K CB CR C u H sl rl ss ls rss) (hs : H sl = some (.lst ss)) (hr : H rl = some (.lst ls)) (hne : sl ≠ rl)
    {sa la : Addr} {xs : List V} {rs : List (Option Rw)} (n1 : SV CB CR C H sa rs u) (n2 : H la = some (.lst xs)) (n3 : Rws K H xs rs) (n4 : AllGood rs) (n5 : rs.length ≤ 200) (n6 : la ≠ sl) (n7 : la ≠ rl) :
    Pr K CB CR C u (upd (upd H sl (.lst (ss ++ [.ref sa]))) rl (.lst (ls ++ [.ref la]))) sl rl (ss ++ [.ref sa]) (ls ++ [.ref la]) (rss ++ [rs]) := by
  have nl : NL H (upd (upd H sl (.lst (ss ++ [.ref sa]))) rl (.lst (ls ++ [.ref la]))) := (NL.at_ hs).trans (NL.at_ (xs := ls) (by rw [upd_ne hne.symm]; exact hr))
  have kp : ∀ (b : Addr) (o : HO), b ≠ sl → b ≠ rl → H b = some o → (upd (upd H sl (.lst (ss ++ [.ref sa]))) rl (.lst (ls ++ [.ref la]))) b = some o := fun b o e1 e2 e => by
    rw [upd_ne e2, upd_ne e1]
    exact e
  refine ⟨by rw [List.length_append, List.length_append, h.l1]; rfl, by rw [List.length_append, List.length_append, h.l2]; rfl, fun k rs' hk => ?_⟩
  by_cases hlt : k < rss.length
  · rw [List.getElem?_append_left hlt] at hk
    obtain ⟨sa', la', xs', h1, h2, h3, h4, h5, h6, h7, h8, h9⟩ := h.at_ k rs' hk
    exact ⟨sa', la', xs', by rw [List.getElem?_append_left (by rw [h.l1]; exact hlt)]; exact h1, by rw [List.getElem?_append_left (by rw [h.l2]; exact hlt)]; exact h2, h3.nl nl, kp _ _ h8 h9 h4, h5.same nl, h6, h7, h8, h9⟩
  · have hk2 := (List.getElem?_eq_some_iff.mp hk).1
    rw [List.length_append, List.length_singleton] at hk2
    have ek : k = rss.length := by omega
    subst ek
    rw [List.getElem?_append_right (Nat.le_refl _), Nat.sub_self] at hk
    have hk : some rs = some rs' := hk
    have := Option.some.inj hk
    subst this
    refine ⟨sa, la, xs, ?_, ?_, n1.nl nl, kp _ _ n6 n7 n2, n3.same nl, n4, n5, n6, n7⟩
    · rw [List.getElem?_append_right (by rw [h.l1]; exact Nat.le_refl _), h.l1, Nat.sub_self]
      rfl
    · rw [List.getElem?_append_right (by rw [h.l2]; exact Nat.le_refl _), h.l2, Nat.sub_self]
      rfl
/-- the rows that may be put -/
def NearV (K : PySem.W.Frag) (H : Hp) (v : V) : Prop := ∃ r, GoodRw r ∧ r.ac ≤ 100000 ∧ RowV K H v (some r)
theorem NearV.same {K : PySem.W.Frag} {H H' : Hp} {v : V} (h : NearV K H v) (z : NL H H') : NearV K H' v := by
  obtain ⟨r, h1, h2, h3⟩ := h
  exact ⟨r, h1, h2, h3.same z⟩
theorem rep_one (n : Nat) (v : V) : (List.replicate n [v]).flatten = List.replicate n v := by
  induction n with
  | zero => rfl
  | succ n ih =>
    rw [List.replicate_succ, List.flatten_cons, ih]
    rfl
/-- one of two numbers -/
theorem one_of_two {x y r : Int} (h0 : 0 ≤ r) (h1 : r < 4) : ∃ z, atI [V.int x, V.int y] (r / 3) = some (.int z) ∧ (z = x ∨ z = y) := by
  have : r / 3 = 0 ∨ r / 3 = 1 := by omega
  rcases this with e | e
  · rw [e]
    exact ⟨x, rfl, .inl rfl⟩
  · rw [e]
    exact ⟨y, rfl, .inr rfl⟩
section
variable {P : Program} {w : World} {K : PySem.W.Frag} {mg : Str → Option Value} {base : Heap}
/-- [told(string) for string in strings] -/
theorem told_all {K : PySem.W.Frag} {mg : Str → Option Value} (T : Tx K mg) {a : Addr} {ss : List V} {rss : List (List (Option Rw))} {u : Rl} {H : Hp} {D : Addr} {c : Nat} (hD : H D = none) (hS : H a = some (.lst ss)) (hl : ss.length = rss.length) (hm : rss.length ≤ 1000)
    (hB : ∀ (k : Nat) (rs : List (Option Rw)), rss[k]? = some rs → ∃ sa, ss[k]? = some (V.ref sa) ∧ SV T.C_Bead T.C_Rule T.C_String H sa rs u ∧ rs.length ≤ 200)
    {vs : List Nat} {σ : L2.St} {Qd : Hp → Prop} (hw : ∀ v, wipe ((wipe σ vs).set c (some v)) vs = wipe σ vs) (hc : ∀ v, ((wipe σ vs).set c (some v))[c]? = some (some v))
    (fin : ∀ H' acc, Same H H' → H' D = some (.lst acc) → acc.length = rss.length → (∀ (k : Nat) (rs : List (Option Rw)), rss[k]? = some rs → ∃ l xs, acc[k]? = some (V.ref l) ∧ H' l = some (.lst xs) ∧ Rws K H' xs rs) → Qd H') :
    ∃ W : Nat → Nat → Hp → Prop, (∃ m, W 0 m (upd H D (.lst []))) ∧ ∀ i m H, W i m H →
      ((Itl K a).stop i H ∧ Qd H) ∨ ((Itl K a).go i H ∧ ∃ Nx : Hp → Prop, (∀ H', Nx H' → ∃ m', m' < m ∧ W (i + 1) m' H') ∧ ∀ x H', (Itl K a).yld i H x H' → gName c x (wipe σ vs) H' fun σ2 H2 => wipe σ2 vs = wipe σ vs ∧ tYes σ2 H2 fun b H3 =>
        if b = true then tCall (spTold K T.C_Bead T.C_Rule T.C_String) [] E0 (tCons (tVar c) tNil) σ2 H3 fun y H4 => ∃ acc, H4 D = some (.lst acc) ∧ acc.length < sizeLine ∧ Nx (upd H4 D (.lst (acc ++ [y]))) else Nx H3) := by
  refine lc_list (K := K) (a := a) (xs := ss) (fun i H' => Same H H' ∧ ∃ acc, H' D = some (.lst acc) ∧ acc.length = i ∧ ∀ (k : Nat) (rs : List (Option Rw)), k < i → rss[k]? = some rs → ∃ l xs, acc[k]? = some (V.ref l) ∧ H' l = some (.lst xs) ∧ Rws K H' xs rs ∧ l ≠ D) ⟨same_upd hD, [], upd_same, rfl, fun k rs h => by omega⟩ (fun i H' _ h => SqL.of (h.1 _ _ hS)) ?_ ?_
  · rintro i x H2 hi ⟨s2, acc, e2, l2, g2⟩
    have hil : i < ss.length := (List.getElem?_eq_some_iff.mp hi).1
    have hir : i < rss.length := by omega
    obtain ⟨sa, h1, h2, h3⟩ := hB i _ (List.getElem?_eq_getElem hir)
    have ex : x = .ref sa := Option.some.inj (hi.symm.trans h1)
    subst ex
    refine ⟨hw _, yesT ⟨_, hc _, sa, _, u, rfl, h2.same s2, by omega, fun H3 l ys s3 fl el hR => ?_⟩⟩
    have e3 := s3 _ _ e2
    have nlD : l ≠ D := (ne_of_none e2 fl).symm
    refine ⟨acc, e3, ?_, fun b o h => ?_, acc ++ [.ref l], upd_same, ?_, fun k rs hk hrs => ?_⟩
    · rw [l2]
      exact Nat.lt_of_lt_of_le (show i < 10000 by omega) (by decide)
    · rw [upd_ne (ne_of_none h hD)]
      exact s3 _ _ (s2 _ _ h)
    · rw [List.length_append, l2]
      rfl
    · by_cases h : k < i
      · obtain ⟨l', xs', g1, g3, g4, g5⟩ := g2 k rs h hrs
        refine ⟨l', xs', by rw [List.getElem?_append_left (by omega)]; exact g1, ?_, (g4.same (NL.of s3)).same (NL.at_ e3), g5⟩
        rw [upd_ne g5]
        exact s3 _ _ g3
      · have ek : k = i := by omega
        subst ek
        have er : rss[k] = rs := Option.some.inj ((List.getElem?_eq_getElem hir).symm.trans hrs)
        subst er
        refine ⟨l, ys, ?_, ?_, hR.same (NL.at_ e3), nlD⟩
        · rw [List.getElem?_append_right (by omega), l2, Nat.sub_self]
          rfl
        · rw [upd_ne nlD]
          exact el
  · rintro H' ⟨s, acc, e, l, g⟩
    refine fin H' acc s e (by omega) fun k rs hk => ?_
    have := (List.getElem?_eq_some_iff.mp hk).1
    obtain ⟨l, xs, h1, h2, h3, _⟩ := g k rs (by omega) hk
    exact ⟨l, xs, h1, h2, h3⟩
end
end KB
namespace KB
open PySem PySem.Spec PyProof.Rows L2 KA

theorem bar_gaps {N : Nat} {u : Rl} : ∀ {k i : Nat}, barFrom (List.replicate N none) u k i = none
  | 0, _ => rfl
  | k + 1, i => by
    have ih := bar_gaps (N := N) (u := u) (k := k) (i := i + 1)
    by_cases h : i < N
    · rw [barFrom_gap (by rw [List.getElem?_replicate, if_pos h])]
      exact ih
    · show (match (List.replicate N (none : Option Rw))[i]? with | some (some r) => _ | _ => barFrom (List.replicate N none) u k (i + 1)) = none
      rw [List.getElem?_eq_none (by rw [List.length_replicate]; omega)]
      exact ih
theorem bds_gaps {C : Addr} {H : Hp} {N : Nat} : Bds C H (List.replicate N V.non) (List.replicate N none) := by
  refine ⟨by rw [List.length_replicate, List.length_replicate], fun i v hv => ?_⟩
  have h := (List.getElem?_eq_some_iff.mp hv).1
  rw [List.length_replicate] at h
  refine ⟨none, by rw [List.getElem?_replicate, if_pos h], .inl ⟨?_, rfl⟩⟩
  rw [List.getElem?_replicate, if_pos h] at hv
  exact (Option.some.inj hv).symm
theorem rws_gaps {K : PySem.W.Frag} {H : Hp} {N : Nat} : Rws K H (List.replicate N V.non) (List.replicate N none) := by
  refine ⟨by rw [List.length_replicate, List.length_replicate], fun i v hv => ?_⟩
  have h := (List.getElem?_eq_some_iff.mp hv).1
  rw [List.length_replicate] at h
  refine ⟨none, by rw [List.getElem?_replicate, if_pos h], .inl ⟨?_, rfl⟩⟩
  rw [List.getElem?_replicate, if_pos h] at hv
  exact (Option.some.inj hv).symm
theorem good_gaps {N : Nat} : AllGood (List.replicate N none) := fun r hr => by
  have := (List.mem_replicate.mp hr).2
  cases this
section
variable {P : Program} {w : World} {K : PySem.W.Frag} {mg : Str → Option Value} {base : Heap}
/-- what holds between two turns -/
structure Inv24 (K : PySem.W.Frag) (CB CR C : Addr) (u : Rl) (t nr rl sl p3 : Addr) (cells zs : List V) (H : Hp) (i : Nat) : Prop where
  e3 : H p3 = some (.lst cells)
  et : H t = some (.tup (fourVals u))
  en : H nr = some (.lst zs)
  near : ∀ v ∈ zs, NearV K H v
  ex : ∃ ss ls rss, H sl = some (.lst ss) ∧ H rl = some (.lst ls) ∧ Pr K CB CR C u H sl rl ss ls rss ∧ rss.length ≤ i + 1 ∧ 1 ≤ rss.length
theorem Inv24.same {K : PySem.W.Frag} {CB CR C : Addr} {u : Rl} {t nr rl sl p3 : Addr} {cells zs : List V} {H H' : Hp} {i : Nat} (J : Inv24 K CB CR C u t nr rl sl p3 cells zs H i) (z : Same H H') : Inv24 K CB CR C u t nr rl sl p3 cells zs H' (i + 1) := by
  obtain ⟨e3, et, en, near, ss, ls, rss, es, er, pr, hle, h1⟩ := J
  exact ⟨z _ _ e3, z _ _ et, z _ _ en, fun v hv => (near v hv).same (NL.of z), ss, ls, rss, z _ _ es, z _ _ er, pr.same z, by omega, h1⟩
/-- the last question of a turn -/
theorem tail24 {T : Tx K mg} {u : Rl} {D : Ends} {σ : L2.St} {H : Hp} {sl rl : Addr} {ss ls : List V} {rss : List (List (Option Rw))} {kk : Nat} (h5 : σ[5]? = some (some (.ref rl))) (h6 : σ[6]? = some (some (.ref sl))) (h8 : σ[8]? = some (some (.int kk)))
    (es : H sl = some (.lst ss)) (er : H rl = some (.lst ls)) (pr : Pr K T.C_Bead T.C_Rule T.C_String u H sl rl ss ls rss) (hk : kk < rss.length) (nxt : ∀ H', Same H H' → D.nx σ H') :
    tIfS (tTest (tOp (rNeD K) (tCall (spTold K T.C_Bead T.C_Rule T.C_String) [] E0 (tCons (tOp (rIxL K) (tVar 6) (tVar 8)) tNil)) (tOp (rIxL K) (tVar 5) (tVar 8)))) (tRet (tC (V.bl false))) tNext D σ H := by
  obtain ⟨sa, la, xs, g1, g2, g3, g4, g5, g6, g7, _⟩ := pr.at_ kk _ (List.getElem?_eq_getElem hk)
  refine ⟨_, h6, _, h8, sl, ss, _, _, rfl, rfl, SqL.of es, atI_nat g1, sa, _, u, rfl, g3, by omega, fun H9 l9 ys s9 f9 e9 hR9 => ?_⟩
  exact ⟨_, h5, _, h8, rl, ls, _, _, rfl, rfl, SqL.of (s9 _ _ er), atI_nat g2, ne_rows g6 e9 hR9 (s9 _ _ g4) (g5.same (NL.of s9)) ⟨_, rfl, iteF (nxt H9 s9)⟩⟩
def spLaw (K : PySem.W.Frag) : Sp := fun vs H Q _ => ∃ (a : Addr) (ns : List Int), vs = [.ref a] ∧ SqL K H a (ns.map V.int) ∧ ns.length ≤ 63 ∧ ∀ H', Q (.bl true) H'
theorem ok_law {f : Addr} {fd : FuncData} (T : Tx K mg) (F : Fun K "law" "law" s_law f fd) : FnOk P w K mg base CX0 9 f fd ["_law_script"] (spLaw K) := by
  refine F.ok sc_law (fun vs H Q E h => ?_) (fun cdv A outer s H vs Q E hr h => ?_)
  · obtain ⟨a, ns, rfl, hS, hlen, q⟩ := h
    rfl
  obtain ⟨a, ns, rfl, hS, hlen, q⟩ := h
  refine ⟨_, (pss_cons (ps_set (i := 1) sc_law.nd rfl (Or.inl rfl) (pe_call (ok_well T) (hr.mono (by decide)) (by rfl) T.g_well T.F_well.kp T.b_well .nil pass0 (pa_cons (pe_call (ok_cell_at T) (hr.mono (by decide)) (by rfl) T.g_cell_at T.F_cell_at.kp T.b_cell_at .nil pass0 (pa_cons (pv 0) (pa_cons pe_int pa_nil))) pa_nil)))
      (pss_cons (ps_set (i := 2) sc_law.nd rfl (Or.inl rfl) (pe_call (ok_rule T) (hr.mono (by decide)) (by rfl) T.g_rule T.F_rule.kp T.b_rule .nil pass0 (pa_cons (pv 1) pa_nil)))
      (pss_cons (ps_set (i := 3) sc_law.nd rfl (Or.inl rfl) (pe_call (ok_one T) (hr.mono (by decide)) (by rfl) T.g_one T.F_one.kp T.b_one .nil pass0 (pa_cons (pv 1) (pa_cons (pe_lst (pa_cons (pe_op op_add pe_int (pe_call (ok_draw T) (hr.mono (by decide)) (by rfl) T.g_draw T.F_draw.kp T.b_draw .nil pass0 (pa_cons (pv 1) (pa_cons pe_int pa_nil)))) (pa_cons (pe_op op_add pe_int (pe_call (ok_draw T) (hr.mono (by decide)) (by rfl) T.g_draw T.F_draw.kp T.b_draw .nil pass0 (pa_cons (pv 1) (pa_cons pe_int pa_nil)))) (pa_cons (pe_op op_add pe_int (pe_call (ok_draw T) (hr.mono (by decide)) (by rfl) T.g_draw T.F_draw.kp T.b_draw .nil pass0 (pa_cons (pv 1) (pa_cons pe_int pa_nil)))) (pa_cons pe_int pa_nil))))) pa_nil))))
      (pss_cons (ps_setLc (i := 4) (own := [("_law_row", 10)]) (g := gName 10) (tt := tYes) rfl sc_law.nd rfl rfl (sw_true rfl rfl rfl (by decide +kernel)) (pi_list (pe_call (ok_rows T) (hr.mono (by decide)) (by rfl) T.g_rows T.F_rows.kp T.b_rows .nil pass0 (pa_cons (pv 1) (pa_cons (pv 3) (pa_cons (pv 2) pa_nil))))) (blkOk_by (N := ["_law_script", "_law_well_here", "_law_four", "_law_many", "_law_near_here", "_law_rows_here", "_law_strings", "_law_cell", "_law_k", "_law_spot", "_law_row", "_law_found", "_law_due_here", "_law_string"]) (sc := defScope s_law) (by decide +kernel)) (fun _ _ _ _ _ => (pg_name (i := 10) sc_law.nd rfl (Or.inl rfl))) (fun _ _ _ _ _ => pts_nil) (fun _ _ _ _ _ => (pe_orW (K' := K) rfl (pv 10) (pe_one (pe_tup (pa_cons pe_int (pa_cons pe_int (pa_cons pe_int (pa_cons pe_str (pa_cons pe_str (pa_cons pe_bl pa_nil)))))))))))
      (pss_cons (ps_set (i := 5) sc_law.nd rfl (Or.inl rfl) (pe_lst (pa_cons (pe_op op_rep (pe_lst (pa_cons pe_non pa_nil)) (pe_callB call_len_seq (by rfl) T.z_len PySem.boot_len (pa_cons (pv 4) pa_nil))) pa_nil)))
      (pss_cons (ps_set (i := 6) sc_law.nd rfl (Or.inl rfl) (pe_lst (pa_cons (pe_makeK0 T.mk_String (ok_String_init T) (hr.mono (by decide)) (by rfl) T.g_String T.kb_s passF (pk_cons (pe_make T.mk_Rule (ok_Rule_init T) (hr.mono (by decide)) (by rfl) T.g_Rule T.b_Rule_init .nil pass0 (pa_cons (pe_ix ix_tup (pv 2) pe_int (fun _ _ => rfl)) (pa_cons (pe_ix ix_tup (pv 2) pe_int (fun _ _ => rfl)) (pa_cons (pe_ix ix_tup (pv 2) pe_int (fun _ _ => rfl)) (pa_cons (pe_ix ix_tup (pv 2) pe_int (fun _ _ => rfl)) pa_nil))))) (pk_cons (pe_callTy call_list_of (by rfl) T.z_list (by decide +kernel) (pa_cons (pe_ix ix_list (pv 5) pe_int (fun _ _ => rfl)) pa_nil)) pk_nil))) pa_nil)))
      (pss_cons (ps_for PassesOwn.never rfl (pi_list (pe_op op_cat (pe_lst (pa_cons (pe_call (ok_cell_at T) (hr.mono (by decide)) (by rfl) T.g_cell_at T.F_cell_at.kp T.b_cell_at .nil pass0 (pa_cons (pv 0) (pa_cons pe_int pa_nil))) pa_nil)) (pe_slice sl_list (pv 0) (po_some pe_int) (po_some pe_int)))) (pg_name (i := 7) sc_law.nd rfl (Or.inl rfl))
        (pss_cons (ps_set (i := 1) sc_law.nd rfl (Or.inl rfl) (pe_call (ok_well T) (hr.mono (by decide)) (by rfl) T.g_well T.F_well.kp T.b_well .nil pass0 (pa_cons (pv 7) pa_nil)))
      (pss_cons (ps_set (i := 8) sc_law.nd rfl (Or.inl rfl) (pe_ix ix_list (pe_lst (pa_cons (pe_op op_sub (pe_callB call_len_seq (by rfl) T.z_len PySem.boot_len (pa_cons (pv 5) pa_nil)) pe_int) (pa_cons (pe_call (ok_draw T) (hr.mono (by decide)) (by rfl) T.g_draw T.F_draw.kp T.b_draw .nil pass0 (pa_cons (pv 1) (pa_cons (pe_callB call_len_seq (by rfl) T.z_len PySem.boot_len (pa_cons (pv 5) pa_nil)) pa_nil))) pa_nil))) (pe_op op_fdiv (pe_call (ok_draw T) (hr.mono (by decide)) (by rfl) T.g_draw T.F_draw.kp T.b_draw .nil pass0 (pa_cons (pv 1) (pa_cons pe_int pa_nil))) pe_int) (fun _ _ => rfl)))
      (pss_cons (ps_set (i := 9) sc_law.nd rfl (Or.inl rfl) (pe_op op_sub (pe_call (ok_draw T) (hr.mono (by decide)) (by rfl) T.g_draw T.F_draw.kp T.b_draw .nil pass0 (pa_cons (pv 1) (pa_cons (pe_op op_add (pe_callB call_len_seq (by rfl) T.z_len PySem.boot_len (pa_cons (pv 4) pa_nil)) pe_int) pa_nil))) pe_int))
      (pss_cons (ps_set (i := 10) sc_law.nd rfl (Or.inl rfl) (pe_call (ok_one T) (hr.mono (by decide)) (by rfl) T.g_one T.F_one.kp T.b_one .nil pass0 (pa_cons (pv 1) (pa_cons (pe_op op_cat (pe_op op_cat (pv 4) (pe_op op_rep (pe_lst (pa_cons (pe_ix ix_list (pv 4) (pe_op op_mod (pv 9) (pe_callB call_len_seq (by rfl) T.z_len PySem.boot_len (pa_cons (pv 4) pa_nil))) (fun _ _ => rfl)) pa_nil)) pe_int)) (pe_op op_rep (pe_lst (pa_cons pe_non pa_nil)) pe_int)) pa_nil))))
      (pss_cutJ (ps_if (PW.pt (pw_and (pt_cmpR op_notN (pv 10) pe_non (nomark _)) (pw_and1 (pt_cmpR op_eq (pe_call (ok_draw T) (hr.mono (by decide)) (by rfl) T.g_draw T.F_draw.kp T.b_draw .nil pass0 (pa_cons (pv 1) (pa_cons pe_int pa_nil))) pe_int (nomark _))))) (pss_one (ps_set (i := 10) sc_law.nd rfl (Or.inl rfl) (pe_op op_catA (pe_tup (pa_cons (pe_ix ix_tup (pv 10) pe_int (fun _ _ => rfl)) (pa_cons (pe_callB (call_max2 rfl) (by rfl) T.z_max (by decide +kernel) (pa_cons pe_int (pa_cons (pe_op op_sub (pe_op op_add (pe_ix ix_tup (pv 10) pe_int (fun _ _ => rfl)) (pe_call (ok_draw T) (hr.mono (by decide)) (by rfl) T.g_draw T.F_draw.kp T.b_draw .nil pass0 (pa_cons (pv 1) (pa_cons pe_int pa_nil)))) pe_int) pa_nil))) pa_nil))) (pe_slice sl_tupA (pv 10) (po_some pe_int) po_none)))) pss_nil)
      (pss_cons (ps_set (i := 11) sc_law.nd rfl (Or.inl rfl) (pe_call (ok_done T) (hr.mono (by decide)) (by rfl) T.g_done T.F_done.kp T.b_done .nil pass0 (pa_cons (pe_ix ix_list (pv 6) (pv 8) (fun _ _ => rfl)) (pa_cons (pv 9) (pa_cons (pv 10) pa_nil)))))
      (pss_cons (ps_set (i := 12) sc_law.nd rfl (Or.inl rfl) (pe_call (ok_due T) (hr.mono (by decide)) (by rfl) T.g_due T.F_due.kp T.b_due .nil pass0 (pa_cons (pe_ix ix_list (pv 5) (pv 8) (fun _ _ => rfl)) (pa_cons (pv 9) (pa_cons (pv 10) (pa_cons (pv 2) pa_nil))))))
      (pss_cons (ps_if (PW.pt (pw_and (pt_cmpR op_ne (pe_ix ix_tup (pv 12) pe_int (fun _ _ => rfl)) pe_str (nomark _)) (pw_and1 (pt_cmpR (op_neD hr.units) (pv 11) (pv 12) (nomark _))))) (pss_one (ps_ret pe_bl)) pss_nil)
      (pss_cons (ps_if (pt_cmpR op_eq (pe_ix ix_tup (pv 12) pe_int (fun _ _ => rfl)) pe_str (nomark _)) (pss_cons (ps_if (PW.pt (pw_or (pt_cmpR op_ne (pe_ix ix_tup (pv 11) pe_int (fun _ _ => rfl)) pe_str (nomark _)) (pw_or1 (pt_cmpR (op_neD hr.units) (pe_call (ok_told T) (hr.mono (by decide)) (by rfl) T.g_told T.F_told.kp T.b_told .nil pass0 (pa_cons (pe_ix ix_tup (pv 11) pe_int (fun _ _ => rfl)) pa_nil)) (pe_ix ix_tup (pv 12) pe_int (fun _ _ => rfl)) (nomark _))))) (pss_one (ps_ret pe_bl)) pss_nil)
      (pss_cons (ps_expr (pe_bm PySem.F.plainAttrs_list PySem.F.slot_list_append PySem.F.type_list_append mt_append (pv 6) (pa_cons (pe_ix ix_tup (pv 11) pe_int (fun _ _ => rfl)) pa_nil)))
      (pss_one (ps_expr (pe_bm PySem.F.plainAttrs_list PySem.F.slot_list_append PySem.F.type_list_append mt_append (pv 5) (pa_cons (pe_ix ix_tup (pv 12) pe_int (fun _ _ => rfl)) pa_nil)))))) pss_nil)
      (pss_one (ps_if (pt_cmpR (op_neD hr.units) (pe_call (ok_told T) (hr.mono (by decide)) (by rfl) T.g_told T.F_told.kp T.b_told .nil pass0 (pa_cons (pe_ix ix_list (pv 6) (pv 8) (fun _ _ => rfl)) pa_nil)) (pe_ix ix_list (pv 5) (pv 8) (fun _ _ => rfl)) (nomark _)) (pss_one (ps_ret pe_bl)) pss_nil))))))))))))
      (pss_one (ps_ret (pe_cmpR (op_eqD hr.units) (pe_lc (own := [("_law_string", 13)]) (g := gName 13) (tt := tYes) rfl sc_law.nd (pi_list (pv 6)) (blkOk_by (N := ["_law_script", "_law_well_here", "_law_four", "_law_many", "_law_near_here", "_law_rows_here", "_law_strings", "_law_cell", "_law_k", "_law_spot", "_law_row", "_law_found", "_law_due_here", "_law_string"]) (sc := defScope s_law) (by decide +kernel)) (fun _ _ _ _ _ => (pg_name (i := 13) sc_law.nd rfl (Or.inl rfl))) (fun _ _ _ _ _ => pts_nil) (fun _ _ _ _ _ => (pe_call (ok_told T) (hr.mono (by decide)) (by rfl) T.g_told T.F_told.kp T.b_told .nil pass0 (pa_cons (pv 13) pa_nil)))) (pv 5) (nomark _))))))))))), ?_⟩
  refine ⟨_, rfl, a, ns, 0, rfl, hS, fun c0 => ⟨c0, rfl, fun d H1 hd s1 dr1 => ?_⟩⟩
  refine ⟨_, rfl, d, 0, rfl, dr1, by omega, fun H2 t u gU et b2 dr2 => ?_⟩
  have ntd : t ≠ d := by
    obtain ⟨_, _, _, e, _⟩ := dr2
    exact fun z => by rw [z, e] at et; cases et
  -- places
  refine ⟨_, rfl, _, rfl, d, 12, 10, rfl, by decide, log_tiny (by decide) (by decide), dr2, by omega, fun H3 r3 a3 c3 b3 dr3 => ⟨_, _, rfl, rfl, ?_⟩⟩
  refine ⟨_, rfl, d, 12, 11, rfl, by decide, log_tiny (by decide) (by decide), dr3, by omega, fun H4 r4 a4 c4 b4 dr4 => ⟨_, _, rfl, rfl, ?_⟩⟩
  refine ⟨_, rfl, d, 40, 12, rfl, by decide, log_tiny (by decide) (by decide), dr4, by omega, fun H5 r5 a5 c5 b5 dr5 => ⟨_, _, rfl, rfl, ?_⟩⟩
  refine ⟨(by show 4 ≤ sizeLine; decide), fun l hl => ?_⟩
  have nl := dr5.ne hl
  refine ⟨d, l, 13, _, rfl, nl, SqL.of upd_same, by simp, by show 4 ≤ 1000; decide, dr5.upd nl, by omega, fun H6 v hv b6 dr6 => ?_⟩
  obtain ⟨m, rfl, hm⟩ : ∃ k, v = .int k ∧ (1 ≤ k ∧ k ≤ 40) := zero_of (fun k => 1 ≤ k ∧ k ≤ 40) hv (by
    intro x hx
    simp only [List.mem_cons, List.not_mem_nil, or_false] at hx
    rcases hx with e | e | e | e <;> exact ⟨_, e, by omega⟩)
  have b26 : But d H2 H6 := ((b3.trans b4).trans b5).trans ((But.new hl).trans b6)
  -- rows
  refine ⟨_, rfl, _, rfl, _, rfl, d, t, m, 14, u, rfl, by omega, by omega, b26 _ _ ntd et, gU, dr6, by omega, fun H7 pr xs rs ep hpn npd hR hG hA hln h1 b7 dr7 => ?_⟩
  have et7 := (b26.trans b7) _ _ ntd et
  have u7 : Same H H7 := ((b2.trans b26).trans b7).same hd s1
  have eL := hR.len
  have h1 := h1 hm.1
  -- near
  refine ⟨pr, rfl, ⟨_, SqL.of ep⟩, fun nr hnr => lc_gen (K := K) (a := pr) hnr (SqL.of ep) (by omega) (fun j v H => NearV K H v) (fun j v H1 H2 s h => h.same s) ?_ ?_⟩
  · intro j x H8 R C hx s8 hR'
    obtain ⟨o, ho, hv⟩ := hR.at_ j x hx
    refine ⟨rfl, yesT ⟨_, rfl, ?_⟩⟩
    rcases hv.same (NL.of s8) with ⟨rfl, rfl⟩ | ⟨p, r, rfl, rfl, hp⟩
    · exact ⟨false, .inl rfl, iteF ⟨(by show 6 ≤ sizeLine; decide), fun p hp => hR' _ _ (same_upd hp) ⟨⟨60, 450, 3, "a", "b", true⟩, ⟨good_int (by decide) (by decide), good_int (by decide) (by decide), good_int (by decide) (by decide), by decide +kernel, by decide +kernel⟩, by decide, .inr ⟨p, _, rfl, rfl, .inl (.inl upd_same)⟩⟩⟩⟩
    · exact ⟨true, .inl (.inr (.inl ⟨_, hp, rfl⟩)), iteT (hR' _ _ (Same.refl _) ⟨r, hG r (List.mem_of_getElem? ho), hA r (List.mem_of_getElem? ho), .inr ⟨p, r, rfl, rfl, hp⟩⟩)⟩
  intro H8 zs s8 e8 l8 g8
  have u8 := u7.trans s8
  have et8 := s8 _ _ et7
  -- the rows of the first string
  refine ⟨(by show 1 ≤ sizeLine; decide), fun q1 hq1 => ?_⟩
  have z1 := same_upd hq1 (o := .lst [V.non])
  refine ⟨_, rfl, nr, zs, rfl, .inl (SqL.of (z1 _ _ e8)), q1, _, _, rfl, rfl, upd_same, by omega, by omega, ?_, fun q2 hq2 => ?_⟩
  · show 1 * ((zs.length : Nat) : Int).toNat ≤ sizeLine
    exact sz _ (by omega)
  rw [Int.toNat_natCast, rep_one]
  have z2 := same_upd hq2 (o := .lst (List.replicate zs.length V.non))
  refine ⟨(by show 1 ≤ sizeLine; decide), fun rl hrl => ?_⟩
  have z3 := same_upd hrl (o := .lst [.ref q2])
  have z13 := z1.trans (z2.trans z3)
  have eq2 := z3 _ _ (upd_same (H := upd H8 q1 (.lst [V.non])) (a := q2) (o := .lst (List.replicate zs.length V.non)))
  have erl : (upd (upd (upd H8 q1 (.lst [V.non])) q2 (.lst (List.replicate zs.length V.non))) rl (.lst [.ref q2])) rl = some (.lst [.ref q2]) := upd_same
  have nq2 : q2 ≠ rl := ne_of_none upd_same hrl
  have nnr : nr ≠ rl := ne_of_none ((z1.trans z2) _ _ e8) hrl
  have e9 := z13 _ _ e8
  have et9 := z13 _ _ et8
  have u9 := u8.trans z13
  have g9 : ∀ v ∈ zs, NearV K (upd (upd (upd H8 q1 (.lst [V.non])) q2 (.lst (List.replicate zs.length V.non))) rl (.lst [.ref q2])) v := fun v hv => by
    obtain ⟨j, hj⟩ := List.getElem?_of_mem hv
    exact (g8 j v hj).same (NL.of z13)
  generalize upd (upd (upd H8 q1 (.lst [V.non])) q2 (.lst (List.replicate zs.length V.non))) rl (.lst [.ref q2]) = H9 at *
  -- the first string
  refine ⟨_, rfl, t, _, _, _, rfl, rfl, .inl (.inl et9), atI_nat (j := 0) rfl, _, rfl, t, _, _, _, rfl, rfl, .inl (.inl et9), atI_nat (j := 1) rfl, _, rfl, t, _, _, _, rfl, rfl, .inl (.inl et9), atI_nat (j := 2) rfl, _, rfl, t, _, _, _, rfl, rfl, .inl (.inl et9), atI_nat (j := 3) rfl, ?_⟩
  intro rm dx nx ndx nex
  refine ⟨rm, dx, u, rfl, upd_same, gU.1, fun H10 hRl k10 => ⟨rfl, ?_⟩⟩
  have s10 : Same H9 H10 := fun b o e => k10 b o (by rw [upd_ne (ne_of_none e nx), upd_ne (ne_of_none e ndx)]; exact e) (ne_of_none e nx)
  refine ⟨_, rfl, rl, _, _, _, rfl, rfl, SqL.of (s10 _ _ erl), atI_nat (j := 0) rfl, q2, _, rfl, .inl (SqL.of (s10 _ _ eq2)), fun l2 hl2 => ⟨rfl, rfl, fun x dx2 h1x h2x h3x => ?_⟩⟩
  have z11 := same_upd hl2 (o := .lst (List.replicate zs.length V.non))
  have z12 : Same (upd H10 l2 (.lst (List.replicate zs.length V.non))) (upd (upd (upd H10 l2 (.lst (List.replicate zs.length V.non))) dx2 (.own x)) x (.ins T.C_String dx2 [])) := fun b o e => by
    rw [upd_ne (ne_of_none e h1x), upd_ne (ne_of_none e h2x)]
    exact e
  obtain ⟨drl, hRl⟩ := hRl
  refine ⟨x, dx2, l2, rm, List.replicate zs.length V.non, List.replicate zs.length none, u, rfl, upd_same, SqL.of (z12 _ _ upd_same), bds_gaps, ⟨drl, z12 _ _ (z11 _ _ hRl)⟩, by rw [List.length_replicate]; omega, fun _ H11 t3 hs3 ht3 k11 => ⟨rfl, ?_⟩, fun j z hb => by rw [show bar (List.replicate zs.length none) u = none from bar_gaps] at hb; cases hb⟩
  have s11 : Same H10 H11 := fun b o e => k11 b o (z12 _ _ (z11 _ _ e)) (ne_of_none (z11 _ _ e) h1x)
  refine ⟨(by show 1 ≤ sizeLine; decide), fun sl hsl => ?_⟩
  have z14 := same_upd hsl (o := .lst [.ref x])
  have s914 := (s10.trans s11).trans z14
  have u14 := u9.trans s914
  have hSV : SV T.C_Bead T.C_Rule T.C_String (upd H11 sl (.lst [.ref x])) x (List.replicate zs.length none) u := by
    obtain ⟨dx3, hs3⟩ := hs3
    exact ⟨t3, rm, _, ⟨dx3, z14 _ _ hs3⟩, z14 _ _ ht3, bds_gaps, drl, z14 _ _ (s11 _ _ hRl)⟩
  have nslrl : sl ≠ rl := (ne_of_none (s11 _ _ (s10 _ _ erl)) hsl).symm
  have nq2s : q2 ≠ sl := ne_of_none (s11 _ _ (s10 _ _ eq2)) hsl
  have nnrs : nr ≠ sl := ne_of_none (s11 _ _ (s10 _ _ e9)) hsl
  have hPr : Pr K T.C_Bead T.C_Rule T.C_String u (upd H11 sl (.lst [.ref x])) sl rl [.ref x] [.ref q2] [List.replicate zs.length none] := by
    refine ⟨rfl, rfl, fun k rs' hk => ?_⟩
    cases k with
    | succ k => simp at hk
    | zero =>
      have : List.replicate zs.length none = rs' := Option.some.inj hk
      subst this
      exact ⟨x, q2, _, rfl, rfl, hSV, s914 _ _ eq2, rws_gaps, good_gaps, by rw [List.length_replicate]; omega, nq2s, nq2⟩
  have esl : (upd H11 sl (.lst [.ref x])) sl = some (.lst [.ref x]) := upd_same
  have erl' := s914 _ _ erl
  have enr' := s914 _ _ e9
  have et' := s914 _ _ et9
  have g' : ∀ v ∈ zs, NearV K (upd H11 sl (.lst [.ref x])) v := fun v hv => (g9 v hv).same (NL.of s914)
  have hz1 : 1 ≤ zs.length := by omega
  have hz2 : zs.length ≤ 200 := by omega
  generalize upd H11 sl (.lst [.ref x]) = HA at *
  clear s11 k11 hs3 ht3 z12 h1x h2x h3x z11 hl2 s10 k10 hRl nx ndx nex z1 z2 z3 z13 hq1 hq2 hrl eq2 g8 s8 hnr hR hG hA ep b26 b7 dr7 dr6 b6 hl z14 hsl hSV s914 u9 u8 u7 e8 et8 et7 e9 et9 g9 erl
  -- the cells
  refine ⟨_, rfl, a, ns, 1, rfl, u14.seq hS, fun c1 => ⟨(by show 1 ≤ sizeLine; decide), fun p hp => ?_⟩⟩
  have y1 := same_upd hp (o := .lst [V.int c1])
  refine ⟨_, rfl, _, rfl, _, rfl, a, _, rfl, (u14.trans y1).seq hS, fun p2 hp2 => ?_⟩
  have y2 := same_upd hp2 (o := .lst (cutV (ns.map V.int) (some 2) (some 31)))
  have hcut : (cutV (ns.map V.int) (some 2) (some 31)).length ≤ 63 := by
    have := len_cut (ns.map V.int) (some 2) (some 31)
    rw [List.length_map] at this
    omega
  refine ⟨p, p2, _, _, rfl, rfl, y2 _ _ upd_same, upd_same, sz _ (by rw [List.length_singleton]; omega), fun p3 hp3 => ?_⟩
  have y3 := same_upd hp3 (o := .lst ([V.int c1] ++ cutV (ns.map V.int) (some 2) (some 31)))
  have y13 := y1.trans (y2.trans y3)
  have n3s : p3 ≠ sl := (ne_of_none ((y1.trans y2) _ _ esl) hp3).symm
  have n3r : p3 ≠ rl := (ne_of_none ((y1.trans y2) _ _ erl') hp3).symm
  have hcells : ([V.int c1] ++ cutV (ns.map V.int) (some 2) (some 31)).length ≤ 64 := by
    rw [List.length_append, List.length_singleton]
    omega
  refine ⟨p3, rfl, ⟨_, SqL.of upd_same⟩, for_list (K := K) (a := p3) (xs := [V.int c1] ++ cutV (ns.map V.int) (some 2) (some 31)) (fun i σ H' => ∃ w1 w3 w7 w8 w9 w10 w11 w12 w13, σ = [some (.ref a), w1, some (.ref t), w3, some (.ref nr), some (.ref rl), some (.ref sl), w7, w8, w9, w10, w11, w12, w13] ∧ Inv24 K T.C_Bead T.C_Rule T.C_String u t nr rl sl p3 ([V.int c1] ++ cutV (ns.map V.int) (some 2) (some 31)) zs H' i)
    ⟨_, _, _, _, _, _, _, _, _, rfl, ⟨upd_same, y13 _ _ et', y13 _ _ enr', fun v hv => (g' v hv).same (NL.of y13), _, _, _, y13 _ _ esl, y13 _ _ erl', hPr.same y13, Nat.le_refl _, Nat.le_refl _⟩⟩ (fun i σ H' _ h => ?_) ?_ ?_⟩
  · obtain ⟨_, _, _, _, _, _, _, _, _, _, e⟩ := h
    exact SqL.of e.e3
  · rintro i x σ H0 hi ⟨w1, w3, w7, w8, w9, w10, w11, w12, w13, rfl, J⟩
    obtain ⟨cell, rfl⟩ := cells_int hi
    have hi64 : i < 64 := Nat.lt_of_lt_of_le (List.getElem?_eq_some_iff.mp hi).1 hcells
    obtain ⟨e3, et, en, near, ss, ls, rss, es, er, pr, hle, h1⟩ := id J
    refine ⟨_, rfl, cell, rfl, fun d H1 hd s1 dr1 => ?_⟩
    have ll := pr.l2
    -- which string
    refine ⟨_, rfl, rl, ls, rfl, .inl (SqL.of (s1 _ _ er)), _, _, rfl, rfl, _, rfl, _, rfl, rl, ls, rfl, .inl (SqL.of (s1 _ _ er)), d, _, 0, rfl, by omega, log_tiny (by omega) (by omega), dr1, by omega, fun H2 r2 a2 c2 b2 dr2 => ?_⟩
    refine ⟨(by show 2 ≤ sizeLine; decide), fun l hl => ?_⟩
    have nl := dr2.ne hl
    refine ⟨_, rfl, d, 4, 1, rfl, by decide, log_tiny (by decide) (by decide), dr2.upd nl, by omega, fun H3 r3 a3 c3 b3 dr3 => ?_⟩
    obtain ⟨z, hat, hz⟩ := one_of_two (x := (ls.length : Int) - 1) (y := r2) a3 c3
    obtain ⟨kk, rfl⟩ : ∃ kk : Nat, z = kk := ⟨z.toNat, by omega⟩
    have hkk : kk < rss.length := by omega
    refine ⟨_, _, rfl, rfl, ⟨by decide, by decide⟩, l, _, _, _, rfl, rfl, SqL.of (b3 _ _ nl upd_same), hat, ?_⟩
    have b13 : But d H1 H3 := b2.trans ((But.new hl).trans b3)
    have s03 : Same H0 H3 := b13.same hd s1
    -- the place
    refine ⟨_, rfl, _, rfl, nr, zs, rfl, .inl (SqL.of (s03 _ _ en)), _, _, rfl, rfl, d, _, 2, rfl, by omega, log_tiny (by omega) (by omega), dr3, by omega, fun H4 r4 a4 c4 b4 dr4 => ⟨_, _, rfl, rfl, ?_⟩⟩
    have s04 : Same H0 H4 := (b13.trans b4).same hd s1
    -- the row
    obtain ⟨v0, hv0, hm0⟩ : ∃ v0, atI zs ((r4 - 2) % (zs.length : Int)) = some v0 ∧ v0 ∈ zs := by
      have p1 := Int.emod_nonneg (r4 - 2) (show (zs.length : Int) ≠ 0 by omega)
      have p2 := Int.emod_lt_of_pos (r4 - 2) (show (0 : Int) < (zs.length : Int) by omega)
      obtain ⟨j, hj⟩ : ∃ j : Nat, (r4 - 2) % (zs.length : Int) = j := ⟨((r4 - 2) % (zs.length : Int)).toNat, by omega⟩
      rw [hj]
      have hjl : j < zs.length := by omega
      exact ⟨_, atI_nat (List.getElem?_eq_getElem hjl), List.getElem_mem hjl⟩
    have en4 := s04 _ _ en
    refine ⟨_, rfl, _, rfl, _, rfl, _, rfl, _, rfl, nr, zs, rfl, .inl (SqL.of en4), _, _, rfl, rfl, (by show (0 : Int) < ((zs.length : Nat) : Int); omega), nr, zs, _, v0, rfl, rfl, SqL.of en4, hv0, (by show 1 ≤ sizeLine; decide), fun q1 hq1 => ?_⟩
    refine ⟨q1, _, _, rfl, rfl, upd_same, by decide, by decide, (by show 1 * 12 ≤ sizeLine; decide), fun q2 hq2 => ?_⟩
    have x1 := same_upd hq1 (o := .lst [v0])
    have x2 := same_upd hq2 (o := .lst (List.replicate (12 : Int).toNat [v0]).flatten)
    have l12 : (List.replicate (12 : Int).toNat [v0]).flatten.length = 12 := by
      rw [rep_one, List.length_replicate]
      rfl
    refine ⟨nr, q2, _, _, rfl, rfl, (x1.trans x2) _ _ en4, upd_same, sz _ (by omega), fun q3 hq3 => ?_⟩
    have x3 := same_upd hq3 (o := .lst (zs ++ (List.replicate (12 : Int).toNat [v0]).flatten))
    refine ⟨(by show 1 ≤ sizeLine; decide), fun q4 hq4 => ?_⟩
    have x4 := same_upd hq4 (o := .lst [V.non])
    refine ⟨q4, _, _, rfl, rfl, upd_same, by decide, by decide, (by show 1 * 4 ≤ sizeLine; decide), fun q5 hq5 => ?_⟩
    have x5 := same_upd hq5 (o := .lst (List.replicate (4 : Int).toNat [V.non]).flatten)
    have l4 : (List.replicate (4 : Int).toNat [V.non]).flatten.length = 4 := by
      rw [rep_one, List.length_replicate]
      rfl
    refine ⟨q3, q5, _, _, rfl, rfl, (x4.trans x5) _ _ upd_same, upd_same, sz _ (by rw [List.length_append]; omega), fun q6 hq6 => ?_⟩
    have x6 := same_upd hq6 (o := .lst (zs ++ (List.replicate (12 : Int).toNat [v0]).flatten ++ (List.replicate (4 : Int).toNat [V.non]).flatten))
    have x16 := (x1.trans x2).trans ((x3.trans x4).trans (x5.trans x6))
    have nq6 := (dr4.same ((x1.trans x2).trans ((x3.trans x4).trans x5))).ne hq6
    refine ⟨d, q6, 3, _, rfl, nq6, SqL.of upd_same, ?_, ?_, dr4.same x16, by omega, fun H5 v hv b5 dr5 => ?_⟩
    · intro e
      have := congrArg List.length e
      rw [List.length_append, List.length_append] at this
      simp only [List.length_nil] at this
      omega
    · rw [List.length_append, List.length_append]
      omega
    have b15 : But d H1 H5 := (b13.trans b4).trans ((But.of x16).trans b5)
    have s05 : Same H0 H5 := b15.same hd s1
    have hrow : ∃ o, RowV K H5 v o ∧ ∀ r, o = some r → GoodRw r ∧ r.ac ≤ 100000 := by
      rw [rep_one, rep_one] at hv
      have hv : v ∈ zs ∨ v = .non := by
        rcases List.mem_append.mp hv with h | h
        · rcases List.mem_append.mp h with h | h
          · exact .inl h
          · rw [(List.mem_replicate.mp h).2]
            exact .inl hm0
        · exact .inr (List.mem_replicate.mp h).2
      rcases hv with h | h
      · obtain ⟨r, g1, g2, g3⟩ := near v h
        exact ⟨some r, g3.same (NL.of s05), fun r' e => by rw [← Option.some.inj e]; exact ⟨g1, g2⟩⟩
      · exact ⟨none, .inl ⟨h, rfl⟩, fun r e => by cases e⟩
    obtain ⟨o, hvo, hgo⟩ := hrow
    clear hv hq1 hq2 hq3 hq4 hq5 hq6 x1 x2 x3 x4 x5 x6 x16 nq6 hv0 hm0 hat hl nl b2 b3 dr2 dr3 dr4 b4 b5 s03 s04 en4 b13
    refine ⟨fun σ' H' => ∃ v' o', σ' = [some (.ref a), some (.ref d), some (.ref t), w3, some (.ref nr), some (.ref rl), some (.ref sl), some (.int cell), some (.int kk), some (.int (r4 - 2)), some v', w11, w12, w13] ∧ RowV K H' v' o' ∧ (∀ r, o' = some r → GoodRw r) ∧ But d H5 H', ?_, ?_⟩
    · refine ⟨_, rfl, rfl, _, rfl, ?_⟩
      rcases id hvo with ⟨rfl, rfl⟩ | ⟨p, r, rfl, rfl, hp⟩
      · exact iteF (iteF ⟨_, none, rfl, .inl ⟨rfl, rfl⟩, (fun r e => by cases e), But.refl _ _⟩)
      · obtain ⟨gr, gac⟩ := hgo r rfl
        refine iteT ⟨_, rfl, d, 5, 4, rfl, by decide, log_tiny (by decide) (by decide), dr5, by omega, fun H6 r6 _ _ b6 dr6 => ⟨rfl, _, rfl, ite2 (fun _ => ?_) (fun _ => ?_)⟩⟩
        · have hp6 := nl_tup (dr_nl dr5 b6) hp
          refine ⟨_, rfl, p, _, _, _, rfl, rfl, hp6, atI_nat (j := 0) rfl, _, rfl, p, _, _, _, rfl, rfl, hp6, atI_nat (j := 1) rfl, _, rfl, d, 5, 5, rfl, by decide, log_tiny (by decide) (by decide), dr6, by omega, fun H7 r7 a7 c7 b7 dr7 => ⟨_, _, rfl, rfl, _, _, rfl, rfl, _, _, rfl, (by show 2 ≤ sizeLine; decide), fun t1 ht1 => ?_⟩⟩
          have hp7 := nl_tup (dr_nl dr6 b7) hp6
          refine ⟨_, rfl, _, rfl, p, _, rfl, nl_tup (NL.of (same_upd ht1)) hp7, fun z => absurd z (by show ¬ (HT.sIx 6 0 (some 2) = 0 ∧ HT.sIx 6 6 none = 6); decide), fun _ t2 ht2 => ?_⟩
          refine ⟨t1, t2, _, _, rfl, rfl, .inl (.inl (same_upd ht2 _ _ upd_same)), .inl (.inl upd_same), (by show 6 ≤ sizeLine; decide), (fun z => nomatch z), (fun _ z => nomatch z), fun _ _ t3 ht3 => ?_⟩
          refine ⟨.ref t3, some ⟨r.num, if r.ac + r7 - 2 > 1 then r.ac + r7 - 2 else 1, r.we, r.sh, r.fo, r.dr⟩, rfl, .inr ⟨t3, _, rfl, rfl, .inl (.inl upd_same)⟩, fun r' e => ?_, (b6.trans b7).trans (But.of ((same_upd ht1).trans ((same_upd ht2).trans (same_upd ht3))))⟩
          rw [← Option.some.inj e]
          refine ⟨gr.1, good_int (a := if r.ac + r7 - 2 > 1 then r.ac + r7 - 2 else 1) ?_ ?_, gr.2.2⟩
          · split <;> omega
          · split <;> omega
        · exact ⟨_, some r, rfl, .inr ⟨p, r, rfl, rfl, nl_tup (dr_nl dr5 b6) hp⟩, (fun r' e => by rw [← Option.some.inj e]; exact gr), b6⟩
    rintro σ' H6 ⟨v', o', rfl, hv', hg', b6⟩
    have s06 : Same H0 H6 := (b15.trans b6).same hd s1
    clear dr5 b15 b6 s05 hvo hgo dr1 s1
    obtain ⟨sa, la, xs, g1, g2, g3, g4, g5, g6, g7, g8, g9⟩ := pr.at_ kk _ (List.getElem?_eq_getElem hkk)
    generalize hrs : rss[kk] = rs at g3 g5 g6 g7
    refine ⟨_, rfl, _, rfl, sl, ss, _, _, rfl, rfl, SqL.of (s06 _ _ es), atI_nat g1, _, rfl, _, rfl, sa, _, v', o', rs, u, rfl, g3.same s06, hv', hg', by omega, fun H7 tf s7 hdone => ?_⟩
    have s07 := s06.trans s7
    refine ⟨_, rfl, _, rfl, rl, ls, _, _, rfl, rfl, SqL.of (s07 _ _ er), atI_nat g2, _, rfl, _, rfl, _, rfl, la, t, _, v', o', xs, rs, u, rfl, SqL.of (s07 _ _ g4), g5.same (NL.of s07), hv'.same (NL.of s7), g6, hg', .inl (.inl (s07 _ _ et)), by omega, fun H8 td s8 hdue => ?_⟩
    have s08 := s07.trans s8
    unfold DoneV at hdone
    unfold DueV at hdue
    cases hD : dueAt rs (r4 - 2) o' with
    | none =>
      simp only [hD] at hdone hdue
      have sh : SeqAt.shaped (.tuple [.str "place", .int (r4 - 2), .bool true]) = true := by
        have hp : PyData.canLay0 (.str "place") = true := by decide +kernel
        show ((PyData.canLay0 (.str "place") && (true && (true && true))) && decide (PyData.depth (.tuple [.str "place", .int (r4 - 2), .bool true]) ≤ 64)) = true
        rw [hp]
        rfl
      refine ⟨_, rfl, td, _, _, _, rfl, rfl, .inl (.inl hdue), atI_nat (j := 0) rfl, rfl, _, rfl, Eq.mpr (if_pos (by decide +kernel)) ⟨_, rfl, _, rfl, .tuple [.str "place", .int (r4 - 2), .bool true], .tuple [.str "place", .int (r4 - 2), .bool true], .tup (.inl (.inl (s8 _ _ hdone))) (.cons (.str _) (.cons (.int _) (.cons (.bl _) .nil))), .tup (.inl (.inl hdue)) (.cons (.str _) (.cons (.int _) (.cons (.bl _) .nil))), sh, sh, _, rfl, ?_⟩⟩
      rw [eqv_self sh]
      refine iteF ⟨_, rfl, td, _, _, _, rfl, rfl, .inl (.inl hdue), atI_nat (j := 0) rfl, rfl, _, rfl, Eq.mpr (if_neg (by decide +kernel)) ?_⟩
      exact tail24 (T := T) rfl rfl rfl (s08 _ _ es) (s08 _ _ er) (pr.same s08) hkk fun H' z => ⟨_, _, _, _, _, _, _, _, _, rfl, J.same (s08.trans z)⟩
    | some k =>
      cases hB : bar (rs.set k o') u with
      | some jz =>
        obtain ⟨j, z⟩ := jz
        obtain ⟨sz, rfl, hsz⟩ := barFrom_str (show barFrom _ _ _ _ = some (j, z) from hB)
        simp only [hD, hB] at hdone hdue
        have sh : SeqAt.shaped (.tuple [.str "barred", .int j, .str sz]) = true := by
          show ((PyData.canLay0 (.str "barred") && (true && (PyData.canLay0 (.str sz) && true))) && decide (PyData.depth (.tuple [.str "barred", .int j, .str sz]) ≤ 64)) = true
          rw [hsz, show PyData.canLay0 (.str "barred") = true by decide +kernel]
          rfl
        refine ⟨_, rfl, td, _, _, _, rfl, rfl, .inl (.inl hdue), atI_nat (j := 0) rfl, rfl, _, rfl, Eq.mpr (if_pos (by decide +kernel)) ⟨_, rfl, _, rfl, .tuple [.str "barred", .int j, .str sz], .tuple [.str "barred", .int j, .str sz], .tup (.inl (.inl (s8 _ _ hdone))) (.cons (.str _) (.cons (.int _) (.cons (.str _) .nil))), .tup (.inl (.inl hdue)) (.cons (.str _) (.cons (.int _) (.cons (.str _) .nil))), sh, sh, _, rfl, ?_⟩⟩
        rw [eqv_self sh]
        refine iteF ⟨_, rfl, td, _, _, _, rfl, rfl, .inl (.inl hdue), atI_nat (j := 0) rfl, rfl, _, rfl, Eq.mpr (if_neg (by decide +kernel)) ?_⟩
        exact tail24 (T := T) rfl rfl rfl (s08 _ _ es) (s08 _ _ er) (pr.same s08) hkk fun H' z => ⟨_, _, _, _, _, _, _, _, _, rfl, J.same (s08.trans z)⟩
      | none =>
        simp only [hD, hB] at hdone hdue
        obtain ⟨s', hf, hSV'⟩ := hdone
        obtain ⟨l', xs', hd', hl', hR', fl'⟩ := hdue
        have good := good_set (i := k) g6 hg'
        have glen : (rs.set k o').length ≤ 200 := by
          rw [List.length_set]
          exact g7
        refine ⟨_, rfl, td, _, _, _, rfl, rfl, .inl (.inl hd'), atI_nat (j := 0) rfl, rfl, _, rfl, Eq.mpr (if_neg (by decide +kernel)) (iteF ?_)⟩
        refine ⟨_, rfl, td, _, _, _, rfl, rfl, .inl (.inl hd'), atI_nat (j := 0) rfl, rfl, _, rfl, Eq.mpr (if_pos (by decide +kernel)) ?_⟩
        refine ⟨_, rfl, tf, _, _, _, rfl, rfl, .inl (.inl (s8 _ _ hf)), atI_nat (j := 0) rfl, rfl, _, rfl, Eq.mpr (if_neg (by decide +kernel)) ⟨_, rfl, tf, _, _, _, rfl, rfl, .inl (.inl (s8 _ _ hf)), atI_nat (j := 1) rfl, s', rs.set k o', u, rfl, hSV'.same s8, by omega, fun H9 l9 ys s9 f9 e9 hR9 => ⟨_, rfl, td, _, _, _, rfl, rfl, .inl (.inl (s9 _ _ hd')), atI_nat (j := 1) rfl, ne_rows good e9 hR9 (s9 _ _ hl') (hR'.same (NL.of s9)) ⟨_, rfl, iteF ?_⟩⟩⟩⟩
        have s09 := s08.trans s9
        have s79 := s8.trans s9
        have es9 := s09 _ _ es
        have er9 := s09 _ _ er
        have lss := pr.l1
        refine ⟨_, rfl, .inl ⟨rfl, _, SqL.of es9⟩, _, rfl, tf, _, _, _, rfl, rfl, .inl (.inl (s79 _ _ hf)), atI_nat (j := 1) rfl, sl, ss, _, rfl, rfl, es9, Nat.lt_of_lt_of_le (show ss.length < 1000 by omega) (by decide), ?_⟩
        have erA : (upd H9 sl (.lst (ss ++ [.ref s']))) rl = some (.lst ls) := (upd_ne nslrl.symm).trans er9
        have tdA := NL.at_ (o := .lst (ss ++ [.ref s'])) es9 _ _ (fun _ z => by cases z) (s9 _ _ hd')
        refine ⟨_, rfl, .inl ⟨rfl, _, SqL.of erA⟩, _, rfl, td, _, _, _, rfl, rfl, .inl (.inl tdA), atI_nat (j := 1) rfl, rl, ls, _, rfl, rfl, erA, Nat.lt_of_lt_of_le (show ls.length < 1000 by omega) (by decide), ?_⟩
        have prB := (pr.same s09).push es9 er9 nslrl (hSV'.same s79) (s9 _ _ hl') (hR'.same (NL.of s9)) good glen (ne_of_none (s07 _ _ es) fl').symm (ne_of_none (s07 _ _ er) fl').symm
        have esB : (upd (upd H9 sl (.lst (ss ++ [.ref s']))) rl (.lst (ls ++ [.ref l']))) sl = some (.lst (ss ++ [.ref s'])) := (upd_ne nslrl).trans upd_same
        have kp : ∀ (b : Addr) (o : HO), b ≠ sl → b ≠ rl → H0 b = some o → (upd (upd H9 sl (.lst (ss ++ [.ref s']))) rl (.lst (ls ++ [.ref l']))) b = some o := fun b o n1 n2 e => by
          rw [upd_ne n2, upd_ne n1]
          exact s09 _ _ e
        have nlB : NL H0 (upd (upd H9 sl (.lst (ss ++ [.ref s']))) rl (.lst (ls ++ [.ref l']))) := (NL.of s09).trans ((NL.at_ es9).trans (NL.at_ erA))
        refine tail24 (T := T) rfl rfl rfl esB upd_same prB (by rw [List.length_append]; omega) fun H' z => ⟨_, _, _, _, _, _, _, _, _, rfl, ⟨z _ _ (kp _ _ n3s n3r e3), z _ _ (nlB _ _ (fun _ z => by cases z) et), z _ _ (kp _ _ nnrs nnr en), fun v hv => ((near v hv).same nlB).same (NL.of z), _, _, _, z _ _ esB, z _ _ upd_same, prB.same z, ?_, ?_⟩⟩
        · rw [List.length_append, List.length_singleton]
          omega
        · rw [List.length_append, List.length_singleton]
          omega
  · rintro σ H0 ⟨w1, w3, w7, w8, w9, w10, w11, w12, w13, rfl, J⟩
    obtain ⟨e3, et, en, near, ss, ls, rss, es, er, pr, hle, h1⟩ := J
    refine ⟨_, rfl, sl, rfl, ⟨_, SqL.of es⟩, fun D hD => told_all T (c := 13) (u := u) hD es pr.l1 (by omega) (fun k rs hk => ?_) (fun _ => rfl) (fun _ => rfl) fun H' acc s' eD la g => ?_⟩
    · obtain ⟨sa, la, xs, g1, g2, g3, g4, g5, g6, g7, _⟩ := pr.at_ k rs hk
      exact ⟨sa, g1, g3, g7⟩
    · have hgood : ∀ rs ∈ rss, AllGood rs := fun rs hrs => by
        obtain ⟨j, hj⟩ := List.getElem?_of_mem hrs
        obtain ⟨_, _, _, _, _, _, _, _, g6, _⟩ := pr.at_ j rs hj
        exact g6
      refine ⟨_, rfl, .list (rss.map rowsD), .list (rss.map rowsD), .lst (SqL.of eD) (dpAll_of la fun j rs hj => ?_), .lst (SqL.of (s' _ _ er)) (dpAll_of pr.l2 fun j rs hj => ?_), rss_shaped hgood, rss_shaped hgood, ?_⟩
      · obtain ⟨l, xs, g1, g2, g3⟩ := g j rs hj
        exact ⟨_, g1, rws_dp g2 g3⟩
      · obtain ⟨sa, la, xs, g1, g2, g3, g4, g5, _⟩ := pr.at_ j rs hj
        exact ⟨_, g2, rws_dp (s' _ _ g4) (g5.same (NL.of s'))⟩
      · rw [eqv_self (rss_shaped hgood)]
        exact q H'
end
theorem all_mk {l : PySem.W.OpenLaw} {w : World} {K : PySem.W.Frag} {h : Heap} {mg : Str → Option Value} {fa : Addr} (X : K.In h) (G : h.Ns mainGlobals mg) (hfa : mg "law" = some (.ref fa))
    {C_Bead : Addr}
    {C_Rule : Addr}
    {C_String : Addr}
    {C_PearlError : Addr}
    {C_BadBead : Addr}
    {C_BadRule : Addr}
    {C_NotLet : Addr}
    {C_NoPlace : Addr}
    {f0 : Addr} {od0 an0 : Option Addr} {sl0 : Array (Option Value)} {oc0 kV0 dc0 pm0 cd0 ct0 : Value}
    {T0 : Addr} {oT0 : Value} {dT0 : Option Addr} {nT0 : Nat} {sT0 : Array (Option Value)} {td0_0 : Tok}
    {f1 : Addr} {od1 an1 : Option Addr} {sl1 : Array (Option Value)} {oc1 kV1 dc1 pm1 cd1 ct1 : Value}
    {f2 : Addr} {od2 an2 : Option Addr} {sl2 : Array (Option Value)} {oc2 kV2 dc2 pm2 cd2 ct2 : Value}
    {f3 : Addr} {od3 an3 : Option Addr} {sl3 : Array (Option Value)} {oc3 kV3 dc3 pm3 cd3 ct3 : Value}
    {f4 : Addr} {od4 an4 : Option Addr} {sl4 : Array (Option Value)} {oc4 kV4 dc4 pm4 cd4 ct4 : Value}
    {f5 : Addr} {od5 an5 : Option Addr} {sl5 : Array (Option Value)} {oc5 kV5 dc5 pm5 cd5 ct5 : Value}
    {f6 : Addr} {od6 an6 : Option Addr} {sl6 : Array (Option Value)} {oc6 kV6 dc6 pm6 cd6 ct6 : Value}
    {f7 : Addr} {od7 an7 : Option Addr} {sl7 : Array (Option Value)} {oc7 kV7 dc7 pm7 cd7 ct7 : Value}
    {f8 : Addr} {od8 an8 : Option Addr} {sl8 : Array (Option Value)} {oc8 kV8 dc8 pm8 cd8 ct8 : Value}
    {T8 : Addr} {oT8 : Value} {dT8 : Option Addr} {nT8 : Nat} {sT8 : Array (Option Value)} {td8_0 : Tok} {td8_1 : Tok} {td8_2 : Tok}
    {f9 : Addr} {od9 an9 : Option Addr} {sl9 : Array (Option Value)} {oc9 kV9 dc9 pm9 cd9 ct9 : Value}
    {f10 : Addr} {od10 an10 : Option Addr} {sl10 : Array (Option Value)} {oc10 kV10 dc10 pm10 cd10 ct10 : Value}
    {f11 : Addr} {od11 an11 : Option Addr} {sl11 : Array (Option Value)} {oc11 kV11 dc11 pm11 cd11 ct11 : Value}
    {f12 : Addr} {od12 an12 : Option Addr} {sl12 : Array (Option Value)} {oc12 kV12 dc12 pm12 cd12 ct12 : Value}
    {f13 : Addr} {od13 an13 : Option Addr} {sl13 : Array (Option Value)} {oc13 kV13 dc13 pm13 cd13 ct13 : Value}
    {f14 : Addr} {od14 an14 : Option Addr} {sl14 : Array (Option Value)} {oc14 kV14 dc14 pm14 cd14 ct14 : Value}
    {f15 : Addr} {od15 an15 : Option Addr} {sl15 : Array (Option Value)} {oc15 kV15 dc15 pm15 cd15 ct15 : Value}
    {f16 : Addr} {od16 an16 : Option Addr} {sl16 : Array (Option Value)} {oc16 kV16 dc16 pm16 cd16 ct16 : Value}
    {f17 : Addr} {od17 an17 : Option Addr} {sl17 : Array (Option Value)} {oc17 kV17 dc17 pm17 cd17 ct17 : Value}
    {f18 : Addr} {od18 an18 : Option Addr} {sl18 : Array (Option Value)} {oc18 kV18 dc18 pm18 cd18 ct18 : Value}
    {f19 : Addr} {od19 an19 : Option Addr} {sl19 : Array (Option Value)} {oc19 kV19 dc19 pm19 cd19 ct19 : Value}
    {f20 : Addr} {od20 an20 : Option Addr} {sl20 : Array (Option Value)} {oc20 kV20 dc20 pm20 cd20 ct20 : Value}
    {f21 : Addr} {od21 an21 : Option Addr} {sl21 : Array (Option Value)} {oc21 kV21 dc21 pm21 cd21 ct21 : Value}
    {f22 : Addr} {od22 an22 : Option Addr} {sl22 : Array (Option Value)} {oc22 kV22 dc22 pm22 cd22 ct22 : Value}
    {T22 : Addr} {oT22 : Value} {dT22 : Option Addr} {nT22 : Nat} {sT22 : Array (Option Value)} {td22_0 : Tok}
    {f23 : Addr} {od23 an23 : Option Addr} {sl23 : Array (Option Value)} {oc23 kV23 dc23 pm23 cd23 ct23 : Value}
    {f24 : Addr} {od24 an24 : Option Addr} {sl24 : Array (Option Value)} {oc24 kV24 dc24 pm24 cd24 ct24 : Value}
    {f25 : Addr} {od25 an25 : Option Addr} {sl25 : Array (Option Value)} {oc25 kV25 dc25 pm25 cd25 ct25 : Value}
    {f26 : Addr} {od26 an26 : Option Addr} {sl26 : Array (Option Value)} {oc26 kV26 dc26 pm26 cd26 ct26 : Value}
    {f27 : Addr} {od27 an27 : Option Addr} {sl27 : Array (Option Value)} {oc27 kV27 dc27 pm27 cd27 ct27 : Value}
    {f28 : Addr} {od28 an28 : Option Addr} {sl28 : Array (Option Value)} {oc28 kV28 dc28 pm28 cd28 ct28 : Value}
    {f29 : Addr} {od29 an29 : Option Addr} {sl29 : Array (Option Value)} {oc29 kV29 dc29 pm29 cd29 ct29 : Value}
    {f30 : Addr} {od30 an30 : Option Addr} {sl30 : Array (Option Value)} {oc30 kV30 dc30 pm30 cd30 ct30 : Value}
    {f31 : Addr} {od31 an31 : Option Addr} {sl31 : Array (Option Value)} {oc31 kV31 dc31 pm31 cd31 ct31 : Value}
    {f32 : Addr} {od32 an32 : Option Addr} {sl32 : Array (Option Value)} {oc32 kV32 dc32 pm32 cd32 ct32 : Value}
    {f33 : Addr} {od33 an33 : Option Addr} {sl33 : Array (Option Value)} {oc33 kV33 dc33 pm33 cd33 ct33 : Value}
    {f34 : Addr} {od34 an34 : Option Addr} {sl34 : Array (Option Value)} {oc34 kV34 dc34 pm34 cd34 ct34 : Value}
    {f35 : Addr} {od35 an35 : Option Addr} {sl35 : Array (Option Value)} {oc35 kV35 dc35 pm35 cd35 ct35 : Value}
    {f36 : Addr} {od36 an36 : Option Addr} {sl36 : Array (Option Value)} {oc36 kV36 dc36 pm36 cd36 ct36 : Value}
    {f37 : Addr} {od37 an37 : Option Addr} {sl37 : Array (Option Value)} {oc37 kV37 dc37 pm37 cd37 ct37 : Value}
    {f38 : Addr} {od38 an38 : Option Addr} {sl38 : Array (Option Value)} {oc38 kV38 dc38 pm38 cd38 ct38 : Value}
    {f39 : Addr} {od39 an39 : Option Addr} {sl39 : Array (Option Value)} {oc39 kV39 dc39 pm39 cd39 ct39 : Value}
    {tc0 : Tok}
    {tc1 : Tok}
    {tc4 : Tok}
    {nm_NotLet q_NotLet : Str} {N_NotLet : Addr} {bs_NotLet : List Value} {sn_NotLet : List Str} {sub_NotLet : List Value} {ab_NotLet : Bool} {col_NotLet : Option Bool} {dd_NotLet : Option Addr} {m0_NotLet m1_NotLet m2_NotLet m3_NotLet m5_NotLet : Option Value}
    {nm_NoPlace q_NoPlace : Str} {N_NoPlace : Addr} {bs_NoPlace : List Value} {sn_NoPlace : List Str} {sub_NoPlace : List Value} {ab_NoPlace : Bool} {col_NoPlace : Option Bool} {dd_NoPlace : Option Addr} {m0_NoPlace m1_NoPlace m2_NoPlace m3_NoPlace m5_NoPlace : Option Value}
    (aC_Bead : PySem.W.nsIn K mainGlobals "Bead" = some (some (.ref C_Bead)))
    (pg_Bead : PySem.W.plainGet K C_Bead Str.empty = true)
    (hd_Bead : PySem.W.hasDictIn K C_Bead = true)
    (po_Bead : PySem.W.plainOver K C_Bead = true)
    (sa_Bead : PySem.W.findIn K (.ref C_Bead) "__setattr__" = some (some (.builtin "object.__setattr__")))
    (mk_Bead : PySem.W.makesIn K C_Bead = true)
    (kc_Bead : PySem.W.keepIn K (.ref C_Bead) = true)
    (n_Bead_number : PySem.W.findIn K (.ref C_Bead) "number" = some none)
    (n_Bead_across : PySem.W.findIn K (.ref C_Bead) "across" = some none)
    (n_Bead_weight : PySem.W.findIn K (.ref C_Bead) "weight" = some none)
    (n_Bead_shade : PySem.W.findIn K (.ref C_Bead) "shade" = some none)
    (n_Bead_form : PySem.W.findIn K (.ref C_Bead) "form" = some none)
    (n_Bead_drilled : PySem.W.findIn K (.ref C_Bead) "drilled" = some none)
    (aC_Rule : PySem.W.nsIn K mainGlobals "Rule" = some (some (.ref C_Rule)))
    (pg_Rule : PySem.W.plainGet K C_Rule Str.empty = true)
    (hd_Rule : PySem.W.hasDictIn K C_Rule = true)
    (po_Rule : PySem.W.plainOver K C_Rule = true)
    (sa_Rule : PySem.W.findIn K (.ref C_Rule) "__setattr__" = some (some (.builtin "object.__setattr__")))
    (mk_Rule : PySem.W.makesIn K C_Rule = true)
    (kc_Rule : PySem.W.keepIn K (.ref C_Rule) = true)
    (n_Rule_least : PySem.W.findIn K (.ref C_Rule) "least" = some none)
    (n_Rule_most : PySem.W.findIn K (.ref C_Rule) "most" = some none)
    (n_Rule_match : PySem.W.findIn K (.ref C_Rule) "match" = some none)
    (n_Rule_shades : PySem.W.findIn K (.ref C_Rule) "shades" = some none)
    (aC_String : PySem.W.nsIn K mainGlobals "String" = some (some (.ref C_String)))
    (pg_String : PySem.W.plainGet K C_String Str.empty = true)
    (hd_String : PySem.W.hasDictIn K C_String = true)
    (po_String : PySem.W.plainOver K C_String = true)
    (sa_String : PySem.W.findIn K (.ref C_String) "__setattr__" = some (some (.builtin "object.__setattr__")))
    (mk_String : PySem.W.makesIn K C_String = true)
    (kc_String : PySem.W.keepIn K (.ref C_String) = true)
    (n_String_held : PySem.W.findIn K (.ref C_String) "held" = some none)
    (n_String_rule : PySem.W.findIn K (.ref C_String) "rule" = some none)
    (aC_PearlError : PySem.W.nsIn K mainGlobals "PearlError" = some (some (.ref C_PearlError)))
    (aC_BadBead : PySem.W.nsIn K mainGlobals "BadBead" = some (some (.ref C_BadBead)))
    (aC_BadRule : PySem.W.nsIn K mainGlobals "BadRule" = some (some (.ref C_BadRule)))
    (aC_NotLet : PySem.W.nsIn K mainGlobals "NotLet" = some (some (.ref C_NotLet)))
    (aC_NoPlace : PySem.W.nsIn K mainGlobals "NoPlace" = some (some (.ref C_NoPlace)))
    (a0 : PySem.W.findIn K (.ref C_PearlError) "__init__" = some (some (.ref f0)))
    (i0 : PySem.W.isFn K (.ref f0) = true)
    (l0 : K.lookup f0 = some ⟨oc0, od0, .func (PySem.W.fnOf "__init__" "PearlError.__init__" (defArgs s_PearlError_init) (defBody s_PearlError_init) (defScope s_PearlError_init) (.ref T0) kV0 dc0 pm0 an0 cd0 ct0), sl0⟩)
    (d0 : K.lookup T0 = some ⟨oT0, dT0, .seq (List.toArray [.str "" td0_0]) nT0, sT0⟩)
    (c0 : PySem.W.codeIn K cd0 "PearlError.__init__" = true)
    (k0 : PySem.W.keepIn K (.ref f0) = true)
    (a1 : PySem.W.findIn K (.ref C_NotLet) "__init__" = some (some (.ref f1)))
    (i1 : PySem.W.isFn K (.ref f1) = true)
    (l1 : K.lookup f1 = some ⟨oc1, od1, .func (PySem.W.fnOf "__init__" "NotLet.__init__" (defArgs s_NotLet_init) (defBody s_NotLet_init) (defScope s_NotLet_init) .none kV1 dc1 pm1 an1 cd1 ct1), sl1⟩)
    (c1 : PySem.W.codeIn K cd1 "NotLet.__init__" = true)
    (k1 : PySem.W.keepIn K (.ref f1) = true)
    (a2 : PySem.W.findIn K (.ref C_NoPlace) "__init__" = some (some (.ref f2)))
    (i2 : PySem.W.isFn K (.ref f2) = true)
    (l2 : K.lookup f2 = some ⟨oc2, od2, .func (PySem.W.fnOf "__init__" "NoPlace.__init__" (defArgs s_NoPlace_init) (defBody s_NoPlace_init) (defScope s_NoPlace_init) .none kV2 dc2 pm2 an2 cd2 ct2), sl2⟩)
    (c2 : PySem.W.codeIn K cd2 "NoPlace.__init__" = true)
    (k2 : PySem.W.keepIn K (.ref f2) = true)
    (a3 : PySem.W.nsIn K mainGlobals "is_int" = some (some (.ref f3)))
    (l3 : K.lookup f3 = some ⟨oc3, od3, .func (PySem.W.fnOf "is_int" "is_int" (defArgs s_is_int) (defBody s_is_int) (defScope s_is_int) .none kV3 dc3 pm3 an3 cd3 ct3), sl3⟩)
    (c3 : PySem.W.codeIn K cd3 "is_int" = true)
    (k3 : PySem.W.keepIn K (.ref f3) = true)
    (a4 : PySem.W.nsIn K mainGlobals "is_whole" = some (some (.ref f4)))
    (l4 : K.lookup f4 = some ⟨oc4, od4, .func (PySem.W.fnOf "is_whole" "is_whole" (defArgs s_is_whole) (defBody s_is_whole) (defScope s_is_whole) .none kV4 dc4 pm4 an4 cd4 ct4), sl4⟩)
    (c4 : PySem.W.codeIn K cd4 "is_whole" = true)
    (k4 : PySem.W.keepIn K (.ref f4) = true)
    (a5 : PySem.W.nsIn K mainGlobals "is_from_nought" = some (some (.ref f5)))
    (l5 : K.lookup f5 = some ⟨oc5, od5, .func (PySem.W.fnOf "is_from_nought" "is_from_nought" (defArgs s_is_from_nought) (defBody s_is_from_nought) (defScope s_is_from_nought) .none kV5 dc5 pm5 an5 cd5 ct5), sl5⟩)
    (c5 : PySem.W.codeIn K cd5 "is_from_nought" = true)
    (k5 : PySem.W.keepIn K (.ref f5) = true)
    (a6 : PySem.W.nsIn K mainGlobals "is_name" = some (some (.ref f6)))
    (l6 : K.lookup f6 = some ⟨oc6, od6, .func (PySem.W.fnOf "is_name" "is_name" (defArgs s_is_name) (defBody s_is_name) (defScope s_is_name) .none kV6 dc6 pm6 an6 cd6 ct6), sl6⟩)
    (c6 : PySem.W.codeIn K cd6 "is_name" = true)
    (k6 : PySem.W.keepIn K (.ref f6) = true)
    (a7 : PySem.W.nsIn K mainGlobals "is_number" = some (some (.ref f7)))
    (l7 : K.lookup f7 = some ⟨oc7, od7, .func (PySem.W.fnOf "is_number" "is_number" (defArgs s_is_number) (defBody s_is_number) (defScope s_is_number) .none kV7 dc7 pm7 an7 cd7 ct7), sl7⟩)
    (c7 : PySem.W.codeIn K cd7 "is_number" = true)
    (k7 : PySem.W.keepIn K (.ref f7) = true)
    (a8 : PySem.W.findIn K (.ref C_Rule) "__init__" = some (some (.ref f8)))
    (i8 : PySem.W.isFn K (.ref f8) = true)
    (l8 : K.lookup f8 = some ⟨oc8, od8, .func (PySem.W.fnOf "__init__" "Rule.__init__" (defArgs s_Rule_init) (defBody s_Rule_init) (defScope s_Rule_init) (.ref T8) kV8 dc8 pm8 an8 cd8 ct8), sl8⟩)
    (d8 : K.lookup T8 = some ⟨oT8, dT8, .seq (List.toArray [.int 0 td8_0, .int 10 td8_1, .int 0 td8_2, .bool true]) nT8, sT8⟩)
    (c8 : PySem.W.codeIn K cd8 "Rule.__init__" = true)
    (k8 : PySem.W.keepIn K (.ref f8) = true)
    (a9 : PySem.W.nsIn K mainGlobals "stands_ahead" = some (some (.ref f9)))
    (l9 : K.lookup f9 = some ⟨oc9, od9, .func (PySem.W.fnOf "stands_ahead" "stands_ahead" (defArgs s_stands_ahead) (defBody s_stands_ahead) (defScope s_stands_ahead) .none kV9 dc9 pm9 an9 cd9 ct9), sl9⟩)
    (c9 : PySem.W.codeIn K cd9 "stands_ahead" = true)
    (k9 : PySem.W.keepIn K (.ref f9) = true)
    (a10 : PySem.W.nsIn K mainGlobals "breaks_step" = some (some (.ref f10)))
    (l10 : K.lookup f10 = some ⟨oc10, od10, .func (PySem.W.fnOf "breaks_step" "breaks_step" (defArgs s_breaks_step) (defBody s_breaks_step) (defScope s_breaks_step) .none kV10 dc10 pm10 an10 cd10 ct10), sl10⟩)
    (c10 : PySem.W.codeIn K cd10 "breaks_step" = true)
    (k10 : PySem.W.keepIn K (.ref f10) = true)
    (a11 : PySem.W.nsIn K mainGlobals "partner_of" = some (some (.ref f11)))
    (l11 : K.lookup f11 = some ⟨oc11, od11, .func (PySem.W.fnOf "partner_of" "partner_of" (defArgs s_partner_of) (defBody s_partner_of) (defScope s_partner_of) .none kV11 dc11 pm11 an11 cd11 ct11), sl11⟩)
    (c11 : PySem.W.codeIn K cd11 "partner_of" = true)
    (k11 : PySem.W.keepIn K (.ref f11) = true)
    (a12 : PySem.W.nsIn K mainGlobals "same_look" = some (some (.ref f12)))
    (l12 : K.lookup f12 = some ⟨oc12, od12, .func (PySem.W.fnOf "same_look" "same_look" (defArgs s_same_look) (defBody s_same_look) (defScope s_same_look) .none kV12 dc12 pm12 an12 cd12 ct12), sl12⟩)
    (c12 : PySem.W.codeIn K cd12 "same_look" = true)
    (k12 : PySem.W.keepIn K (.ref f12) = true)
    (a13 : PySem.W.nsIn K mainGlobals "reason_at" = some (some (.ref f13)))
    (l13 : K.lookup f13 = some ⟨oc13, od13, .func (PySem.W.fnOf "reason_at" "reason_at" (defArgs s_reason_at) (defBody s_reason_at) (defScope s_reason_at) .none kV13 dc13 pm13 an13 cd13 ct13), sl13⟩)
    (c13 : PySem.W.codeIn K cd13 "reason_at" = true)
    (k13 : PySem.W.keepIn K (.ref f13) = true)
    (a14 : PySem.W.nsIn K mainGlobals "barred" = some (some (.ref f14)))
    (l14 : K.lookup f14 = some ⟨oc14, od14, .func (PySem.W.fnOf "barred" "barred" (defArgs s_barred) (defBody s_barred) (defScope s_barred) .none kV14 dc14 pm14 an14 cd14 ct14), sl14⟩)
    (c14 : PySem.W.codeIn K cd14 "barred" = true)
    (k14 : PySem.W.keepIn K (.ref f14) = true)
    (a15 : PySem.W.findIn K (.ref C_String) "__init__" = some (some (.ref f15)))
    (i15 : PySem.W.isFn K (.ref f15) = true)
    (l15 : K.lookup f15 = some ⟨oc15, od15, .func (PySem.W.fnOf "__init__" "String.__init__" (defArgs s_String_init) (defBody s_String_init) (defScope s_String_init) .none kV15 dc15 pm15 an15 cd15 ct15), sl15⟩)
    (c15 : PySem.W.codeIn K cd15 "String.__init__" = true)
    (k15 : PySem.W.keepIn K (.ref f15) = true)
    (a16 : PySem.W.findIn K (.ref C_String) "beads" = some (some (.ref f16)))
    (i16 : PySem.W.isFn K (.ref f16) = true)
    (l16 : K.lookup f16 = some ⟨oc16, od16, .func (PySem.W.fnOf "beads" "String.beads" (defArgs s_String_beads) (defBody s_String_beads) (defScope s_String_beads) .none kV16 dc16 pm16 an16 cd16 ct16), sl16⟩)
    (c16 : PySem.W.codeIn K cd16 "String.beads" = true)
    (k16 : PySem.W.keepIn K (.ref f16) = true)
    (a17 : PySem.W.findIn K (.ref C_String) "gaps" = some (some (.ref f17)))
    (i17 : PySem.W.isFn K (.ref f17) = true)
    (l17 : K.lookup f17 = some ⟨oc17, od17, .func (PySem.W.fnOf "gaps" "String.gaps" (defArgs s_String_gaps) (defBody s_String_gaps) (defScope s_String_gaps) .none kV17 dc17 pm17 an17 cd17 ct17), sl17⟩)
    (c17 : PySem.W.codeIn K cd17 "String.gaps" = true)
    (k17 : PySem.W.keepIn K (.ref f17) = true)
    (a18 : PySem.W.findIn K (.ref C_String) "filled" = some (some (.ref f18)))
    (i18 : PySem.W.isFn K (.ref f18) = true)
    (l18 : K.lookup f18 = some ⟨oc18, od18, .func (PySem.W.fnOf "filled" "String.filled" (defArgs s_String_filled) (defBody s_String_filled) (defScope s_String_filled) .none kV18 dc18 pm18 an18 cd18 ct18), sl18⟩)
    (c18 : PySem.W.codeIn K cd18 "String.filled" = true)
    (k18 : PySem.W.keepIn K (.ref f18) = true)
    (a19 : PySem.W.findIn K (.ref C_String) "emptied" = some (some (.ref f19)))
    (i19 : PySem.W.isFn K (.ref f19) = true)
    (l19 : K.lookup f19 = some ⟨oc19, od19, .func (PySem.W.fnOf "emptied" "String.emptied" (defArgs s_String_emptied) (defBody s_String_emptied) (defScope s_String_emptied) .none kV19 dc19 pm19 an19 cd19 ct19), sl19⟩)
    (c19 : PySem.W.codeIn K cd19 "String.emptied" = true)
    (k19 : PySem.W.keepIn K (.ref f19) = true)
    (a20 : PySem.W.findIn K (.ref C_String) "changed_at" = some (some (.ref f20)))
    (i20 : PySem.W.isFn K (.ref f20) = true)
    (l20 : K.lookup f20 = some ⟨oc20, od20, .func (PySem.W.fnOf "changed_at" "String.changed_at" (defArgs s_String_changed_at) (defBody s_String_changed_at) (defScope s_String_changed_at) .none kV20 dc20 pm20 an20 cd20 ct20), sl20⟩)
    (c20 : PySem.W.codeIn K cd20 "String.changed_at" = true)
    (k20 : PySem.W.keepIn K (.ref f20) = true)
    (a21 : PySem.W.nsIn K mainGlobals "is_measure" = some (some (.ref f21)))
    (l21 : K.lookup f21 = some ⟨oc21, od21, .func (PySem.W.fnOf "is_measure" "is_measure" (defArgs s_is_measure) (defBody s_is_measure) (defScope s_is_measure) .none kV21 dc21 pm21 an21 cd21 ct21), sl21⟩)
    (c21 : PySem.W.codeIn K cd21 "is_measure" = true)
    (k21 : PySem.W.keepIn K (.ref f21) = true)
    (a22 : PySem.W.findIn K (.ref C_Bead) "__init__" = some (some (.ref f22)))
    (i22 : PySem.W.isFn K (.ref f22) = true)
    (l22 : K.lookup f22 = some ⟨oc22, od22, .func (PySem.W.fnOf "__init__" "Bead.__init__" (defArgs s_Bead_init) (defBody s_Bead_init) (defScope s_Bead_init) (.ref T22) kV22 dc22 pm22 an22 cd22 ct22), sl22⟩)
    (d22 : K.lookup T22 = some ⟨oT22, dT22, .seq (List.toArray [.str "round" td22_0, .bool false]) nT22, sT22⟩)
    (c22 : PySem.W.codeIn K cd22 "Bead.__init__" = true)
    (k22 : PySem.W.keepIn K (.ref f22) = true)
    (a23 : PySem.W.findIn K (.ref C_Bead) "row" = some (some (.ref f23)))
    (i23 : PySem.W.isFn K (.ref f23) = true)
    (l23 : K.lookup f23 = some ⟨oc23, od23, .func (PySem.W.fnOf "row" "Bead.row" (defArgs s_Bead_row) (defBody s_Bead_row) (defScope s_Bead_row) .none kV23 dc23 pm23 an23 cd23 ct23), sl23⟩)
    (c23 : PySem.W.codeIn K cd23 "Bead.row" = true)
    (k23 : PySem.W.keepIn K (.ref f23) = true)
    (a24 : PySem.W.nsIn K mainGlobals "_law_cell_at" = some (some (.ref f24)))
    (l24 : K.lookup f24 = some ⟨oc24, od24, .func (PySem.W.fnOf "_law_cell_at" "_law_cell_at" (defArgs s_cell_at) (defBody s_cell_at) (defScope s_cell_at) .none kV24 dc24 pm24 an24 cd24 ct24), sl24⟩)
    (c24 : PySem.W.codeIn K cd24 "_law_cell_at" = true)
    (k24 : PySem.W.keepIn K (.ref f24) = true)
    (a25 : PySem.W.nsIn K mainGlobals "_law_well" = some (some (.ref f25)))
    (l25 : K.lookup f25 = some ⟨oc25, od25, .func (PySem.W.fnOf "_law_well" "_law_well" (defArgs s_well) (defBody s_well) (defScope s_well) .none kV25 dc25 pm25 an25 cd25 ct25), sl25⟩)
    (c25 : PySem.W.codeIn K cd25 "_law_well" = true)
    (k25 : PySem.W.keepIn K (.ref f25) = true)
    (a26 : PySem.W.nsIn K mainGlobals "_law_draw" = some (some (.ref f26)))
    (l26 : K.lookup f26 = some ⟨oc26, od26, .func (PySem.W.fnOf "_law_draw" "_law_draw" (defArgs s_draw) (defBody s_draw) (defScope s_draw) .none kV26 dc26 pm26 an26 cd26 ct26), sl26⟩)
    (c26 : PySem.W.codeIn K cd26 "_law_draw" = true)
    (k26 : PySem.W.keepIn K (.ref f26) = true)
    (a27 : PySem.W.nsIn K mainGlobals "_law_one" = some (some (.ref f27)))
    (l27 : K.lookup f27 = some ⟨oc27, od27, .func (PySem.W.fnOf "_law_one" "_law_one" (defArgs s_one) (defBody s_one) (defScope s_one) .none kV27 dc27 pm27 an27 cd27 ct27), sl27⟩)
    (c27 : PySem.W.codeIn K cd27 "_law_one" = true)
    (k27 : PySem.W.keepIn K (.ref f27) = true)
    (a28 : PySem.W.nsIn K mainGlobals "_law_word" = some (some (.ref f28)))
    (l28 : K.lookup f28 = some ⟨oc28, od28, .func (PySem.W.fnOf "_law_word" "_law_word" (defArgs s_word) (defBody s_word) (defScope s_word) .none kV28 dc28 pm28 an28 cd28 ct28), sl28⟩)
    (c28 : PySem.W.codeIn K cd28 "_law_word" = true)
    (k28 : PySem.W.keepIn K (.ref f28) = true)
    (a29 : PySem.W.nsIn K mainGlobals "_law_rule" = some (some (.ref f29)))
    (l29 : K.lookup f29 = some ⟨oc29, od29, .func (PySem.W.fnOf "_law_rule" "_law_rule" (defArgs s_rule) (defBody s_rule) (defScope s_rule) .none kV29 dc29 pm29 an29 cd29 ct29), sl29⟩)
    (c29 : PySem.W.codeIn K cd29 "_law_rule" = true)
    (k29 : PySem.W.keepIn K (.ref f29) = true)
    (a30 : PySem.W.nsIn K mainGlobals "_law_near" = some (some (.ref f30)))
    (l30 : K.lookup f30 = some ⟨oc30, od30, .func (PySem.W.fnOf "_law_near" "_law_near" (defArgs s_near) (defBody s_near) (defScope s_near) .none kV30 dc30 pm30 an30 cd30 ct30), sl30⟩)
    (c30 : PySem.W.codeIn K cd30 "_law_near" = true)
    (k30 : PySem.W.keepIn K (.ref f30) = true)
    (a31 : PySem.W.nsIn K mainGlobals "_law_across" = some (some (.ref f31)))
    (l31 : K.lookup f31 = some ⟨oc31, od31, .func (PySem.W.fnOf "_law_across" "_law_across" (defArgs s_across) (defBody s_across) (defScope s_across) .none kV31 dc31 pm31 an31 cd31 ct31), sl31⟩)
    (c31 : PySem.W.codeIn K cd31 "_law_across" = true)
    (k31 : PySem.W.keepIn K (.ref f31) = true)
    (a32 : PySem.W.nsIn K mainGlobals "_law_rows" = some (some (.ref f32)))
    (l32 : K.lookup f32 = some ⟨oc32, od32, .func (PySem.W.fnOf "_law_rows" "_law_rows" (defArgs s_rows) (defBody s_rows) (defScope s_rows) .none kV32 dc32 pm32 an32 cd32 ct32), sl32⟩)
    (c32 : PySem.W.codeIn K cd32 "_law_rows" = true)
    (k32 : PySem.W.keepIn K (.ref f32) = true)
    (a33 : PySem.W.nsIn K mainGlobals "_law_bead" = some (some (.ref f33)))
    (l33 : K.lookup f33 = some ⟨oc33, od33, .func (PySem.W.fnOf "_law_bead" "_law_bead" (defArgs s_bead) (defBody s_bead) (defScope s_bead) .none kV33 dc33 pm33 an33 cd33 ct33), sl33⟩)
    (c33 : PySem.W.codeIn K cd33 "_law_bead" = true)
    (k33 : PySem.W.keepIn K (.ref f33) = true)
    (a34 : PySem.W.nsIn K mainGlobals "_law_step_bars" = some (some (.ref f34)))
    (l34 : K.lookup f34 = some ⟨oc34, od34, .func (PySem.W.fnOf "_law_step_bars" "_law_step_bars" (defArgs s_step_bars) (defBody s_step_bars) (defScope s_step_bars) .none kV34 dc34 pm34 an34 cd34 ct34), sl34⟩)
    (c34 : PySem.W.codeIn K cd34 "_law_step_bars" = true)
    (k34 : PySem.W.keepIn K (.ref f34) = true)
    (a35 : PySem.W.nsIn K mainGlobals "_law_why" = some (some (.ref f35)))
    (l35 : K.lookup f35 = some ⟨oc35, od35, .func (PySem.W.fnOf "_law_why" "_law_why" (defArgs s_why) (defBody s_why) (defScope s_why) .none kV35 dc35 pm35 an35 cd35 ct35), sl35⟩)
    (c35 : PySem.W.codeIn K cd35 "_law_why" = true)
    (k35 : PySem.W.keepIn K (.ref f35) = true)
    (a36 : PySem.W.nsIn K mainGlobals "_law_done" = some (some (.ref f36)))
    (l36 : K.lookup f36 = some ⟨oc36, od36, .func (PySem.W.fnOf "_law_done" "_law_done" (defArgs s_done) (defBody s_done) (defScope s_done) .none kV36 dc36 pm36 an36 cd36 ct36), sl36⟩)
    (c36 : PySem.W.codeIn K cd36 "_law_done" = true)
    (k36 : PySem.W.keepIn K (.ref f36) = true)
    (a37 : PySem.W.nsIn K mainGlobals "_law_due" = some (some (.ref f37)))
    (l37 : K.lookup f37 = some ⟨oc37, od37, .func (PySem.W.fnOf "_law_due" "_law_due" (defArgs s_due) (defBody s_due) (defScope s_due) .none kV37 dc37 pm37 an37 cd37 ct37), sl37⟩)
    (c37 : PySem.W.codeIn K cd37 "_law_due" = true)
    (k37 : PySem.W.keepIn K (.ref f37) = true)
    (a38 : PySem.W.nsIn K mainGlobals "_law_told" = some (some (.ref f38)))
    (l38 : K.lookup f38 = some ⟨oc38, od38, .func (PySem.W.fnOf "_law_told" "_law_told" (defArgs s_told) (defBody s_told) (defScope s_told) .none kV38 dc38 pm38 an38 cd38 ct38), sl38⟩)
    (c38 : PySem.W.codeIn K cd38 "_law_told" = true)
    (k38 : PySem.W.keepIn K (.ref f38) = true)
    (a39 : PySem.W.nsIn K mainGlobals "law" = some (some (.ref f39)))
    (l39 : K.lookup f39 = some ⟨oc39, od39, .func (PySem.W.fnOf "law" "law" (defArgs s_law) (defBody s_law) (defScope s_law) .none kV39 dc39 pm39 an39 cd39 ct39), sl39⟩)
    (c39 : PySem.W.codeIn K cd39 "law" = true)
    (k39 : PySem.W.keepIn K (.ref f39) = true)
    (q0 : PySem.W.nsIn K mainGlobals "LONGEST_NAME" = some (some (.int 8 tc0)))
    (q1 : PySem.W.nsIn K mainGlobals "GREATEST_NUMBER" = some (some (.int 1000000000 tc1)))
    (q4 : PySem.W.nsIn K mainGlobals "GREATEST_MEASURE" = some (some (.int 1000000 tc4)))
    (z0 : PySem.W.nsIn K mainGlobals "ValueError" = some none)
    (z1 : PySem.W.nsIn K mainGlobals "IndexError" = some none)
    (z2 : PySem.W.nsIn K mainGlobals "bool" = some none)
    (z3 : PySem.W.nsIn K mainGlobals "isinstance" = some none)
    (z4 : PySem.W.nsIn K mainGlobals "int" = some none)
    (z5 : PySem.W.nsIn K mainGlobals "len" = some none)
    (z6 : PySem.W.nsIn K mainGlobals "str" = some none)
    (z7 : PySem.W.nsIn K mainGlobals "all" = some none)
    (z8 : PySem.W.nsIn K mainGlobals "any" = some none)
    (z9 : PySem.W.nsIn K mainGlobals "abs" = some none)
    (z10 : PySem.W.nsIn K mainGlobals "enumerate" = some none)
    (z11 : PySem.W.nsIn K mainGlobals "tuple" = some none)
    (z12 : PySem.W.nsIn K mainGlobals "list" = some none)
    (z13 : PySem.W.nsIn K mainGlobals "range" = some none)
    (z14 : PySem.W.nsIn K mainGlobals "max" = some none)
    (xL_NotLet : K.lookup C_NotLet = some (excClassObj nm_NotLet q_NotLet C_NotLet N_NotLet bs_NotLet [.ref C_PearlError, .type "ValueError", .type "Exception", .type "BaseException", .type "object"] true sn_NotLet sub_NotLet ab_NotLet col_NotLet dd_NotLet m0_NotLet m1_NotLet m2_NotLet m3_NotLet m5_NotLet "ValueError.__new__"))
    (xsa_NotLet : PySem.W.findIn K (.ref C_NotLet) "__setattr__" = some (some (.builtin "object.__setattr__")))
    (xe_NotLet : PySem.W.subIn K (.ref C_NotLet) (.type "BaseException") = some true)
    (xt_NotLet : PySem.W.typeIn K (.ref C_NotLet) = some (.type "type"))
    (xk_NotLet : PySem.W.keepIn K (.ref C_NotLet) = true)
    (xi_NotLet : PySem.W.findIn K (.ref C_NotLet) "__init__" = some (some (.ref f1)))
    (xga_NotLet : PySem.W.findIn K (.ref C_NotLet) "__getattribute__" = some (some (.builtin "BaseException.__getattribute__")))
    (xgg_NotLet : PySem.W.findIn K (.ref C_NotLet) "__getattr__" = some none)
    (xhd_NotLet : PySem.W.hasDictIn K C_NotLet = true)
    (xca_NotLet : PySem.W.findIn K (.ref C_NotLet) "__class__" = some (some (.builtin "object.__class__")))
    (xcg_NotLet : PySem.W.specialIn K (.builtin "object.__class__") "__get__" = some (some (.builtin "getset_descriptor.__get__")))
    (xct_NotLet : PySem.W.takesIn K (.builtin "object.__class__") = some true)
    (xmo_NotLet : PySem.W.mroIn K C_NotLet (.type "object") = some true)
    (xn_NotLet_at : PySem.W.findIn K (.ref C_NotLet) "at" = some none)
    (xn_NotLet_why : PySem.W.findIn K (.ref C_NotLet) "why" = some none)
    (xs_NotLet_NotLet : PySem.W.subIn K (.ref C_NotLet) (.ref C_NotLet) = some true)
    (ye_NotLet : PySem.W.subIn K (.ref C_NotLet) (.type "BaseException") = some true)
    (yh_NotLet : PySem.W.hasDictIn K C_NotLet = true)
    (yt_NotLet : PySem.W.typeIn K (.ref C_NotLet) = some (.type "type"))
    (xL_NoPlace : K.lookup C_NoPlace = some (excClassObj nm_NoPlace q_NoPlace C_NoPlace N_NoPlace bs_NoPlace [.type "IndexError", .type "LookupError", .type "Exception", .type "BaseException", .type "object"] true sn_NoPlace sub_NoPlace ab_NoPlace col_NoPlace dd_NoPlace m0_NoPlace m1_NoPlace m2_NoPlace m3_NoPlace m5_NoPlace "IndexError.__new__"))
    (xsa_NoPlace : PySem.W.findIn K (.ref C_NoPlace) "__setattr__" = some (some (.builtin "object.__setattr__")))
    (xe_NoPlace : PySem.W.subIn K (.ref C_NoPlace) (.type "BaseException") = some true)
    (xt_NoPlace : PySem.W.typeIn K (.ref C_NoPlace) = some (.type "type"))
    (xk_NoPlace : PySem.W.keepIn K (.ref C_NoPlace) = true)
    (xi_NoPlace : PySem.W.findIn K (.ref C_NoPlace) "__init__" = some (some (.ref f2)))
    (xga_NoPlace : PySem.W.findIn K (.ref C_NoPlace) "__getattribute__" = some (some (.builtin "BaseException.__getattribute__")))
    (xgg_NoPlace : PySem.W.findIn K (.ref C_NoPlace) "__getattr__" = some none)
    (xhd_NoPlace : PySem.W.hasDictIn K C_NoPlace = true)
    (xca_NoPlace : PySem.W.findIn K (.ref C_NoPlace) "__class__" = some (some (.builtin "object.__class__")))
    (xcg_NoPlace : PySem.W.specialIn K (.builtin "object.__class__") "__get__" = some (some (.builtin "getset_descriptor.__get__")))
    (xct_NoPlace : PySem.W.takesIn K (.builtin "object.__class__") = some true)
    (xmo_NoPlace : PySem.W.mroIn K C_NoPlace (.type "object") = some true)
    (xn_NoPlace_at : PySem.W.findIn K (.ref C_NoPlace) "at" = some none)
    (xs_NoPlace_NoPlace : PySem.W.subIn K (.ref C_NoPlace) (.ref C_NoPlace) = some true)
    (ye_NoPlace : PySem.W.subIn K (.ref C_NoPlace) (.type "BaseException") = some true)
    (yh_NoPlace : PySem.W.hasDictIn K C_NoPlace = true)
    (yt_NoPlace : PySem.W.typeIn K (.ref C_NoPlace) = some (.type "type"))
    (vV_IndexError : PySem.W.findCls K (.type "IndexError") (.type "type") "__init__" = some (.val (.builtin "IndexError.__init__")))
    (vV : PySem.W.findCls K (.type "ValueError") (.type "type") "__init__" = some (.val (.builtin "ValueError.__init__")))
    (cf1 : PySem.W.specialIn K (.ref C_PearlError) "__getattribute__" = some (some (.builtin "type.__getattribute__")))
    (cf2 : PySem.W.readsIn K C_PearlError (.type "type") = true)
    (cf3 : PySem.W.findCls K (.ref C_PearlError) (.type "type") "__init__" = some (.val (.ref f0)))
    (sx_NotLet : PySem.W.subIn K (.ref C_NotLet) (.ref C_NoPlace) = some false)
    (ki_ix : PySem.W.kitOne K (.ref C_NoPlace) (.type "IndexError") = some true)
    (bb_Bead : PySem.W.findIn K (.ref C_Bead) "__bool__" = some none)
    (bl_Bead : PySem.W.findIn K (.ref C_Bead) "__len__" = some none) :
    ∃ fd : FuncData, (∀ (s : Shared) (v : Value), BindsTo s fd ⟨[v], []⟩ [("_law_script", v)]) ∧ ∀ base : Heap, K.In base → base.Ns mainGlobals mg → FnOk l.prog w K mg base CX0 9 fa fd ["_law_script"] (spLaw K) := by
  have e := hfa.symm.trans (PySem.W.mg_of X G a39)
  cases e
  have F0 : FunD K "__init__" "PearlError.__init__" (defArgs s_PearlError_init) (defBody s_PearlError_init) (defScope s_PearlError_init) [.str ""] [] f0 (PySem.W.fnOf "__init__" "PearlError.__init__" (defArgs s_PearlError_init) (defBody s_PearlError_init) (defScope s_PearlError_init) (.ref T0) kV0 dc0 pm0 an0 cd0 ct0) := ⟨⟨_, _, _, _, _, _, _, _, _, _, rfl, l0, c0, .inr ⟨(fun z => nomatch z), _, _, _, _, rfl, d0, rfl, .cons ⟨_, rfl⟩ (.nil)⟩, .inl rfl⟩, k0⟩
  have F1 := fun_mk (st := s_NotLet_init) l1 c1 k1
  have F2 := fun_mk (st := s_NoPlace_init) l2 c2 k2
  have F3 := fun_mk (st := s_is_int) l3 c3 k3
  have F4 := fun_mk (st := s_is_whole) l4 c4 k4
  have F5 := fun_mk (st := s_is_from_nought) l5 c5 k5
  have F6 := fun_mk (st := s_is_name) l6 c6 k6
  have F7 := fun_mk (st := s_is_number) l7 c7 k7
  have F8 : FunD K "__init__" "Rule.__init__" (defArgs s_Rule_init) (defBody s_Rule_init) (defScope s_Rule_init) [.int 0, .int 10, .int 0, .bl true] [] f8 (PySem.W.fnOf "__init__" "Rule.__init__" (defArgs s_Rule_init) (defBody s_Rule_init) (defScope s_Rule_init) (.ref T8) kV8 dc8 pm8 an8 cd8 ct8) := ⟨⟨_, _, _, _, _, _, _, _, _, _, rfl, l8, c8, .inr ⟨(fun z => nomatch z), _, _, _, _, rfl, d8, rfl, .cons ⟨_, rfl⟩ (.cons ⟨_, rfl⟩ (.cons ⟨_, rfl⟩ (.cons rfl (.nil))))⟩, .inl rfl⟩, k8⟩
  have F9 := fun_mk (st := s_stands_ahead) l9 c9 k9
  have F10 := fun_mk (st := s_breaks_step) l10 c10 k10
  have F11 := fun_mk (st := s_partner_of) l11 c11 k11
  have F12 := fun_mk (st := s_same_look) l12 c12 k12
  have F13 := fun_mk (st := s_reason_at) l13 c13 k13
  have F14 := fun_mk (st := s_barred) l14 c14 k14
  have F15 := fun_mk (st := s_String_init) l15 c15 k15
  have F16 := fun_mk (st := s_String_beads) l16 c16 k16
  have F17 := fun_mk (st := s_String_gaps) l17 c17 k17
  have F18 := fun_mk (st := s_String_filled) l18 c18 k18
  have F19 := fun_mk (st := s_String_emptied) l19 c19 k19
  have F20 := fun_mk (st := s_String_changed_at) l20 c20 k20
  have F21 := fun_mk (st := s_is_measure) l21 c21 k21
  have F22 : FunD K "__init__" "Bead.__init__" (defArgs s_Bead_init) (defBody s_Bead_init) (defScope s_Bead_init) [.str "round", .bl false] [] f22 (PySem.W.fnOf "__init__" "Bead.__init__" (defArgs s_Bead_init) (defBody s_Bead_init) (defScope s_Bead_init) (.ref T22) kV22 dc22 pm22 an22 cd22 ct22) := ⟨⟨_, _, _, _, _, _, _, _, _, _, rfl, l22, c22, .inr ⟨(fun z => nomatch z), _, _, _, _, rfl, d22, rfl, .cons ⟨_, rfl⟩ (.cons rfl (.nil))⟩, .inl rfl⟩, k22⟩
  have F23 := fun_mk (st := s_Bead_row) l23 c23 k23
  have F24 := fun_mk (st := s_cell_at) l24 c24 k24
  have F25 := fun_mk (st := s_well) l25 c25 k25
  have F26 := fun_mk (st := s_draw) l26 c26 k26
  have F27 := fun_mk (st := s_one) l27 c27 k27
  have F28 := fun_mk (st := s_word) l28 c28 k28
  have F29 := fun_mk (st := s_rule) l29 c29 k29
  have F30 := fun_mk (st := s_near) l30 c30 k30
  have F31 := fun_mk (st := s_across) l31 c31 k31
  have F32 := fun_mk (st := s_rows) l32 c32 k32
  have F33 := fun_mk (st := s_bead) l33 c33 k33
  have F34 := fun_mk (st := s_step_bars) l34 c34 k34
  have F35 := fun_mk (st := s_why) l35 c35 k35
  have F36 := fun_mk (st := s_done) l36 c36 k36
  have F37 := fun_mk (st := s_due) l37 c37 k37
  have F38 := fun_mk (st := s_told) l38 c38 k38
  have F39 := fun_mk (st := s_law) l39 c39 k39
  have b0 : Binds K (PySem.W.fnOf "__init__" "PearlError.__init__" (defArgs s_PearlError_init) (defBody s_PearlError_init) (defScope s_PearlError_init) (.ref T0) kV0 dc0 pm0 an0 cd0 ct0) ["self", "why"] [] := by
    obtain ⟨ds, hv, hb⟩ := F0.binds1 (ps := ["self", "why"]) 2 1 (fun z => nomatch z) rfl fun _ _ _ _ _ _ _ us its h1 h2 => match us, its, h1, h2 with | [_, _], [_], _, _ => ⟨_, rfl, rfl⟩
    cases hv
    exact hb
  have b1 := F1.binds (ps := ["self", "at", "why"]) fun _ _ _ _ _ _ us hl => match us, hl with | [_, _, _], _ => rfl
  have b2 := F2.binds (ps := ["self", "at"]) fun _ _ _ _ _ _ us hl => match us, hl with | [_, _], _ => rfl
  have b3 := F3.binds (ps := ["thing"]) fun _ _ _ _ _ _ us hl => match us, hl with | [_], _ => rfl
  have b4 := F4.binds (ps := ["thing", "least", "most"]) fun _ _ _ _ _ _ us hl => match us, hl with | [_, _, _], _ => rfl
  have b5 := F5.binds (ps := ["thing"]) fun _ _ _ _ _ _ us hl => match us, hl with | [_], _ => rfl
  have b6 := F6.binds (ps := ["thing"]) fun _ _ _ _ _ _ us hl => match us, hl with | [_], _ => rfl
  have b7 := F7.binds (ps := ["thing"]) fun _ _ _ _ _ _ us hl => match us, hl with | [_], _ => rfl
  have b8 : Binds K (PySem.W.fnOf "__init__" "Rule.__init__" (defArgs s_Rule_init) (defBody s_Rule_init) (defScope s_Rule_init) (.ref T8) kV8 dc8 pm8 an8 cd8 ct8) ["self", "least", "most", "match", "shades"] [] := by
    obtain ⟨ds, hv, hb⟩ := F8.binds1 (ps := ["self", "least", "most", "match", "shades"]) 5 4 (fun z => nomatch z) rfl fun _ _ _ _ _ _ _ us its h1 h2 => match us, its, h1, h2 with | [_, _, _, _, _], [_, _, _, _], _, _ => ⟨_, rfl, rfl⟩
    cases hv
    exact hb
  have b9 := F9.binds (ps := ["beads", "at"]) fun _ _ _ _ _ _ us hl => match us, hl with | [_, _], _ => rfl
  have b10 := F10.binds (ps := ["beads", "at", "rule"]) fun _ _ _ _ _ _ us hl => match us, hl with | [_, _, _], _ => rfl
  have b11 := F11.binds (ps := ["beads", "at"]) fun _ _ _ _ _ _ us hl => match us, hl with | [_, _], _ => rfl
  have b12 := F12.binds (ps := ["bead", "other"]) fun _ _ _ _ _ _ us hl => match us, hl with | [_, _], _ => rfl
  have b13 := F13.binds (ps := ["beads", "at", "rule"]) fun _ _ _ _ _ _ us hl => match us, hl with | [_, _, _], _ => rfl
  have b14 := F14.binds (ps := ["beads", "rule"]) fun _ _ _ _ _ _ us hl => match us, hl with | [_, _], _ => rfl
  have b15 := F15.binds (ps := ["self", "beads", "rule"]) fun _ _ _ _ _ _ us hl => match us, hl with | [_, _, _], _ => rfl
  have b16 := F16.binds (ps := ["self"]) fun _ _ _ _ _ _ us hl => match us, hl with | [_], _ => rfl
  have b17 := F17.binds (ps := ["self"]) fun _ _ _ _ _ _ us hl => match us, hl with | [_], _ => rfl
  have b18 := F18.binds (ps := ["self", "at", "bead"]) fun _ _ _ _ _ _ us hl => match us, hl with | [_, _, _], _ => rfl
  have b19 := F19.binds (ps := ["self", "at"]) fun _ _ _ _ _ _ us hl => match us, hl with | [_, _], _ => rfl
  have b20 := F20.binds (ps := ["self", "at", "bead"]) fun _ _ _ _ _ _ us hl => match us, hl with | [_, _, _], _ => rfl
  have b21 := F21.binds (ps := ["thing"]) fun _ _ _ _ _ _ us hl => match us, hl with | [_], _ => rfl
  have b22 : Binds K (PySem.W.fnOf "__init__" "Bead.__init__" (defArgs s_Bead_init) (defBody s_Bead_init) (defScope s_Bead_init) (.ref T22) kV22 dc22 pm22 an22 cd22 ct22) ["self", "number", "across", "weight", "shade", "form", "drilled"] [] := by
    obtain ⟨ds, hv, hb⟩ := F22.binds1 (ps := ["self", "number", "across", "weight", "shade", "form", "drilled"]) 7 2 (fun z => nomatch z) rfl fun _ _ _ _ _ _ _ us its h1 h2 => match us, its, h1, h2 with | [_, _, _, _, _, _, _], [_, _], _, _ => ⟨_, rfl, rfl⟩
    cases hv
    exact hb
  have b23 := F23.binds (ps := ["self"]) fun _ _ _ _ _ _ us hl => match us, hl with | [_], _ => rfl
  have b24 := F24.binds (ps := ["_law_script", "_law_k"]) fun _ _ _ _ _ _ us hl => match us, hl with | [_, _], _ => rfl
  have b25 := F25.binds (ps := ["_law_cell"]) fun _ _ _ _ _ _ us hl => match us, hl with | [_], _ => rfl
  have b26 := F26.binds (ps := ["_law_well_here", "_law_many"]) fun _ _ _ _ _ _ us hl => match us, hl with | [_, _], _ => rfl
  have b27 := F27.binds (ps := ["_law_well_here", "_law_some"]) fun _ _ _ _ _ _ us hl => match us, hl with | [_, _], _ => rfl
  have b28 := F28.binds (ps := ["_law_well_here"]) fun _ _ _ _ _ _ us hl => match us, hl with | [_], _ => rfl
  have b29 := F29.binds (ps := ["_law_well_here"]) fun _ _ _ _ _ _ us hl => match us, hl with | [_], _ => rfl
  have b30 := F30.binds (ps := ["_law_well_here", "_law_low", "_law_top"]) fun _ _ _ _ _ _ us hl => match us, hl with | [_, _, _], _ => rfl
  have b31 := F31.binds (ps := ["_law_well_here", "_law_places", "_law_four"]) fun _ _ _ _ _ _ us hl => match us, hl with | [_, _, _], _ => rfl
  have b32 := F32.binds (ps := ["_law_well_here", "_law_places", "_law_four"]) fun _ _ _ _ _ _ us hl => match us, hl with | [_, _, _], _ => rfl
  have b33 := F33.binds (ps := ["_law_row"]) fun _ _ _ _ _ _ us hl => match us, hl with | [_], _ => rfl
  have b34 := F34.binds (ps := ["_law_rows_here", "_law_four", "_law_spot"]) fun _ _ _ _ _ _ us hl => match us, hl with | [_, _, _], _ => rfl
  have b35 := F35.binds (ps := ["_law_rows_here", "_law_four"]) fun _ _ _ _ _ _ us hl => match us, hl with | [_, _], _ => rfl
  have b36 := F36.binds (ps := ["_law_string", "_law_spot", "_law_row"]) fun _ _ _ _ _ _ us hl => match us, hl with | [_, _, _], _ => rfl
  have b37 := F37.binds (ps := ["_law_rows_here", "_law_spot", "_law_row", "_law_four"]) fun _ _ _ _ _ _ us hl => match us, hl with | [_, _, _, _], _ => rfl
  have b38 := F38.binds (ps := ["_law_string"]) fun _ _ _ _ _ _ us hl => match us, hl with | [_], _ => rfl
  let T : Tx K mg := ⟨C_Bead, ⟨pg_Bead, hd_Bead, po_Bead, sa_Bead⟩, PySem.W.mg_of X G aC_Bead, n_Bead_number, n_Bead_across, n_Bead_weight, n_Bead_shade, n_Bead_form, n_Bead_drilled,
    C_Rule, ⟨pg_Rule, hd_Rule, po_Rule, sa_Rule⟩, PySem.W.mg_of X G aC_Rule, n_Rule_least, n_Rule_most, n_Rule_match, n_Rule_shades,
    C_String, ⟨pg_String, hd_String, po_String, sa_String⟩, PySem.W.mg_of X G aC_String, n_String_held, n_String_rule,
    _, _, F0, b0,
    _, _, F1, b1,
    _, _, F2, b2,
    _, _, F3, PySem.W.mg_of X G a3, b3,
    _, _, F4, PySem.W.mg_of X G a4, b4,
    _, _, F5, PySem.W.mg_of X G a5, b5,
    _, _, F6, PySem.W.mg_of X G a6, b6,
    _, _, F7, PySem.W.mg_of X G a7, b7,
    _, _, F8, ⟨mk_Rule, a8, i8, kc_Rule⟩, b8,
    _, _, F9, PySem.W.mg_of X G a9, b9,
    _, _, F10, PySem.W.mg_of X G a10, b10,
    _, _, F11, PySem.W.mg_of X G a11, b11,
    _, _, F12, PySem.W.mg_of X G a12, b12,
    _, _, F13, PySem.W.mg_of X G a13, b13,
    _, _, F14, PySem.W.mg_of X G a14, b14,
    _, _, F15, ⟨mk_String, a15, i15, kc_String⟩, b15,
    _, _, F16, ⟨a16, i16, k16⟩, b16,
    _, _, F17, ⟨a17, i17, k17⟩, b17,
    _, _, F18, ⟨a18, i18, k18⟩, b18,
    _, _, F19, ⟨a19, i19, k19⟩, b19,
    _, _, F20, ⟨a20, i20, k20⟩, b20,
    _, _, F21, PySem.W.mg_of X G a21, b21,
    _, _, F22, ⟨mk_Bead, a22, i22, kc_Bead⟩, b22,
    _, _, F23, ⟨a23, i23, k23⟩, b23,
    _, _, F24, PySem.W.mg_of X G a24, b24,
    _, _, F25, PySem.W.mg_of X G a25, b25,
    _, _, F26, PySem.W.mg_of X G a26, b26,
    _, _, F27, PySem.W.mg_of X G a27, b27,
    _, _, F28, PySem.W.mg_of X G a28, b28,
    _, _, F29, PySem.W.mg_of X G a29, b29,
    _, _, F30, PySem.W.mg_of X G a30, b30,
    _, _, F31, PySem.W.mg_of X G a31, b31,
    _, _, F32, PySem.W.mg_of X G a32, b32,
    _, _, F33, PySem.W.mg_of X G a33, b33,
    _, _, F34, PySem.W.mg_of X G a34, b34,
    _, _, F35, PySem.W.mg_of X G a35, b35,
    _, _, F36, PySem.W.mg_of X G a36, b36,
    _, _, F37, PySem.W.mg_of X G a37, b37,
    _, _, F38, PySem.W.mg_of X G a38, b38,
    C_PearlError, PySem.W.mg_of X G aC_PearlError,
    C_BadBead, PySem.W.mg_of X G aC_BadBead,
    C_BadRule, PySem.W.mg_of X G aC_BadRule,
    C_NotLet, PySem.W.mg_of X G aC_NotLet,
    C_NoPlace, PySem.W.mg_of X G aC_NoPlace,
    ⟨⟨nm_NotLet, q_NotLet, N_NotLet, bs_NotLet, _, sn_NotLet, sub_NotLet, ab_NotLet, col_NotLet, dd_NotLet, m0_NotLet, m1_NotLet, m2_NotLet, m3_NotLet, m5_NotLet, xL_NotLet, rfl⟩, xsa_NotLet, xe_NotLet, xt_NotLet, xk_NotLet⟩,
    xi_NotLet, beq_iff_eq.mp i1,
    ⟨xga_NotLet, xgg_NotLet, xe_NotLet, xhd_NotLet, xca_NotLet, xcg_NotLet, xct_NotLet, xmo_NotLet⟩,
    xn_NotLet_at,
    xn_NotLet_why,
    PySem.W.exm_ref ye_NotLet yh_NotLet yt_NotLet xs_NotLet_NotLet,
    ⟨⟨nm_NoPlace, q_NoPlace, N_NoPlace, bs_NoPlace, _, sn_NoPlace, sub_NoPlace, ab_NoPlace, col_NoPlace, dd_NoPlace, m0_NoPlace, m1_NoPlace, m2_NoPlace, m3_NoPlace, m5_NoPlace, xL_NoPlace, rfl⟩, xsa_NoPlace, xe_NoPlace, xt_NoPlace, xk_NoPlace⟩,
    xi_NoPlace, beq_iff_eq.mp i2,
    ⟨xga_NoPlace, xgg_NoPlace, xe_NoPlace, xhd_NoPlace, xca_NoPlace, xcg_NoPlace, xct_NoPlace, xmo_NoPlace⟩,
    xn_NoPlace_at,
    PySem.W.exm_ref ye_NoPlace yh_NoPlace yt_NoPlace xs_NoPlace_NoPlace,
    vV_IndexError,
    vV,
    fun_kb F19 1 ["at"] [(0, 0), (2, 0)] fun _ _ _ _ _ _ us ws h1 h2 => match us, ws, h1, h2 with | [_], [_], _, _ => rfl,
    fun_kb F18 1 ["bead", "at"] [(0, 0), (2, 1), (2, 0)] fun _ _ _ _ _ _ us ws h1 h2 => match us, ws, h1, h2 with | [_], [_, _], _, _ => rfl,
    fun_kb F15 1 ["rule", "beads"] [(0, 0), (2, 1), (2, 0)] fun _ _ _ _ _ _ us ws h1 h2 => match us, ws, h1, h2 with | [_], [_, _], _, _ => rfl,
    ⟨cf1, cf2, cf3, k0⟩,
    PySem.W.exm_ref ye_NoPlace yh_NoPlace yt_NoPlace sx_NotLet,
    ki_ix,
    bb_Bead,
    bl_Bead,
    _, PySem.W.mg_of X G q0,
    _, PySem.W.mg_of X G q1,
    _, PySem.W.mg_of X G q4,
    PySem.W.mg_none_of X G z0,
    PySem.W.mg_none_of X G z1,
    PySem.W.mg_none_of X G z2,
    PySem.W.mg_none_of X G z3,
    PySem.W.mg_none_of X G z4,
    PySem.W.mg_none_of X G z5,
    PySem.W.mg_none_of X G z6,
    PySem.W.mg_none_of X G z7,
    PySem.W.mg_none_of X G z8,
    PySem.W.mg_none_of X G z9,
    PySem.W.mg_none_of X G z10,
    PySem.W.mg_none_of X G z11,
    PySem.W.mg_none_of X G z12,
    PySem.W.mg_none_of X G z13,
    PySem.W.mg_none_of X G z14⟩
  exact ⟨PySem.W.fnOf "law" "law" (defArgs s_law) (defBody s_law) (defScope s_law) .none kV39 dc39 pm39 an39 cd39 ct39, fun s v => .of_eq rfl, fun base _ _ => ok_law T F39⟩
end KB
open PySem PySem.W PyProof.Rows
set_option maxRecDepth 100000 in
set_option maxHeartbeats 0 in
theorem PySem.Challenge.cw_pearlrise_k24_whole_filled_and_emptied_holds : PySem.Challenge.rw_pearlrise_k24_whole_filled_and_emptied.Holds := by
  w_on; o_law; k_head; (case hw => w_witness2)
  k_fill
  refine L2.walk_of (l := PySem.Challenge.rw_pearlrise_k24_whole_filled_and_emptied) (n := 63) (k := 9) (x := "_law_script") (CX := fun _ => L2.CX0) (sp := fun w => KB.spLaw _) rfl (by decide) rfl ⟨rfl, by decide, by decide⟩ (fun w h Y => PySem.W.kIn_of Y) ?F (fun _ _ a ns hl _ hS => ⟨a, ns, rfl, hS, hl, fun _ => rfl⟩) (fun _ _ _ _ _ h => h)
  case F =>
    intro w mg fa h KX G hmg
    refine' KB.all_mk KX G hmg ?aC_Bead ?pg_Bead ?hd_Bead ?po_Bead ?sa_Bead ?mk_Bead ?kc_Bead ?n_Bead_number ?n_Bead_across ?n_Bead_weight ?n_Bead_shade ?n_Bead_form ?n_Bead_drilled ?aC_Rule ?pg_Rule ?hd_Rule ?po_Rule ?sa_Rule ?mk_Rule ?kc_Rule ?n_Rule_least ?n_Rule_most ?n_Rule_match ?n_Rule_shades ?aC_String ?pg_String ?hd_String ?po_String ?sa_String ?mk_String ?kc_String ?n_String_held ?n_String_rule ?aC_PearlError ?aC_BadBead ?aC_BadRule ?aC_NotLet ?aC_NoPlace ?a0 ?i0 ?l0 ?d0 ?c0 ?k0 ?a1 ?i1 ?l1 ?c1 ?k1 ?a2 ?i2 ?l2 ?c2 ?k2 ?a3 ?l3 ?c3 ?k3 ?a4 ?l4 ?c4 ?k4 ?a5 ?l5 ?c5 ?k5 ?a6 ?l6 ?c6 ?k6 ?a7 ?l7 ?c7 ?k7 ?a8 ?i8 ?l8 ?d8 ?c8 ?k8 ?a9 ?l9 ?c9 ?k9 ?a10 ?l10 ?c10 ?k10 ?a11 ?l11 ?c11 ?k11 ?a12 ?l12 ?c12 ?k12 ?a13 ?l13 ?c13 ?k13 ?a14 ?l14 ?c14 ?k14 ?a15 ?i15 ?l15 ?c15 ?k15 ?a16 ?i16 ?l16 ?c16 ?k16 ?a17 ?i17 ?l17 ?c17 ?k17 ?a18 ?i18 ?l18 ?c18 ?k18 ?a19 ?i19 ?l19 ?c19 ?k19 ?a20 ?i20 ?l20 ?c20 ?k20 ?a21 ?l21 ?c21 ?k21 ?a22 ?i22 ?l22 ?d22 ?c22 ?k22 ?a23 ?i23 ?l23 ?c23 ?k23 ?a24 ?l24 ?c24 ?k24 ?a25 ?l25 ?c25 ?k25 ?a26 ?l26 ?c26 ?k26 ?a27 ?l27 ?c27 ?k27 ?a28 ?l28 ?c28 ?k28 ?a29 ?l29 ?c29 ?k29 ?a30 ?l30 ?c30 ?k30 ?a31 ?l31 ?c31 ?k31 ?a32 ?l32 ?c32 ?k32 ?a33 ?l33 ?c33 ?k33 ?a34 ?l34 ?c34 ?k34 ?a35 ?l35 ?c35 ?k35 ?a36 ?l36 ?c36 ?k36 ?a37 ?l37 ?c37 ?k37 ?a38 ?l38 ?c38 ?k38 ?a39 ?l39 ?c39 ?k39 ?q0 ?q1 ?q4 ?z0 ?z1 ?z2 ?z3 ?z4 ?z5 ?z6 ?z7 ?z8 ?z9 ?z10 ?z11 ?z12 ?z13 ?z14 ?xL_NotLet ?xsa_NotLet ?xe_NotLet ?xt_NotLet ?xk_NotLet ?xi_NotLet ?xga_NotLet ?xgg_NotLet ?xhd_NotLet ?xca_NotLet ?xcg_NotLet ?xct_NotLet ?xmo_NotLet ?xn_NotLet_at ?xn_NotLet_why ?xs_NotLet_NotLet ?ye_NotLet ?yh_NotLet ?yt_NotLet ?xL_NoPlace ?xsa_NoPlace ?xe_NoPlace ?xt_NoPlace ?xk_NoPlace ?xi_NoPlace ?xga_NoPlace ?xgg_NoPlace ?xhd_NoPlace ?xca_NoPlace ?xcg_NoPlace ?xct_NoPlace ?xmo_NoPlace ?xn_NoPlace_at ?xs_NoPlace_NoPlace ?ye_NoPlace ?yh_NoPlace ?yt_NoPlace ?vV_IndexError ?vV ?cf1 ?cf2 ?cf3 ?sx_NotLet ?ki_ix ?bb_Bead ?bl_Bead
    (case aC_Bead => k_is)
    (case pg_Bead => k_is)
    (case hd_Bead => k_is)
    (case po_Bead => k_is)
    (case sa_Bead => k_is)
    (case mk_Bead => k_is)
    (case kc_Bead => k_is)
    (case n_Bead_number => k_is)
    (case n_Bead_across => k_is)
    (case n_Bead_weight => k_is)
    (case n_Bead_shade => k_is)
    (case n_Bead_form => k_is)
    (case n_Bead_drilled => k_is)
    (case aC_Rule => k_is)
    (case pg_Rule => k_is)
    (case hd_Rule => k_is)
    (case po_Rule => k_is)
    (case sa_Rule => k_is)
    (case mk_Rule => k_is)
    (case kc_Rule => k_is)
    (case n_Rule_least => k_is)
    (case n_Rule_most => k_is)
    (case n_Rule_match => k_is)
    (case n_Rule_shades => k_is)
    (case aC_String => k_is)
    (case pg_String => k_is)
    (case hd_String => k_is)
    (case po_String => k_is)
    (case sa_String => k_is)
    (case mk_String => k_is)
    (case kc_String => k_is)
    (case n_String_held => k_is)
    (case n_String_rule => k_is)
    (case aC_PearlError => k_is)
    (case aC_BadBead => k_is)
    (case aC_BadRule => k_is)
    (case aC_NotLet => k_is)
    (case aC_NoPlace => k_is)
    (case a0 => k_is)
    (case i0 => k_is)
    (case l0 => k_is)
    (case d0 => k_is)
    (case c0 => k_is)
    (case k0 => k_is)
    (case a1 => k_is)
    (case i1 => k_is)
    (case l1 => k_is)
    (case c1 => k_is)
    (case k1 => k_is)
    (case a2 => k_is)
    (case i2 => k_is)
    (case l2 => k_is)
    (case c2 => k_is)
    (case k2 => k_is)
    (case a3 => k_is)
    (case l3 => k_is)
    (case c3 => k_is)
    (case k3 => k_is)
    (case a4 => k_is)
    (case l4 => k_is)
    (case c4 => k_is)
    (case k4 => k_is)
    (case a5 => k_is)
    (case l5 => k_is)
    (case c5 => k_is)
    (case k5 => k_is)
    (case a6 => k_is)
    (case l6 => k_is)
    (case c6 => k_is)
    (case k6 => k_is)
    (case a7 => k_is)
    (case l7 => k_is)
    (case c7 => k_is)
    (case k7 => k_is)
    (case a8 => k_is)
    (case i8 => k_is)
    (case l8 => k_is)
    (case d8 => k_is)
    (case c8 => k_is)
    (case k8 => k_is)
    (case a9 => k_is)
    (case l9 => k_is)
    (case c9 => k_is)
    (case k9 => k_is)
    (case a10 => k_is)
    (case l10 => k_is)
    (case c10 => k_is)
    (case k10 => k_is)
    (case a11 => k_is)
    (case l11 => k_is)
    (case c11 => k_is)
    (case k11 => k_is)
    (case a12 => k_is)
    (case l12 => k_is)
    (case c12 => k_is)
    (case k12 => k_is)
    (case a13 => k_is)
    (case l13 => k_is)
    (case c13 => k_is)
    (case k13 => k_is)
    (case a14 => k_is)
    (case l14 => k_is)
    (case c14 => k_is)
    (case k14 => k_is)
    (case a15 => k_is)
    (case i15 => k_is)
    (case l15 => k_is)
    (case c15 => k_is)
    (case k15 => k_is)
    (case a16 => k_is)
    (case i16 => k_is)
    (case l16 => k_is)
    (case c16 => k_is)
    (case k16 => k_is)
    (case a17 => k_is)
    (case i17 => k_is)
    (case l17 => k_is)
    (case c17 => k_is)
    (case k17 => k_is)
    (case a18 => k_is)
    (case i18 => k_is)
    (case l18 => k_is)
    (case c18 => k_is)
    (case k18 => k_is)
    (case a19 => k_is)
    (case i19 => k_is)
    (case l19 => k_is)
    (case c19 => k_is)
    (case k19 => k_is)
    (case a20 => k_is)
    (case i20 => k_is)
    (case l20 => k_is)
    (case c20 => k_is)
    (case k20 => k_is)
    (case a21 => k_is)
    (case l21 => k_is)
    (case c21 => k_is)
    (case k21 => k_is)
    (case a22 => k_is)
    (case i22 => k_is)
    (case l22 => k_is)
    (case d22 => k_is)
    (case c22 => k_is)
    (case k22 => k_is)
    (case a23 => k_is)
    (case i23 => k_is)
    (case l23 => k_is)
    (case c23 => k_is)
    (case k23 => k_is)
    (case a24 => k_is)
    (case l24 => k_is)
    (case c24 => k_is)
    (case k24 => k_is)
    (case a25 => k_is)
    (case l25 => k_is)
    (case c25 => k_is)
    (case k25 => k_is)
    (case a26 => k_is)
    (case l26 => k_is)
    (case c26 => k_is)
    (case k26 => k_is)
    (case a27 => k_is)
    (case l27 => k_is)
    (case c27 => k_is)
    (case k27 => k_is)
    (case a28 => k_is)
    (case l28 => k_is)
    (case c28 => k_is)
    (case k28 => k_is)
    (case a29 => k_is)
    (case l29 => k_is)
    (case c29 => k_is)
    (case k29 => k_is)
    (case a30 => k_is)
    (case l30 => k_is)
    (case c30 => k_is)
    (case k30 => k_is)
    (case a31 => k_is)
    (case l31 => k_is)
    (case c31 => k_is)
    (case k31 => k_is)
    (case a32 => k_is)
    (case l32 => k_is)
    (case c32 => k_is)
    (case k32 => k_is)
    (case a33 => k_is)
    (case l33 => k_is)
    (case c33 => k_is)
    (case k33 => k_is)
    (case a34 => k_is)
    (case l34 => k_is)
    (case c34 => k_is)
    (case k34 => k_is)
    (case a35 => k_is)
    (case l35 => k_is)
    (case c35 => k_is)
    (case k35 => k_is)
    (case a36 => k_is)
    (case l36 => k_is)
    (case c36 => k_is)
    (case k36 => k_is)
    (case a37 => k_is)
    (case l37 => k_is)
    (case c37 => k_is)
    (case k37 => k_is)
    (case a38 => k_is)
    (case l38 => k_is)
    (case c38 => k_is)
    (case k38 => k_is)
    (case a39 => k_is)
    (case l39 => k_is)
    (case c39 => k_is)
    (case k39 => k_is)
    (case q0 => k_is)
    (case q1 => k_is)
    (case q4 => k_is)
    (case z0 => k_is)
    (case z1 => k_is)
    (case z2 => k_is)
    (case z3 => k_is)
    (case z4 => k_is)
    (case z5 => k_is)
    (case z6 => k_is)
    (case z7 => k_is)
    (case z8 => k_is)
    (case z9 => k_is)
    (case z10 => k_is)
    (case z11 => k_is)
    (case z12 => k_is)
    (case z13 => k_is)
    (case z14 => k_is)
    (case xL_NotLet => k_is)
    (case xsa_NotLet => k_is)
    (case xe_NotLet => k_is)
    (case xt_NotLet => k_is)
    (case xk_NotLet => k_is)
    (case xi_NotLet => k_is)
    (case xga_NotLet => k_is)
    (case xgg_NotLet => k_is)
    (case xhd_NotLet => k_is)
    (case xca_NotLet => k_is)
    (case xcg_NotLet => k_is)
    (case xct_NotLet => k_is)
    (case xmo_NotLet => k_is)
    (case xn_NotLet_at => k_is)
    (case xn_NotLet_why => k_is)
    (case xs_NotLet_NotLet => k_is)
    (case ye_NotLet => k_is)
    (case yh_NotLet => k_is)
    (case yt_NotLet => k_is)
    (case xL_NoPlace => k_is)
    (case xsa_NoPlace => k_is)
    (case xe_NoPlace => k_is)
    (case xt_NoPlace => k_is)
    (case xk_NoPlace => k_is)
    (case xi_NoPlace => k_is)
    (case xga_NoPlace => k_is)
    (case xgg_NoPlace => k_is)
    (case xhd_NoPlace => k_is)
    (case xca_NoPlace => k_is)
    (case xcg_NoPlace => k_is)
    (case xct_NoPlace => k_is)
    (case xmo_NoPlace => k_is)
    (case xn_NoPlace_at => k_is)
    (case xs_NoPlace_NoPlace => k_is)
    (case ye_NoPlace => k_is)
    (case yh_NoPlace => k_is)
    (case yt_NoPlace => k_is)
    (case vV_IndexError => k_is)
    (case vV => k_is)
    (case cf1 => k_is)
    (case cf2 => k_is)
    (case cf3 => k_is)
    (case sx_NotLet => k_is)
    (case ki_ix => kit_is)
    (case bb_Bead => k_is)
    (case bl_Bead => k_is)
