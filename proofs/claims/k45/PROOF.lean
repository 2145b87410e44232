import PyProof.Rows.All
import Wide.All
import OpenK.AllK
import Wide.FinOn
import HandS.ForMost
import HandS.IsInst
import HandS.Wide
import HandS.Walk
import HandS.TupAny
import HandS.Style
import HandS.Defaults
import HandS.MakeKw
import KE.IntTextLaws
import HandS.OwnEq
import HandS.ExcInit
import HandS.ExcField
import HandS.ExcIs
import HandS.ExcOwn
import HandS.WordsExc
import KE.KExcIs
import HandS.MakeKwOnly
import KE.KExcInit
import HandS.FStr
import PyProof.InstSpecial
import PyProof.FString2
import KE.KCallOwn
import HandS.FStrTup
import HandS.Deep
import HandS.SetFor
import HandS.Strs
import PyProof.ReprRoads
import HandS.Conv
import PyProof.Conv_bool
import HandS.DictSub
import HandS.Ends
import HandS.Iter
import KE.GoesEnum
import HandS.NoneIn
import HandS.StrMore
import PySem.Challenge.RW_pearlrise_k45_lots_made_and_shown
set_option Elab.async false
set_option linter.all false
set_option maxRecDepth 100000
set_option maxHeartbeats 4000000
namespace KA
open PySem PySem.Spec PyProof.Rows L2
/-! ### heaps -/
theorem same_upd {H : Hp} {p : Addr} {o : HO} (h : H p = none) : Same H (upd H p o) := fun b x e => by
  rw [upd_ne (ne_of_none e h)]
  exact e
/-- all but what stands at d is as it was -/
def But (d : Addr) (H H' : Hp) : Prop := ∀ b o, b ≠ d → H b = some o → H' b = some o
theorem But.refl (d : Addr) (H : Hp) : But d H H := fun _ _ _ h => h
theorem But.trans {d : Addr} {H H1 H2 : Hp} (a : But d H H1) (b : But d H1 H2) : But d H H2 := fun c o n h => b c o n (a c o n h)
theorem But.of {d : Addr} {H H' : Hp} (s : Same H H') : But d H H' := fun b o _ h => s b o h
theorem But.at_ {d : Addr} {H : Hp} {o : HO} : But d H (upd H d o) := fun b x n h => by
  rw [upd_ne n]
  exact h
theorem But.new {d p : Addr} {H : Hp} {o : HO} (h : H p = none) : But d H (upd H p o) := But.of (same_upd h)
theorem But.same {d : Addr} {H0 H H' : Hp} (h0 : H0 d = none) (s : Same H0 H) (b : But d H H') : Same H0 H' := fun c o h => b c o (ne_of_none h h0) (s c o h)
theorem But.mut {d : Addr} {H0 H : Hp} {o : HO} {p : Addr} (b : But d H0 H) (h : H0 p = none) : But d H0 (upd H p o) := fun c x n e => by
  rw [upd_ne (ne_of_none e h)]
  exact b c x n e
theorem But.free {d p : Addr} {H H' : Hp} (b : But d H H') (n : p ≠ d) (h : H' p = none) : H p = none := by
  cases q : H p with
  | none => rfl
  | some o =>
    rw [b p o n q] at h
    cases h
theorem but_seq {K : PySem.W.Frag} {d a : Addr} {H H' : Hp} {xs : List V} (b : But d H H') (n : a ≠ d) (h : SqL K H a xs) : SqL K H' a xs := by
  rcases h with (h | ⟨o, h⟩) | h
  · exact .inl (.inl (b _ _ n h))
  · exact .inl (.inr ⟨o, b _ _ n h⟩)
  · exact .inr h
/-- the draws' list at d, its counter at most n -/
def Dr (P : Int → Prop) (d : Addr) (n : Nat) (H : Hp) : Prop := ∃ a b c : Int, H d = some (.lst [.int a, .int b, .int c]) ∧ P b ∧ 0 ≤ c ∧ c ≤ n
theorem Dr.same {P : Int → Prop} {d : Addr} {n : Nat} {H H' : Hp} (h : Dr P d n H) (s : Same H H') : Dr P d n H' := by
  obtain ⟨a, b, c, e, r⟩ := h
  exact ⟨a, b, c, s _ _ e, r⟩
theorem Dr.ne {P : Int → Prop} {d p : Addr} {n : Nat} {H : Hp} (h : Dr P d n H) (e : H p = none) : p ≠ d := by
  obtain ⟨a, b, c, z, _⟩ := h
  exact (ne_of_none z e).symm
theorem Dr.mono {P : Int → Prop} {d : Addr} {n m : Nat} {H : Hp} (h : Dr P d n H) (e : n ≤ m) : Dr P d m H := by
  obtain ⟨a, b, c, z, h1, h3, h4⟩ := h
  exact ⟨a, b, c, z, h1, h3, by omega⟩
theorem Dr.upd {P : Int → Prop} {d p : Addr} {n : Nat} {H : Hp} {o : HO} (h : Dr P d n H) (e : p ≠ d) : Dr P d n (L2.upd H p o) := by
  obtain ⟨a, b, c, z, r⟩ := h
  exact ⟨a, b, c, by rw [upd_ne e.symm]; exact z, r⟩
theorem yesT {σ : L2.St} {H : Hp} {A B : Hp → Prop} (h : A H) : tYes σ H (fun b H3 => if b = true then A H3 else B H3) := by
  show if true = true then A H else B H
  exact iteT h
/-! ### what is no own object -/
inductive Th (K : PySem.W.Frag) (H : Hp) : V → Prop
  | int (i : Int) : Th K H (.int i)
  | bl (b : Bool) : Th K H (.bl b)
  | str (z : Str) : Th K H (.str z)
  | non : Th K H .non
  | lst {a : Addr} (h : TyX K H (.ref a) (.type "list")) : Th K H (.ref a)
  | tup {a : Addr} (h : TyX K H (.ref a) (.type "tuple")) : Th K H (.ref a)
  | dct {a : Addr} (h : TyX K H (.ref a) (.type "dict")) : Th K H (.ref a)
def isI : V → Bool
  | .int _ => true
  | _ => false
def isB : V → Bool
  | .bl _ => true
  | _ => false
def isS : V → Bool
  | .str _ => true
  | _ => false
theorem isi_int {K : PySem.W.Frag} {H : Hp} {v : V} (h : Th K H v) : ∃ t, TyX K H v t ∧ PySem.W.kitOne K t (.type "int") = some (isI v || isB v) := by
  cases h with
  | int i => exact ⟨_, .base (.int i), kit_ty (r := true) (by decide +kernel)⟩
  | bl b => exact ⟨_, .base (.bl b), kit_ty (r := true) (by decide +kernel)⟩
  | str z => exact ⟨_, .base (.str z), kit_ty (r := false) (by decide +kernel)⟩
  | non => exact ⟨_, .base .non, kit_ty (r := false) (by decide +kernel)⟩
  | lst h => exact ⟨_, h, kit_ty (r := false) (by decide +kernel)⟩
  | tup h => exact ⟨_, h, kit_ty (r := false) (by decide +kernel)⟩
  | dct h => exact ⟨_, h, kit_ty (r := false) (by decide +kernel)⟩
theorem isi_bool {K : PySem.W.Frag} {H : Hp} {v : V} (h : Th K H v) : ∃ t, TyX K H v t ∧ PySem.W.kitOne K t (.type "bool") = some (isB v) := by
  cases h with
  | int i => exact ⟨_, .base (.int i), kit_ty (r := false) (by decide +kernel)⟩
  | bl b => exact ⟨_, .base (.bl b), kit_ty (r := true) (by decide +kernel)⟩
  | str z => exact ⟨_, .base (.str z), kit_ty (r := false) (by decide +kernel)⟩
  | non => exact ⟨_, .base .non, kit_ty (r := false) (by decide +kernel)⟩
  | lst h => exact ⟨_, h, kit_ty (r := false) (by decide +kernel)⟩
  | tup h => exact ⟨_, h, kit_ty (r := false) (by decide +kernel)⟩
  | dct h => exact ⟨_, h, kit_ty (r := false) (by decide +kernel)⟩
theorem isi_str {K : PySem.W.Frag} {H : Hp} {v : V} (h : Th K H v) : ∃ t, TyX K H v t ∧ PySem.W.kitOne K t (.type "str") = some (isS v) := by
  cases h with
  | int i => exact ⟨_, .base (.int i), kit_ty (r := false) (by decide +kernel)⟩
  | bl b => exact ⟨_, .base (.bl b), kit_ty (r := false) (by decide +kernel)⟩
  | str z => exact ⟨_, .base (.str z), kit_ty (r := true) (by decide +kernel)⟩
  | non => exact ⟨_, .base .non, kit_ty (r := false) (by decide +kernel)⟩
  | lst h => exact ⟨_, h, kit_ty (r := false) (by decide +kernel)⟩
  | tup h => exact ⟨_, h, kit_ty (r := false) (by decide +kernel)⟩
  | dct h => exact ⟨_, h, kit_ty (r := false) (by decide +kernel)⟩
/-! ### signs -/
def lower (c : Nat) : Bool := decide (97 ≤ c) && decide (c ≤ 122)
def figure (c : Nat) : Bool := decide (48 ≤ c) && decide (c ≤ 57)
theorem sgl_lt (a b : Nat) : (([a] : List Nat) < [b]) ↔ a < b := by
  rw [List.cons_lt_cons_iff]
  simp
theorem ge_a (c : Nat) : (!decide ((⟨#[c]⟩ : Str).cps.toList < ("a" : Str).cps.toList)) = decide (97 ≤ c) := by
  have e : ("a" : Str).cps.toList = [97] := by decide +kernel
  rw [e]
  show (!decide ([c] < [97])) = _
  rw [decide_eq_decide.mpr (sgl_lt c 97), ← decide_not, decide_eq_decide]
  omega
theorem le_z (c : Nat) : (!decide (("z" : Str).cps.toList < (⟨#[c]⟩ : Str).cps.toList)) = decide (c ≤ 122) := by
  have e : ("z" : Str).cps.toList = [122] := by decide +kernel
  rw [e]
  show (!decide ([122] < [c])) = _
  rw [decide_eq_decide.mpr (sgl_lt 122 c), ← decide_not, decide_eq_decide]
  omega
theorem in_az (c : Nat) : decide (c ∈ ("abcdefghijklmnopqrstuvwxyz" : Str).cps.toList) = lower c := by
  have e : ("abcdefghijklmnopqrstuvwxyz" : Str).cps.toList = (List.range 26).map (· + 97) := by decide +kernel
  unfold lower
  rw [e, ← Bool.decide_and, decide_eq_decide, List.mem_map]
  constructor
  · rintro ⟨a, ha, rfl⟩
    rw [List.mem_range] at ha
    omega
  · intro h
    exact ⟨c - 97, List.mem_range.mpr (by omega), by omega⟩
theorem in_09 (c : Nat) : decide (c ∈ ("0123456789" : Str).cps.toList) = figure c := by
  have e : ("0123456789" : Str).cps.toList = (List.range 10).map (· + 48) := by decide +kernel
  unfold figure
  rw [e, ← Bool.decide_and, decide_eq_decide, List.mem_map]
  constructor
  · rintro ⟨a, ha, rfl⟩
    rw [List.mem_range] at ha
    omega
  · intro h
    exact ⟨c - 48, List.mem_range.mpr (by omega), by omega⟩
/-! ### numbers by figures -/
open NumText TL
theorem fold_lt : ∀ (cs : List Nat) (a : Nat), AllDigits cs → a * 10 ^ cs.length ≤ cs.foldl (fun acc c => acc * 10 + (c - 48)) a ∧ cs.foldl (fun acc c => acc * 10 + (c - 48)) a < (a + 1) * 10 ^ cs.length
  | [], a, _ => by simp
  | c :: cs, a, h => by
    have hc := h.head
    have ih := fold_lt cs (a * 10 + (c - 48)) h.tail
    rw [List.foldl_cons, List.length_cons, Nat.pow_succ]
    have p : 0 < 10 ^ cs.length := Nat.pos_of_ne_zero (by simp)
    generalize 10 ^ cs.length = q at *
    refine ⟨Nat.le_trans ?_ ih.1, Nat.lt_of_lt_of_le ih.2 ?_⟩
    · have : a * (q * 10) = (a * 10) * q := by rw [Nat.mul_comm q 10, ← Nat.mul_assoc]
      rw [this]
      exact Nat.mul_le_mul_right q (by omega)
    · have : (a + 1) * (q * 10) = ((a + 1) * 10) * q := by rw [Nat.mul_comm q 10, ← Nat.mul_assoc]
      rw [this]
      exact Nat.mul_le_mul_right q (by omega)
theorem val_lt {cs : List Nat} (h : AllDigits cs) : digitsVal cs < 10 ^ cs.length := by
  have := (fold_lt cs 0 h).2
  rw [Nat.zero_add, Nat.one_mul] at this
  exact this
theorem val_ge {c : Nat} {cs : List Nat} (h : AllDigits (c :: cs)) (hc : c ≠ 48) : 10 ^ cs.length ≤ digitsVal (c :: cs) := by
  have h1 := h.head
  have := (fold_lt cs (0 * 10 + (c - 48)) h.tail).1
  refine Nat.le_trans ?_ this
  have : 1 * 10 ^ cs.length ≤ (0 * 10 + (c - 48)) * 10 ^ cs.length := Nat.mul_le_mul_right _ (by omega)
  omega
theorem val_zero {cs : List Nat} : digitsVal (48 :: cs) = digitsVal cs := rfl
/-- the figures of a number have as many signs as the word just where it has no nought ahead of others -/
theorem len_canon {c : Nat} {cs : List Nat} (h : AllDigits (c :: cs)) : (numL (digitsVal (c :: cs))).length = (c :: cs).length ↔ ¬ (c = 48 ∧ 1 < (c :: cs).length) := by
  constructor
  · rintro e ⟨rfl, hl⟩
    rw [val_zero] at e
    rw [List.length_cons] at e hl
    have := numL_len (n := digitsVal cs) (k := cs.length) (by omega) (val_lt h.tail)
    omega
  · intro hn
    by_cases hc : c = 48
    · subst hc
      have : cs = [] := by
        cases cs with
        | nil => rfl
        | cons d r =>
          exact absurd ⟨rfl, by rw [List.length_cons, List.length_cons]; omega⟩ hn
      subst this
      rw [val_zero]
      show (numL 0).length = 1
      rw [numL_lt (by decide)]
      rfl
    · have u := numL_len (n := digitsVal (c :: cs)) (k := (c :: cs).length) (by rw [List.length_cons]; omega) (val_lt h)
      have l := val_ge h hc
      have v := val_lt (numL_digits (digitsVal (c :: cs)))
      rw [numL_val] at v
      have w : 10 ^ cs.length < 10 ^ (numL (digitsVal (c :: cs))).length := Nat.lt_of_le_of_lt l v
      have := (Nat.pow_lt_pow_iff_right (by decide : 1 < 10)).mp w
      rw [List.length_cons] at *
      omega
/-- words of figures of one length and one worth are one -/
theorem fold_inj : ∀ (cs ds : List Nat) (a b : Nat), AllDigits cs → AllDigits ds → cs.length = ds.length → cs.foldl (fun acc c => acc * 10 + (c - 48)) a = ds.foldl (fun acc c => acc * 10 + (c - 48)) b → a = b ∧ cs = ds
  | [], [], a, b, _, _, _, e => ⟨e, rfl⟩
  | [], _ :: _, _, _, _, _, l, _ => by simp at l
  | _ :: _, [], _, _, _, _, l, _ => by simp at l
  | c :: cs, d :: ds, a, b, h1, h2, l, e => by
    have q := fold_inj cs ds (a * 10 + (c - 48)) (b * 10 + (d - 48)) h1.tail h2.tail (by simpa using l) e
    have hc := h1.head
    have hd := h2.head
    have e1 := q.1
    have : a = b ∧ c = d := by omega
    exact ⟨this.1, by rw [this.2, q.2]⟩
theorem canon_eq {c : Nat} {cs : List Nat} (h : AllDigits (c :: cs)) (hn : ¬ (c = 48 ∧ 1 < (c :: cs).length)) : numL (digitsVal (c :: cs)) = c :: cs :=
  (fold_inj _ _ 0 0 (numL_digits _) h ((len_canon h).mpr hn) (numL_val _)).2
section
variable {X : Cx}
/-- a text many times -/
def timesS (z : Str) (n : Nat) : Str := ⟨(List.replicate n z.cps).foldl (· ++ ·) #[]⟩
theorem times_fold (c : Nat) : ∀ (n : Nat) (a : Array Nat), ((List.replicate n #[c]).foldl (· ++ ·) a).toList = a.toList ++ List.replicate n c
  | 0, a => by simp
  | n + 1, a => by
    rw [List.replicate_succ, List.foldl_cons, times_fold c n (a ++ #[c]), Array.toList_append, List.append_assoc]
    rfl
theorem times_list {z : Str} {c n : Nat} (h : z.cps = #[c]) : (timesS z n).cps.toList = List.replicate n c := by
  unfold timesS
  show ((List.replicate n z.cps).foldl (· ++ ·) #[]).toList = _
  rw [h, times_fold c n #[]]
  rfl
theorem times_len {z : Str} {c n : Nat} (h : z.cps = #[c]) : (timesS z n).length = n := by
  show (timesS z n).cps.size = n
  rw [← Array.length_toList, times_list h, List.length_replicate]
theorem op_mulS : OpR X (binaryOp .Mult) (fun x y H Q => ∃ (z : Str) (k : Int), x = .str z ∧ y = .int k ∧ 2 ≤ k ∧ k ≤ 100000 ∧ (∃ c, z.cps = #[c]) ∧ Q (.str (timesS z k.toNat)) H) := by
  intro pins s σ H x y v u Q I rx ry h
  obtain ⟨z, k, rfl, rfl, h2, h3, ⟨c, hc⟩, q⟩ := h
  have hz : z.length = 1 := by
    show z.cps.size = 1
    rw [hc]
    rfl
  obtain ⟨t, rfl⟩ := rx
  obtain ⟨t', rfl⟩ := ry
  refine PySem.P.mul_str ?_ ?_ ?_ ?_
  · rw [decide_eq_false (by omega), decide_eq_false (by omega)]
    rfl
  · intro _ _
    rw [hz]
    have : (1 : Int) ≤ (2 ^ 63 - 1) / k := by
      have : (2 ^ 63 - 1 : Int) / k ≥ 1 := (Int.le_ediv_iff_mul_le (by omega)).mpr (by omega)
      exact this
    omega
  · intro _ _
    rw [hz]
    exact decide_eq_false (by
      have : (100000 : Nat) ≤ sizeLine := by decide
      show ¬ _ > _
      omega)
  · have hk1 : (k == 1) = false := by
      rw [beq_eq_false_iff_ne]
      omega
    rw [if_neg (by omega), if_neg (by rw [hk1, hz]; decide)]
    refine ⟨?_, ⟨.str (timesS z k.toNat), H, I.tok _, ⟨_, rfl⟩, q⟩⟩
    have e := times_len (n := k.toNat) hc
    have : (100000 : Nat) ≤ sizeLine := by decide
    show (timesS z k.toNat).length ≤ sizeLine
    omega
end

/-! ### comprehensions over a text -/
/-- [truth of each sign] -/
theorem lc_all {z : Str} {H : Hp} {D : Addr} (hD : H D = none) (hz : z.length ≤ 100000) (f : Nat → Bool) {g : TG} {tt : TT} {te : TE} {vs : List Nat} {σ : L2.St} {Qd : Hp → Prop}
    (turn : ∀ (c : Nat) (H2 : Hp) (R : V → Hp → Prop) (C : Hp → Prop), Same H H2 → R (.bl (f c)) H2 → g (.str ⟨#[c]⟩) (wipe σ vs) H2 fun σ2 H2 => wipe σ2 vs = wipe σ vs ∧ tt σ2 H2 fun b H3 => if b = true then te σ2 H3 R else C H3)
    (fin : ∀ H', Same H H' → H' D = some (.lst ((z.cps.toList.map f).map V.bl)) → Qd H') :
    ∃ W : Nat → Nat → Hp → Prop, (∃ m, W 0 m (upd H D (.lst []))) ∧ ∀ i m H, W i m H →
      ((Its z).stop i H ∧ Qd H) ∨ ((Its z).go i H ∧ ∃ Nx : Hp → Prop, (∀ H', Nx H' → ∃ m', m' < m ∧ W (i + 1) m' H') ∧ ∀ x H', (Its z).yld i H x H' → g x (wipe σ vs) H' fun σ2 H2 => wipe σ2 vs = wipe σ vs ∧ tt σ2 H2 fun b H3 =>
        if b = true then te σ2 H3 fun y H4 => ∃ acc, H4 D = some (.lst acc) ∧ acc.length < sizeLine ∧ Nx (upd H4 D (.lst (acc ++ [y]))) else Nx H3) := by
  have hzl : z.length ≤ sizeLine := Nat.le_trans hz (by decide)
  refine lc_it walk_str (fun i H' => Same H H' ∧ H' D = some (.lst (((z.cps.toList.take i).map f).map V.bl))) ⟨same_upd hD, upd_same⟩ (fun _ _ _ _ => trivial) ?_ ?_
  · rintro i x H1 H2 hi ⟨s1, e1⟩ ⟨rfl, c, hc, rfl⟩
    refine turn c _ _ _ s1 ?_
    have hc' : z.cps.toList[i]? = some c := by rw [Array.getElem?_toList]; exact hc
    refine ⟨_, e1, ?_, fun b o h => ?_, ?_⟩
    · rw [List.length_map, List.length_map, List.length_take]
      exact Nat.lt_of_le_of_lt (Nat.min_le_left _ _) (Nat.lt_of_lt_of_le hi hzl)
    · rw [upd_ne (ne_of_none h hD)]
      exact s1 _ _ h
    · rw [upd_same, List.take_add_one, hc', List.map_append, List.map_append]
      rfl
  · rintro H' ⟨s1, e1⟩
    have ef : z.cps.toList.take z.cps.size = z.cps.toList := List.take_of_length_le (by rw [Array.length_toList]; exact Nat.le_refl _)
    rw [ef] at e1
    exact fin H' s1 e1
def sg (c : Nat) : V := .str ⟨#[c]⟩
/-- [sign for sign in text if ..] -/
theorem lc_filter {z : Str} {H : Hp} {D : Addr} (hD : H D = none) (hz : z.length ≤ 100000) (f : Nat → Bool) {g : TG} {tt : TT} {te : TE} {vs : List Nat} {σ : L2.St} {Qd : Hp → Prop}
    (turn : ∀ (c : Nat) (H2 : Hp) (R : V → Hp → Prop) (C : Hp → Prop), Same H H2 → (f c = true → R (sg c) H2) → (f c = false → C H2) → g (.str ⟨#[c]⟩) (wipe σ vs) H2 fun σ2 H2 => wipe σ2 vs = wipe σ vs ∧ tt σ2 H2 fun b H3 => if b = true then te σ2 H3 R else C H3)
    (fin : ∀ H', Same H H' → H' D = some (.lst ((z.cps.toList.filter f).map sg)) → Qd H') :
    ∃ W : Nat → Nat → Hp → Prop, (∃ m, W 0 m (upd H D (.lst []))) ∧ ∀ i m H, W i m H →
      ((Its z).stop i H ∧ Qd H) ∨ ((Its z).go i H ∧ ∃ Nx : Hp → Prop, (∀ H', Nx H' → ∃ m', m' < m ∧ W (i + 1) m' H') ∧ ∀ x H', (Its z).yld i H x H' → g x (wipe σ vs) H' fun σ2 H2 => wipe σ2 vs = wipe σ vs ∧ tt σ2 H2 fun b H3 =>
        if b = true then te σ2 H3 fun y H4 => ∃ acc, H4 D = some (.lst acc) ∧ acc.length < sizeLine ∧ Nx (upd H4 D (.lst (acc ++ [y]))) else Nx H3) := by
  have hzl : z.length ≤ sizeLine := Nat.le_trans hz (by decide)
  refine lc_it walk_str (fun i H' => Same H H' ∧ H' D = some (.lst (((z.cps.toList.take i).filter f).map sg))) ⟨same_upd hD, upd_same⟩ (fun _ _ _ _ => trivial) ?_ ?_
  · rintro i x H1 H2 hi ⟨s1, e1⟩ ⟨rfl, c, hc, rfl⟩
    have hc' : z.cps.toList[i]? = some c := by rw [Array.getElem?_toList]; exact hc
    refine turn c _ _ _ s1 (fun hf => ?_) (fun hf => ?_)
    · refine ⟨_, e1, ?_, fun b o h => ?_, ?_⟩
      · rw [List.length_map]
        refine Nat.lt_of_le_of_lt (List.length_filter_le _ _) ?_
        rw [List.length_take]
        exact Nat.lt_of_le_of_lt (Nat.min_le_left _ _) (Nat.lt_of_lt_of_le hi hzl)
      · rw [upd_ne (ne_of_none h hD)]
        exact s1 _ _ h
      · rw [upd_same, List.take_add_one, hc', List.filter_append, List.map_append]
        show _ = some (HO.lst (_ ++ List.map sg (List.filter f [c])))
        rw [List.filter_cons_of_pos hf]
        rfl
    · refine ⟨s1, ?_⟩
      rw [e1, List.take_add_one, hc', List.filter_append, List.map_append]
      show _ = some (HO.lst (_ ++ List.map sg (List.filter f [c])))
      rw [List.filter_cons_of_neg (by rw [hf]; exact Bool.false_ne_true)]
      show _ = some (HO.lst (_ ++ []))
      rw [List.append_nil]
  · rintro H' ⟨s1, e1⟩
    have ef : z.cps.toList.take z.cps.size = z.cps.toList := List.take_of_length_le (by rw [Array.length_toList]; exact Nat.le_refl _)
    rw [ef] at e1
    exact fin H' s1 e1
/-- a list of signs beside [] -/
theorem dp_signs {K : PySem.W.Frag} {H : Hp} : ∀ cs : List Nat, DpAll K H (cs.map sg) (cs.map fun c => PyData.str ⟨#[c]⟩)
  | [] => .nil
  | c :: cs => .cons (.str _) (dp_signs cs)
theorem eqv_nil (ds : List PyData) : PyData.eqv (.list ds) (.list []) = ds.isEmpty := by
  cases ds with
  | nil => rfl
  | cons d r => rfl
theorem lay_signs : ∀ cs : List Nat, (∀ c ∈ cs, c < 128) → PyData.canLayAll0 (cs.map fun c => PyData.str ⟨#[c]⟩) = true
  | [], _ => rfl
  | c :: r, h => by
    have h1 := h c (List.mem_cons_self ..)
    have h2 := lay_signs r fun d hd => h d (List.mem_cons_of_mem _ hd)
    show (PyData.canLay0 (.str ⟨#[c]⟩) && PyData.canLayAll0 (r.map fun c => PyData.str ⟨#[c]⟩)) = true
    rw [h2, Bool.and_true]
    show (#[c].all (· < 0x110000)) = true
    simp
    omega
theorem dep_signs : ∀ cs : List Nat, PyData.depthAll (cs.map fun c => PyData.str ⟨#[c]⟩) = 0
  | [] => rfl
  | c :: r => by
    show max 0 (PyData.depthAll (r.map fun c => PyData.str ⟨#[c]⟩)) = 0
    rw [dep_signs r]
    rfl
theorem shp_signs {cs : List Nat} (h : ∀ c ∈ cs, c < 128) : SeqAt.shaped (.list (cs.map fun c => PyData.str ⟨#[c]⟩)) = true := by
  unfold SeqAt.shaped
  have e1 : PyData.canLay0 (.list (cs.map fun c => PyData.str ⟨#[c]⟩)) = true := lay_signs cs h
  have e2 : PyData.depth (.list (cs.map fun c => PyData.str ⟨#[c]⟩)) = 1 := by
    show PyData.depthAll _ + 1 = 1
    rw [dep_signs]
  rw [e1, e2]
  rfl
/-- signs below 128 alone -/
def Asc (z : Str) : Prop := ∀ c ∈ z.cps.toList, c < 128
theorem asc_cut {z : Str} (h : Asc z) (lo hi : Option Int) : Asc (cutS z lo hi) := fun c hc => h c (List.mem_of_mem_drop (List.mem_of_mem_take hc))
theorem asc_app {x y : Str} (hx : Asc x) (hy : Asc y) : Asc (x ++ y) := fun c hc => by
  have hc : c ∈ TL.tl (x ++ y) := hc
  rw [TL.tl_append] at hc
  rcases List.mem_append.mp hc with h | h
  · exact hx c h
  · exact hy c h
theorem asc_upper {z : Str} (h : Asc z) : Asc (Txt.upper z) ∧ (Txt.upper z).length = z.length := by
  rw [PyProof.Rows.upper_ascii h]
  refine ⟨fun c hc => ?_, ?_⟩
  · have hc : c ∈ (z.cps.map PyProof.Rows.up1).toList := hc
    rw [Array.toList_map] at hc
    obtain ⟨a, ha, rfl⟩ := List.mem_map.mp hc
    have := h a ha
    unfold PyProof.Rows.up1
    split <;> omega
  · show (z.cps.map PyProof.Rows.up1).size = z.cps.size
    rw [Array.size_map]
theorem asc_of {z : Str} {cs : List Nat} (h : z.cps.toList = cs) (hl : ∀ c ∈ cs, c < 128) : Asc z := fun c hc => hl c (by rw [← h]; exact hc)
theorem lower_lt {c : Nat} (h : lower c = true) : c < 128 := by
  unfold lower at h
  simp only [Bool.and_eq_true, decide_eq_true_eq] at h
  omega
theorem figure_lt {c : Nat} (h : figure c = true) : c < 128 := by
  unfold figure at h
  simp only [Bool.and_eq_true, decide_eq_true_eq] at h
  omega
theorem filter_none {l : List Nat} {f : Nat → Bool} : (l.filter (fun c => !f c)).isEmpty = l.all f := by
  induction l with
  | nil => rfl
  | cons c r ih =>
    rw [List.filter_cons, List.all_cons]
    cases h : f c with
    | true => simpa using ih
    | false => rfl
theorem str_sign {c d : Nat} {z : Str} (h : z.cps = #[d]) : decide (V.str ⟨#[c]⟩ = V.str z) = decide (c = d) := by
  obtain ⟨z⟩ := z
  rw [decide_eq_decide]
  constructor
  · intro e
    injection e with e
    injection e with e
    rw [show z = #[d] from h] at e
    injection e with e
    injection e
  · rintro rfl
    rw [show z = #[c] from h]
/-! ### a text joined of signs -/
open TL
theorem join_signs : ∀ cs : List Nat, joinL [] ((cs.map fun c => (⟨#[c]⟩ : Str)).map tl) = cs
  | [] => rfl
  | [c] => rfl
  | c :: d :: r => by
    show [c] ++ ([] ++ joinL [] (((d :: r).map fun c => (⟨#[c]⟩ : Str)).map tl)) = c :: d :: r
    rw [join_signs (d :: r)]
    rfl
theorem join_text {y : Str} (hy : tl y = []) (cs : List Nat) : (Txt.join y (cs.map fun c => (⟨#[c]⟩ : Str))).cps.toList = cs := by
  show tl (Txt.join y _) = cs
  rw [join_eq, tl_join, hy, join_signs]
theorem size_signs : ∀ cs : List Nat, ((cs.map fun c => (⟨#[c]⟩ : Str)).map (·.length)).sum = cs.length
  | [] => rfl
  | c :: r => by
    rw [List.map_cons, List.map_cons, List.sum_cons, size_signs r, List.length_cons]
    show 1 + r.length = _
    omega

/-- [.. for _ in range(k)], each a drawn sign -/
theorem lc_draw {P : Int → Prop} {d D : Addr} {n k : Nat} {H1 : Hp} (hD : H1 D = none) (dr : Dr P d n H1) (hk : k ≤ 1000) (p : Nat → Bool) {g : TG} {tt : TT} {te : TE} {vs : List Nat} {σ : L2.St} {Qd : Hp → Prop}
    (turn : ∀ (i : Nat) (H2 : Hp) (R : V → Hp → Prop) (C : Hp → Prop), i < k → Dr P d (n + i) H2 → (∀ H3 c, p c = true → But d H2 H3 → Dr P d (n + i + 1) H3 → R (sg c) H3) → g (.int (0 + i)) (wipe σ vs) H2 fun σ2 H2 => wipe σ2 vs = wipe σ vs ∧ tt σ2 H2 fun b H3 => if b = true then te σ2 H3 R else C H3)
    (fin : ∀ H' (cs : List Nat), cs.length = k → (∀ c ∈ cs, p c = true) → But d H1 H' → Dr P d (n + k) H' → H' D = some (.lst (cs.map sg)) → Qd H') :
    ∃ W : Nat → Nat → Hp → Prop, (∃ m, W 0 m (upd H1 D (.lst []))) ∧ ∀ i m H, W i m H →
      ((Itr 0 k).stop i H ∧ Qd H) ∨ ((Itr 0 k).go i H ∧ ∃ Nx : Hp → Prop, (∀ H', Nx H' → ∃ m', m' < m ∧ W (i + 1) m' H') ∧ ∀ x H', (Itr 0 k).yld i H x H' → g x (wipe σ vs) H' fun σ2 H2 => wipe σ2 vs = wipe σ vs ∧ tt σ2 H2 fun b H3 =>
        if b = true then te σ2 H3 fun y H4 => ∃ acc, H4 D = some (.lst acc) ∧ acc.length < sizeLine ∧ Nx (upd H4 D (.lst (acc ++ [y]))) else Nx H3) := by
  have nD : D ≠ d := dr.ne hD
  refine lc_range (lo := 0) (n := k) (fun i H' => ∃ cs : List Nat, cs.length = i ∧ (∀ c ∈ cs, p c = true) ∧ But d H1 H' ∧ Dr P d (n + i) H' ∧ H' D = some (.lst (cs.map sg))) ⟨[], rfl, (fun _ h => nomatch h), But.new hD, dr.upd nD, upd_same⟩ ?_ ?_
  · rintro i H2 hi ⟨cs, hl, hp, b2, dr2, e2⟩
    refine turn i H2 _ _ hi dr2 fun H3 c hc b3 dr3 => ?_
    refine ⟨_, b3 _ _ nD e2, ?_, cs ++ [c], ?_, ?_, ?_, ?_, ?_⟩
    · rw [List.length_map, hl]
      exact Nat.lt_of_lt_of_le (show i < 1000 by omega) (by decide)
    · rw [List.length_append, hl]
      rfl
    · intro x hx
      rcases List.mem_append.mp hx with h | h
      · exact hp x h
      · rw [List.mem_singleton.mp h]
        exact hc
    · exact (b2.trans b3).mut hD
    · exact (dr3.upd nD).mono (by omega)
    · rw [upd_same, List.map_append]
      rfl
  · rintro H' ⟨cs, hl, hp, b, dr', e⟩
    exact fin H' cs hl hp b dr' e
theorem map_sg (cs : List Nat) : (cs.map fun c => (⟨#[c]⟩ : Str)).map V.str = cs.map sg := by
  rw [List.map_map]
  rfl
theorem join_len {y : Str} (hy : TL.tl y = []) (cs : List Nat) : (Txt.join y (cs.map fun c => (⟨#[c]⟩ : Str))).length = cs.length := by
  have := join_text hy cs
  show (Txt.join y (cs.map fun c => (⟨#[c]⟩ : Str))).cps.size = _
  rw [← Array.length_toList, this]
theorem az_at {r : Int} (h0 : 0 ≤ r) (h1 : r < 26) : ∃ c, atI ("abcdefghijklmnopqrstuvwxyz" : Str).cps.toList r = some c ∧ lower c = true := by
  obtain ⟨j, rfl⟩ : ∃ j : Nat, r = (j : Int) := ⟨r.toNat, by omega⟩
  have e : ("abcdefghijklmnopqrstuvwxyz" : Str).cps.toList = (List.range 26).map (· + 97) := by decide +kernel
  refine ⟨j + 97, atI_nat ?_, ?_⟩
  · rw [e, List.getElem?_map, List.getElem?_range (by omega)]
    rfl
  · unfold lower
    rw [decide_eq_true (by omega), decide_eq_true (by omega)]
    rfl
theorem fig_at {r : Int} (h0 : 0 ≤ r) (h1 : r < 10) : ∃ c, atI ("0123456789" : Str).cps.toList r = some c ∧ figure c = true := by
  obtain ⟨j, rfl⟩ : ∃ j : Nat, r = (j : Int) := ⟨r.toNat, by omega⟩
  have e : ("0123456789" : Str).cps.toList = (List.range 10).map (· + 48) := by decide +kernel
  refine ⟨j + 48, atI_nat ?_, ?_⟩
  · rw [e, List.getElem?_map, List.getElem?_range (by omega)]
    rfl
  · unfold figure
    rw [decide_eq_true (by omega), decide_eq_true (by omega)]
    rfl
theorem log_small {m : Int} (h0 : 0 < m) (h : m < 2 ^ 200) : m.natAbs.log2 < 9000 := by
  refine Nat.lt_of_lt_of_le (PySem.Flt.log2_lt_of (k := 200) (by decide) ?_) (by decide)
  have e : ((2 : Int) ^ 200) = ((2 ^ 200 : Nat) : Int) := by decide
  rw [e] at h
  omega
theorem log_tiny {m : Int} (h0 : 0 < m) (h : m < 1000000000000000000000000000000) : m.natAbs.log2 < 9000 := log_small h0 (Int.lt_trans h (by decide))
theorem at_str {z : Str} {r : Int} (h0 : 0 ≤ r) (h1 : r < (z.length : Int)) : ∃ c, atI z.cps.toList r = some c ∧ c ∈ z.cps.toList := by
  obtain ⟨j, rfl⟩ : ∃ j : Nat, r = (j : Int) := ⟨r.toNat, by omega⟩
  have hj : j < z.cps.toList.length := by
    have : z.cps.toList.length = z.length := Array.length_toList
    omega
  exact ⟨_, atI_nat (List.getElem?_eq_getElem hj), List.getElem_mem hj⟩
theorem sz (n : Nat) (h : n ≤ 100000) : n ≤ sizeLine := Nat.le_trans h (by decide)
theorem tyx_same {K : PySem.W.Frag} {H H' : Hp} (s : Same H H') {v : V} {t : Value} (h : TyX K H v t) : TyX K H' v t := by
  cases h with
  | base h =>
    cases h with
    | non => exact .base .non
    | bl b => exact .base (.bl b)
    | int i => exact .base (.int i)
    | str z => exact .base (.str z)
    | flt x => exact .base (.flt x)
    | lst e => exact .base (.lst (s _ _ e))
    | frz e => exact .base (.frz (s _ _ e))
    | tup e => exact .base (.tup (s _ _ e))
    | dK e => exact .base (.dK (s _ _ e))
    | dT e => exact .base (.dT (s _ _ e))
    | ins e cl ha hn htk hm => exact .base (.ins (s _ _ e) cl ha hn htk hm)
  | byt b => exact .byt b
  | set e => exact .set (s _ _ e)
  | kList e c => exact .kList e c
  | kTuple e c => exact .kTuple e c
  | kDict e c => exact .kDict e c
  | fTuple e => exact .fTuple (s _ _ e)
  | fDict e => exact .fDict (s _ _ e)
theorem Th.same {K : PySem.W.Frag} {H H' : Hp} (s : Same H H') {v : V} (h : Th K H v) : Th K H' v := by
  cases h with
  | int i => exact .int i
  | bl b => exact .bl b
  | str z => exact .str z
  | non => exact .non
  | lst h => exact .lst (tyx_same s h)
  | tup h => exact .tup (tyx_same s h)
  | dct h => exact .dct (tyx_same s h)
theorem cells_int {ns : List Int} {n : Int} {lo hi : Option Int} {i : Nat} {x : V} (h : ([V.int n] ++ cutV (ns.map V.int) lo hi)[i]? = some x) : ∃ k, x = .int k := by
  have hm := List.mem_of_getElem? h
  rcases List.mem_append.mp hm with h | h
  · exact ⟨n, List.mem_singleton.mp h⟩
  · have := List.mem_of_mem_drop (List.mem_of_mem_take h)
    obtain ⟨k, _, rfl⟩ := List.mem_map.mp this
    exact ⟨k, rfl⟩
section
variable {P : Program} {w : World} {K : PySem.W.Frag} {mg : Str → Option Value} {base : Heap} {x qual : Str} {params : Arguments} {body : List Stmt} {scope : Scope} {dvs : List V} {kws : List (Str × V)} {f : Addr} {fd : FuncData}
theorem okD {N ps : List Str} {k : Nat} {sp : Sp} (F : FunD K x qual params body scope dvs kws f fd) (S : FnScope N ps scope) (len : ∀ vs H Q E, sp vs H Q E → vs.length = ps.length)
    (hbody : ∀ (cdv : Value) (A : Around) (outer : List Env) (s : Shared) (H : Hp) (vs : List V) (Q : VK) (E : XK), Room k (A.deeper (envOfC qual scope s.heap.objs.size f cdv)) → sp vs H Q E →
      ∃ t, PSs (cxOf CX0 P w K mg base N qual scope f cdv A outer s H E).nox body t ∧ t { nx := fun _ H' => Q .non H', rt := Q } (start N vs) H) : FnOk P w K mg base CX0 (k + 1) f fd ps sp :=
  F.ok S len fun cdv A outer s H vs Q E hr h => by
    obtain ⟨t, h, q⟩ := hbody cdv A outer s H vs Q E hr h
    exact ⟨t, h.nox, q⟩
end
end KA
namespace KA
open PySem PySem.Spec PyProof.Rows L2
/-- what is no list is as it was -/
def NL (H H' : Hp) : Prop := ∀ b o, (∀ xs, o ≠ .lst xs) → H b = some o → H' b = some o
theorem NL.of {H H' : Hp} (s : Same H H') : NL H H' := fun b o _ h => s b o h
theorem NL.at_ {H : Hp} {D : Addr} {xs : List V} {o : HO} (h : H D = some (.lst xs)) : NL H (upd H D o) := fun b u n e => by
  have : b ≠ D := fun z => by
    rw [z, h] at e
    exact n xs (Option.some.inj e).symm
  rw [upd_ne this]
  exact e
theorem NL.trans {H H1 H2 : Hp} (a : NL H H1) (b : NL H1 H2) : NL H H2 := fun c o n h => b c o n (a c o n h)
/-- a comprehension over a list: what it makes is told by G -/
theorem lc_gen {K : PySem.W.Frag} {a : Addr} {xs : List V} {H : Hp} {D : Addr} (hD : H D = none) (hS : SqL K H a xs) (hl : xs.length ≤ 10000) (G : Nat → V → Hp → Prop) (hG : ∀ j v H1 H2, NL H1 H2 → G j v H1 → G j v H2)
    {g : TG} {tt : TT} {te : TE} {vs : List Nat} {σ : L2.St} {Qd : Hp → Prop}
    (turn : ∀ (i : Nat) (x : V) (H2 : Hp) (R : V → Hp → Prop) (C : Hp → Prop), xs[i]? = some x → Same H H2 → (∀ v H3, Same H2 H3 → G i v H3 → R v H3) → g x (wipe σ vs) H2 fun σ2 H2 => wipe σ2 vs = wipe σ vs ∧ tt σ2 H2 fun b H3 => if b = true then te σ2 H3 R else C H3)
    (fin : ∀ H' acc, Same H H' → H' D = some (.lst acc) → acc.length = xs.length → (∀ j v, acc[j]? = some v → G j v H') → Qd H') :
    ∃ W : Nat → Nat → Hp → Prop, (∃ m, W 0 m (upd H D (.lst []))) ∧ ∀ i m H, W i m H →
      ((Itl K a).stop i H ∧ Qd H) ∨ ((Itl K a).go i H ∧ ∃ Nx : Hp → Prop, (∀ H', Nx H' → ∃ m', m' < m ∧ W (i + 1) m' H') ∧ ∀ x H', (Itl K a).yld i H x H' → g x (wipe σ vs) H' fun σ2 H2 => wipe σ2 vs = wipe σ vs ∧ tt σ2 H2 fun b H3 =>
        if b = true then te σ2 H3 fun y H4 => ∃ acc, H4 D = some (.lst acc) ∧ acc.length < sizeLine ∧ Nx (upd H4 D (.lst (acc ++ [y]))) else Nx H3) := by
  refine lc_list (K := K) (a := a) (xs := xs) (fun i H' => Same H H' ∧ ∃ acc, H' D = some (.lst acc) ∧ acc.length = i ∧ ∀ j v, acc[j]? = some v → G j v H') ⟨same_upd hD, [], upd_same, rfl, fun j v h => by simp at h⟩ (fun i H' _ h => h.1.seq hS) ?_ ?_
  · rintro i x H2 hi ⟨s2, acc, e2, l2, g2⟩
    have hil : i < xs.length := (List.getElem?_eq_some_iff.mp hi).1
    refine turn i x H2 _ _ hi s2 fun v H3 s3 hv => ?_
    have e3 := s3 _ _ e2
    refine ⟨acc, e3, ?_, fun b o h => ?_, acc ++ [v], upd_same, ?_, fun j w hj => ?_⟩
    · rw [l2]
      exact Nat.lt_of_lt_of_le (show i < 10000 by omega) (by decide)
    · rw [upd_ne (ne_of_none h hD)]
      exact s3 _ _ (s2 _ _ h)
    · rw [List.length_append, l2]
      rfl
    · refine hG j w H3 _ (NL.at_ e3) ?_
      by_cases h : j < acc.length
      · rw [List.getElem?_append_left h] at hj
        exact hG j w H2 H3 (NL.of s3) (g2 j w hj)
      · rw [List.getElem?_append_right (by omega)] at hj
        have : j = i := by
          have := (List.getElem?_eq_some_iff.mp hj).1
          rw [List.length_singleton] at this
          omega
        subst this
        rw [l2, Nat.sub_self] at hj
        have : v = w := Option.some.inj hj
        subst this
        exact hv
  · rintro H' ⟨s, acc, e, l, g⟩
    exact fin H' acc s e l g
/-- .. whose values are f of the place -/
theorem lc_vals {K : PySem.W.Frag} {a : Addr} {xs : List V} {H : Hp} {D : Addr} (hD : H D = none) (hS : SqL K H a xs) (hl : xs.length ≤ 10000) (f : Nat → V)
    {g : TG} {tt : TT} {te : TE} {vs : List Nat} {σ : L2.St} {Qd : Hp → Prop}
    (turn : ∀ (i : Nat) (x : V) (H2 : Hp) (R : V → Hp → Prop) (C : Hp → Prop), xs[i]? = some x → Same H H2 → R (f i) H2 → g x (wipe σ vs) H2 fun σ2 H2 => wipe σ2 vs = wipe σ vs ∧ tt σ2 H2 fun b H3 => if b = true then te σ2 H3 R else C H3)
    (fin : ∀ H', Same H H' → H' D = some (.lst ((List.range xs.length).map f)) → Qd H') :
    ∃ W : Nat → Nat → Hp → Prop, (∃ m, W 0 m (upd H D (.lst []))) ∧ ∀ i m H, W i m H →
      ((Itl K a).stop i H ∧ Qd H) ∨ ((Itl K a).go i H ∧ ∃ Nx : Hp → Prop, (∀ H', Nx H' → ∃ m', m' < m ∧ W (i + 1) m' H') ∧ ∀ x H', (Itl K a).yld i H x H' → g x (wipe σ vs) H' fun σ2 H2 => wipe σ2 vs = wipe σ vs ∧ tt σ2 H2 fun b H3 =>
        if b = true then te σ2 H3 fun y H4 => ∃ acc, H4 D = some (.lst acc) ∧ acc.length < sizeLine ∧ Nx (upd H4 D (.lst (acc ++ [y]))) else Nx H3) := by
  refine lc_gen hD hS hl (fun j v _ => v = f j) (fun _ _ _ _ _ h => h) (fun i x H2 R C hi s hR => turn i x H2 R C hi s (hR _ _ (Same.refl _) rfl)) fun H' acc s e l g => fin H' s ?_
  rw [e]
  congr 2
  refine List.ext_getElem? fun j => ?_
  by_cases h : j < xs.length
  · rw [List.getElem?_map, List.getElem?_range h]
    have : j < acc.length := by omega
    rw [List.getElem?_eq_getElem this]
    exact congrArg some (g j _ (List.getElem?_eq_getElem this))
  · rw [List.getElem?_eq_none (by omega), List.getElem?_eq_none (by rw [List.length_map, List.length_range]; omega)]
/-- a comprehension over a list that leaves some out; the heap stays -/
theorem lc_some {K : PySem.W.Frag} {a : Addr} {xs : List V} {H : Hp} {D : Addr} (hD : H D = none) (hS : SqL K H a xs) (hl : xs.length ≤ 10000) (p : V → Bool) (f : V → V)
    {g : TG} {tt : TT} {te : TE} {vs : List Nat} {σ : L2.St} {Qd : Hp → Prop}
    (turn : ∀ (i : Nat) (x : V) (H2 : Hp) (R : V → Hp → Prop) (C : Hp → Prop), xs[i]? = some x → Same H H2 → (p x = true → R (f x) H2) → (p x = false → C H2) → g x (wipe σ vs) H2 fun σ2 H2 => wipe σ2 vs = wipe σ vs ∧ tt σ2 H2 fun b H3 => if b = true then te σ2 H3 R else C H3)
    (fin : ∀ H', Same H H' → H' D = some (.lst ((xs.filter p).map f)) → Qd H') :
    ∃ W : Nat → Nat → Hp → Prop, (∃ m, W 0 m (upd H D (.lst []))) ∧ ∀ i m H, W i m H →
      ((Itl K a).stop i H ∧ Qd H) ∨ ((Itl K a).go i H ∧ ∃ Nx : Hp → Prop, (∀ H', Nx H' → ∃ m', m' < m ∧ W (i + 1) m' H') ∧ ∀ x H', (Itl K a).yld i H x H' → g x (wipe σ vs) H' fun σ2 H2 => wipe σ2 vs = wipe σ vs ∧ tt σ2 H2 fun b H3 =>
        if b = true then te σ2 H3 fun y H4 => ∃ acc, H4 D = some (.lst acc) ∧ acc.length < sizeLine ∧ Nx (upd H4 D (.lst (acc ++ [y]))) else Nx H3) := by
  refine lc_list (K := K) (a := a) (xs := xs) (fun i H' => Same H H' ∧ H' D = some (.lst (((xs.take i).filter p).map f))) ⟨same_upd hD, upd_same⟩ (fun i H' _ h => h.1.seq hS) ?_ ?_
  · rintro i x H2 hi ⟨s2, e2⟩
    have hil : i < xs.length := (List.getElem?_eq_some_iff.mp hi).1
    refine turn i x H2 _ _ hi s2 (fun hp => ?_) (fun hp => ?_)
    · refine ⟨_, e2, ?_, fun b o h => ?_, ?_⟩
      · rw [List.length_map]
        refine Nat.lt_of_le_of_lt (List.length_filter_le _ _) ?_
        rw [List.length_take]
        exact Nat.lt_of_le_of_lt (Nat.min_le_left _ _) (Nat.lt_of_lt_of_le (show i < 10000 by omega) (by decide))
      · rw [upd_ne (ne_of_none h hD)]
        exact s2 _ _ h
      · rw [upd_same, List.take_add_one, hi, List.filter_append, List.map_append]
        show _ = some (HO.lst (_ ++ List.map f (List.filter p [x])))
        rw [List.filter_cons_of_pos hp]
        rfl
    · refine ⟨s2, ?_⟩
      rw [e2, List.take_add_one, hi, List.filter_append, List.map_append]
      show _ = some (HO.lst (_ ++ List.map f (List.filter p [x])))
      rw [List.filter_cons_of_neg (by rw [hp]; exact Bool.false_ne_true)]
      show _ = some (HO.lst (_ ++ []))
      rw [List.append_nil]
  · rintro H' ⟨s, e⟩
    rw [List.take_of_length_le (Nat.le_refl _)] at e
    exact fin H' s e
theorem cut_to (xs : List V) (i : Nat) : cutV xs none (some (i : Int)) = xs.take i := by
  unfold cutV
  rw [HT.sIx_none, show HT.sIx xs.length xs.length (some (i : Int)) = min i xs.length from HT.sIx_nat xs.length xs.length i, Nat.sub_zero, List.drop_zero]
  by_cases h : i ≤ xs.length
  · rw [Nat.min_eq_left h]
  · rw [Nat.min_eq_right (by omega), List.take_of_length_le (Nat.le_refl _), List.take_of_length_le (by omega)]
theorem cut_from (xs : List V) (i : Nat) : cutV xs (some (i : Int)) none = xs.drop i := by
  unfold cutV
  rw [HT.sIx_none, show HT.sIx xs.length 0 (some (i : Int)) = min i xs.length from HT.sIx_nat xs.length 0 i]
  by_cases h : i ≤ xs.length
  · rw [Nat.min_eq_left h, List.take_of_length_le (by rw [List.length_drop]; omega)]
  · rw [Nat.min_eq_right (by omega), List.drop_of_length_le (Nat.le_refl _), List.drop_of_length_le (by omega)]
    exact List.take_nil
section
variable {X : Cx} {K' : PySem.W.Frag}
/-! the rules with the written part by its own name (for blocks) -/
theorem pe_fldK (hK : X.K = K') {e : Expr} {f : Str} {pos : Pos} {ta : TE} (ha : PE X e ta) (hb : attributeBase e f X.env (eval e X.env) = eval e X.env) : PE X (.Attribute e f pos) (tFld K' ta f) := by
  subst hK
  exact pe_fld ha hb
theorem ix_listK (hK : X.K = K') : IxR X (rIxL K') := by
  subst hK
  exact ix_list
theorem ix_tupK (hK : X.K = K') : IxR X (rIxT K') := by
  subst hK
  exact ix_tup
theorem sl_listK (hK : X.K = K') : SlR X (rSlL K') := by
  subst hK
  exact sl_list
theorem sl_tupAK (hK : X.K = K') : SlR X (rSlA K') := by
  subst hK
  exact sl_tupA
theorem op_eqDK (hK : X.K = K') (hu : X.A.units + 64 < cLine) : OpR X (compareOp .Eq) (rEqD K') := by
  subst hK
  exact op_eqD hu
theorem op_neDK (hK : X.K = K') (hu : X.A.units + 64 < cLine) : OpR X (compareOp .NotEq) (rNeD K') := by
  subst hK
  exact op_neD hu
theorem op_in_seqK (hK : X.K = K') : OpR X (compareOp .In) (rIn K' false) := by
  subst hK
  exact op_in_seq
end
section
variable {X : Cx}
/-- a statement and what follows it, with a word between -/
def tCutJ (t u : TS) : TS := fun D σ H => ∃ Mid : L2.St → Hp → Prop, t { D with nx := Mid } σ H ∧ ∀ σ' H', Mid σ' H' → u D σ' H'
theorem pss_cutJ {st : Stmt} {rest : List Stmt} {t u : TS} (h1 : PS X st t) (h2 : PSs X rest u) : PSs X (st :: rest) (tCutJ t u) := by
  refine ⟨fun pins s σ H D I h => ?_⟩
  obtain ⟨Mid, hm, hu⟩ := h
  refine wpAny_execs_cons (thn (h1.run pins s σ H { D with nx := Mid } I hm) fun f s1 q => ?_)
  cases f with
  | next =>
    obtain ⟨σ', H', I', q⟩ := q
    exact h2.run pins s1 σ' H' D I' (hu σ' H' q)
  | ret v => exact q
  | brk => exact q
  | cont => exact q
end
theorem nl_tup {K : PySem.W.Frag} {H H' : Hp} {a : Addr} {xs : List V} (s : NL H H') (h : SqT K H a xs) : SqT K H' a xs := by
  rcases h with (h | ⟨o, h⟩) | h
  · exact .inl (.inl (s _ _ (fun _ z => by cases z) h))
  · exact .inl (.inr ⟨o, s _ _ (fun _ z => by cases z) h⟩)
  · exact .inr h
theorem mem_cut {xs : List V} {lo hi : Option Int} {v : V} (h : v ∈ cutV xs lo hi) : v ∈ xs := List.mem_of_mem_drop (List.mem_of_mem_take h)
theorem len_cut (xs : List V) (lo hi : Option Int) : (cutV xs lo hi).length ≤ xs.length := by
  unfold cutV
  rw [List.length_take, List.length_drop]
  omega
/-- a comprehension over a list that leaves places out; the heap stays -/
theorem lc_someI {K : PySem.W.Frag} {a : Addr} {xs : List V} {H : Hp} {D : Addr} (hD : H D = none) (hS : SqL K H a xs) (hl : xs.length ≤ 10000) (p : Nat → Bool) (f : Nat → V)
    {g : TG} {tt : TT} {te : TE} {vs : List Nat} {σ : L2.St} {Qd : Hp → Prop}
    (turn : ∀ (i : Nat) (x : V) (H2 : Hp) (R : V → Hp → Prop) (C : Hp → Prop), xs[i]? = some x → Same H H2 → (p i = true → R (f i) H2) → (p i = false → C H2) → g x (wipe σ vs) H2 fun σ2 H2 => wipe σ2 vs = wipe σ vs ∧ tt σ2 H2 fun b H3 => if b = true then te σ2 H3 R else C H3)
    (fin : ∀ H', Same H H' → H' D = some (.lst (((List.range xs.length).filter p).map f)) → Qd H') :
    ∃ W : Nat → Nat → Hp → Prop, (∃ m, W 0 m (upd H D (.lst []))) ∧ ∀ i m H, W i m H →
      ((Itl K a).stop i H ∧ Qd H) ∨ ((Itl K a).go i H ∧ ∃ Nx : Hp → Prop, (∀ H', Nx H' → ∃ m', m' < m ∧ W (i + 1) m' H') ∧ ∀ x H', (Itl K a).yld i H x H' → g x (wipe σ vs) H' fun σ2 H2 => wipe σ2 vs = wipe σ vs ∧ tt σ2 H2 fun b H3 =>
        if b = true then te σ2 H3 fun y H4 => ∃ acc, H4 D = some (.lst acc) ∧ acc.length < sizeLine ∧ Nx (upd H4 D (.lst (acc ++ [y]))) else Nx H3) := by
  refine lc_list (K := K) (a := a) (xs := xs) (fun i H' => Same H H' ∧ H' D = some (.lst (((List.range i).filter p).map f))) ⟨same_upd hD, upd_same⟩ (fun i H' _ h => h.1.seq hS) ?_ ?_
  · rintro i x H2 hi ⟨s2, e2⟩
    have hil : i < xs.length := (List.getElem?_eq_some_iff.mp hi).1
    refine turn i x H2 _ _ hi s2 (fun hp => ?_) (fun hp => ?_)
    · refine ⟨_, e2, ?_, fun b o h => ?_, ?_⟩
      · rw [List.length_map]
        refine Nat.lt_of_le_of_lt (List.length_filter_le _ _) ?_
        rw [List.length_range]
        exact Nat.lt_of_lt_of_le (show i < 10000 by omega) (by decide)
      · rw [upd_ne (ne_of_none h hD)]
        exact s2 _ _ h
      · rw [upd_same, List.range_succ, List.filter_append, List.map_append, List.filter_cons_of_pos hp]
        rfl
    · refine ⟨s2, ?_⟩
      rw [e2, List.range_succ, List.filter_append, List.map_append, List.filter_cons_of_neg (by rw [hp]; exact Bool.false_ne_true)]
      show _ = some (HO.lst (_ ++ []))
      rw [List.append_nil]
  · rintro H' ⟨s, e⟩
    exact fin H' s e
section
variable {X : Cx} {CX : CXT} {k : Nat} {f : Addr} {fd : FuncData} {ps ks : List Str} {sp : Sp} {E : XK} {x : Str} {p pos : Pos} {kws : List Keyword} {tk : TA} {g : List Value → List Value → List Value} {gV : List V → List V → List V}
/-- f(k = v, ..) -/
theorem pe_callN0 (F : FnOk X.prog X.w X.K X.mg X.base CX k f fd ps sp) (hr : Room k X.A) (hg : Gl X x) (hm : X.mg x = some (.ref f)) (hk : PySem.W.keepIn X.K (.ref f) = true) (hb : KBn X.K fd ps 0 ks g gV) (hx : Passes CX X E) (hkw : PK X kws tk)
    (hall : (backToKw pos (keywordEach kws X.env)).all (·.1.isSome) = true := by rfl) (hks : (backToKw pos (keywordEach kws X.env)).filterMap (·.1) = ks := by rfl) (hdb : (x == ("__debug__" : Str)) = false := by decide)
    (hpl : ((backTo pos (starEach [] X.env)).any (·.1) || (backToKw pos (keywordEach kws X.env)).any (·.1.isNone)) = false := by rfl) :
    PE X (.Call (.Name x p) [] kws pos) (tCallN 0 ks.length sp gV E tNil tk) := by
  refine ⟨fun pins s σ H Q I h => ?_⟩
  refine wpAny_Call_Name_kw (ld_glob I hg hm ?_ hdb)
  refine PySem.W.callWith_KW0 (h₀ := X.base) I.ok.mod.kin hk hall ?_ hpl
  refine thn (hkw.run pos pins s σ H _ I h) fun ws s2 ⟨zs, H2, I2, rz, l1, l2, q2⟩ => ⟨I2.kIn, ?_⟩
  rw [hks]
  exact run_fnN (us := []) (vs := []) F hr hb hx I2 .nil rz rfl l2 q2
end
/-- keywords of a def without defaults -/
theorem kbn_of {K : PySem.W.Frag} {x qual : Str} {st : Stmt} {f : Addr} {fd : FuncData} {ps : List Str} (F : Fun K x qual st f fd) (n : Nat) (ks : List Str) (g : List Value → List Value → List Value) (gV : List V → List V → List V)
    (hrel : ∀ {vs : List V} {us : List Value} {zs : List V} {ws : List Value}, Vals vs us → Vals zs ws → Vals (gV vs zs) (g us ws))
    (h : ∀ (kV doc pm : Value) (an : Option Addr) (cdv ct : Value) (us ws : List Value), us.length = n → ws.length = ks.length → bindArgs (PySem.W.fnOf x qual (defArgs st) (defBody st) (defScope st) .none kV doc pm an cdv ct) ⟨us, ks.zip ws⟩ = pure (ps.zip (g us ws))) : KBn K fd ps n ks g gV := by
  obtain ⟨oc, od, kV, doc, pm, an, cdv, ct, osl, rfl, lk, hcd⟩ := F.ex
  exact ⟨fun s us ws _ l1 l2 => .of_eq (h kV doc pm an cdv ct us ws l1 l2), hrel⟩
def gsw {α : Type} (l : List α) : List α := match l with
  | [a, b] => [b, a]
  | l => l
theorem gsw_rel {zs : List V} {ws : List Value} (h : Vals zs ws) : Vals (gsw zs) (gsw ws) := by
  cases h with
  | nil => exact .nil
  | cons r1 h =>
    cases h with
    | nil => exact .cons r1 .nil
    | cons r2 h =>
      cases h with
      | nil => exact .cons r2 (.cons r1 .nil)
      | cons r3 h => exact .cons r1 (.cons r2 (.cons r3 h))
/-- a comprehension over range(n): what it makes is told by G -/
theorem lc_genR {n : Nat} {H : Hp} {D : Addr} (hD : H D = none) (hl : n ≤ 10000) (G : Nat → V → Hp → Prop) (hG : ∀ j v H1 H2, NL H1 H2 → G j v H1 → G j v H2)
    {g : TG} {tt : TT} {te : TE} {vs : List Nat} {σ : L2.St} {Qd : Hp → Prop}
    (turn : ∀ (i : Nat) (H2 : Hp) (R : V → Hp → Prop) (C : Hp → Prop), i < n → Same H H2 → (∀ v H3, Same H2 H3 → G i v H3 → R v H3) → g (.int (0 + i)) (wipe σ vs) H2 fun σ2 H2 => wipe σ2 vs = wipe σ vs ∧ tt σ2 H2 fun b H3 => if b = true then te σ2 H3 R else C H3)
    (fin : ∀ H' acc, Same H H' → H' D = some (.lst acc) → acc.length = n → (∀ j v, acc[j]? = some v → G j v H') → Qd H') :
    ∃ W : Nat → Nat → Hp → Prop, (∃ m, W 0 m (upd H D (.lst []))) ∧ ∀ i m H, W i m H →
      ((Itr 0 n).stop i H ∧ Qd H) ∨ ((Itr 0 n).go i H ∧ ∃ Nx : Hp → Prop, (∀ H', Nx H' → ∃ m', m' < m ∧ W (i + 1) m' H') ∧ ∀ x H', (Itr 0 n).yld i H x H' → g x (wipe σ vs) H' fun σ2 H2 => wipe σ2 vs = wipe σ vs ∧ tt σ2 H2 fun b H3 =>
        if b = true then te σ2 H3 fun y H4 => ∃ acc, H4 D = some (.lst acc) ∧ acc.length < sizeLine ∧ Nx (upd H4 D (.lst (acc ++ [y]))) else Nx H3) := by
  refine lc_range (lo := 0) (n := n) (fun i H' => Same H H' ∧ ∃ acc, H' D = some (.lst acc) ∧ acc.length = i ∧ ∀ j v, acc[j]? = some v → G j v H') ⟨same_upd hD, [], upd_same, rfl, fun j v h => by simp at h⟩ ?_ ?_
  · rintro i H2 hi ⟨s2, acc, e2, l2, g2⟩
    refine turn i H2 _ _ hi s2 fun v H3 s3 hv => ?_
    have e3 := s3 _ _ e2
    refine ⟨acc, e3, ?_, fun b o h => ?_, acc ++ [v], upd_same, ?_, fun j w hj => ?_⟩
    · rw [l2]
      exact Nat.lt_of_lt_of_le (show i < 10000 by omega) (by decide)
    · rw [upd_ne (ne_of_none h hD)]
      exact s3 _ _ (s2 _ _ h)
    · rw [List.length_append, l2]
      rfl
    · refine hG j w H3 _ (NL.at_ e3) ?_
      by_cases h : j < acc.length
      · rw [List.getElem?_append_left h] at hj
        exact hG j w H2 H3 (NL.of s3) (g2 j w hj)
      · rw [List.getElem?_append_right (by omega)] at hj
        have : j = i := by
          have := (List.getElem?_eq_some_iff.mp hj).1
          rw [List.length_singleton] at this
          omega
        subst this
        rw [l2, Nat.sub_self] at hj
        have : v = w := Option.some.inj hj
        subst this
        exact hv
  · rintro H' ⟨s, acc, e, l, g⟩
    exact fin H' acc s e l g
/-- [k for k in range(n) if a draw ..] -/
theorem lc_drawK {P : Int → Prop} {d D : Addr} {m n : Nat} {H1 : Hp} (hD : H1 D = none) (dr : Dr P d m H1) (hn : n ≤ 1000) {g : TG} {tt : TT} {te : TE} {vs : List Nat} {σ : L2.St} {Qd : Hp → Prop}
    (turn : ∀ (i : Nat) (H2 : Hp) (R : V → Hp → Prop) (C : Hp → Prop), i < n → Dr P d (m + i) H2 → (∀ H3, But d H2 H3 → Dr P d (m + i + 1) H3 → R (.int (i : Int)) H3 ∧ C H3) → g (.int (0 + i)) (wipe σ vs) H2 fun σ2 H2 => wipe σ2 vs = wipe σ vs ∧ tt σ2 H2 fun b H3 => if b = true then te σ2 H3 R else C H3)
    (fin : ∀ H' (ks : List Nat), (∀ k ∈ ks, k < n) → ks.length ≤ n → But d H1 H' → Dr P d (m + n) H' → H' D = some (.lst (ks.map fun (k : Nat) => V.int (k : Int))) → Qd H') :
    ∃ W : Nat → Nat → Hp → Prop, (∃ m, W 0 m (upd H1 D (.lst []))) ∧ ∀ i m H, W i m H →
      ((Itr 0 n).stop i H ∧ Qd H) ∨ ((Itr 0 n).go i H ∧ ∃ Nx : Hp → Prop, (∀ H', Nx H' → ∃ m', m' < m ∧ W (i + 1) m' H') ∧ ∀ x H', (Itr 0 n).yld i H x H' → g x (wipe σ vs) H' fun σ2 H2 => wipe σ2 vs = wipe σ vs ∧ tt σ2 H2 fun b H3 =>
        if b = true then te σ2 H3 fun y H4 => ∃ acc, H4 D = some (.lst acc) ∧ acc.length < sizeLine ∧ Nx (upd H4 D (.lst (acc ++ [y]))) else Nx H3) := by
  have nD : D ≠ d := dr.ne hD
  refine lc_range (lo := 0) (n := n) (fun i H' => ∃ ks : List Nat, (∀ k ∈ ks, k < n) ∧ ks.length ≤ i ∧ But d H1 H' ∧ Dr P d (m + i) H' ∧ H' D = some (.lst (ks.map fun (k : Nat) => V.int (k : Int)))) ⟨[], (fun _ h => nomatch h), Nat.le_refl _, But.new hD, dr.upd nD, upd_same⟩ ?_ ?_
  · rintro i H2 hi ⟨ks, hk, hl, b2, dr2, e2⟩
    refine turn i H2 _ _ hi dr2 fun H3 b3 dr3 => ⟨?_, ks, hk, by omega, b2.trans b3, dr3, b3 _ _ nD e2⟩
    refine ⟨_, b3 _ _ nD e2, ?_, ks ++ [i], ?_, ?_, ?_, ?_, ?_⟩
    · rw [List.length_map]
      exact Nat.lt_of_lt_of_le (show ks.length < 1001 by omega) (by decide)
    · intro k h
      rcases List.mem_append.mp h with h | h
      · exact hk k h
      · rw [List.mem_singleton.mp h]
        exact hi
    · rw [List.length_append, List.length_singleton]
      omega
    · exact (b2.trans b3).mut hD
    · exact (dr3.upd nD).mono (by omega)
    · rw [upd_same, List.map_append]
      rfl
  · rintro H' ⟨ks, hk, hl, b, dr', e⟩
    exact fin H' ks hk hl b dr' e
theorem in_ints (k : Nat) (S : List Nat) : inV (.int (k : Int)) (S.map fun (j : Nat) => V.int (j : Int)) = decide (k ∈ S) := by
  unfold inV
  rw [List.any_map]
  induction S with
  | nil => rfl
  | cons j S ih =>
    rw [List.any_cons, ih]
    show (((j : Int) == (k : Int)) || decide (k ∈ S)) = _
    rw [Bool.eq_iff_iff, Bool.or_eq_true, beq_iff_eq, decide_eq_true_eq, decide_eq_true_eq, List.mem_cons]
    constructor
    · rintro (h | h)
      · exact .inl (by omega)
      · exact .inr h
    · rintro (h | h)
      · exact .inl (by omega)
      · exact .inr h
theorem flat_ints (S : List Nat) : (S.map fun (j : Nat) => V.int (j : Int)).all flatV = true := by
  rw [List.all_eq_true]
  intro v hv
  obtain ⟨j, _, rfl⟩ := List.mem_map.mp hv
  rfl
end KA
namespace KA
open PySem PySem.SeqAt
open AutoSeq1 (wpAny_loadPart')
open MeetsSeq MeetsSeq2 MeetsSeq3 SeqRoads2
section
variable {prog : Program} {w : World} {A : Around} {R : Result → Shared → Prop}
/-- two lists whose items are equal, turn by turn: != is False -/
theorem ne_turns (p q : Addr) (N : Nat) (J : Nat → Shared → Prop) (hJ : GQ.ListI prog w A (fun e s' => R (.error e) s') p q N J)
    (done : ∀ s, J N s → R (.ok (.ret (.bool false))) s) : ∀ (k i : Nat), N - i = k → i ≤ N → ∀ s, J i s →
      wpAny (model prog w) A.in1 (Builtin.«list.__eq__.loop» ⟨[.ref p, .ref q, rawInt i, rawInt 3], []⟩) (GQ.FinOf prog w A R) (fun e s' => R (.error e) s') s
  | 0, i, hk, hi, s, hs => by
    obtain ⟨xs, ys, m, m2, gp, gq, zp, zq, _⟩ := hJ _ _ hs
    have iN : i = N := by omega
    have last : R (.ok (.ret (.bool false))) s := done s (iN ▸ hs)
    obtain ⟨hh, gg, dd, kk, oo⟩ := s
    wp_walk using wpAny_loadPart' gp, wpAny_loadPart' gq
    have n1 : xs[((i : Nat) : Int).toNat]? = none := by simp; omega
    have n2 : ys[((i : Nat) : Int).toNat]? = none := by simp; omega
    rw [n1, n2]
    wp_walk using wpAny_loadPart' gp, wpAny_loadPart' gq
    show R (.ok (.ret (.bool (xs.size != ys.size)))) _
    rw [zp, zq]
    simpa using last
  | k + 1, i, hk, hi, s, hs => by
    obtain ⟨xs, ys, m, m2, gp, gq, zp, zq, tn⟩ := hJ _ _ hs
    have ip : i < xs.size := by omega
    have iq : i < ys.size := by omega
    have tt := tn ip iq
    obtain ⟨hh, gg, dd, kk, oo⟩ := s
    wp_walk using wpAny_loadPart' gp, wpAny_loadPart' gq
    have n1 : xs[((i : Nat) : Int).toNat]? = some xs[i] := by simp [ip]
    have n2 : ys[((i : Nat) : Int).toNat]? = some ys[i] := by simp [iq]
    have up : ((i : Int) + 1) = ((i + 1 : Nat) : Int) := by omega
    rw [n1, n2]
    refine wpAny_bind (wpAny_mono tt (fun r s2 h2 => ?_) fun _ _ x => x)
    obtain ⟨er, h2⟩ := h2
    subst er
    have next := ne_turns p q N J hJ done k (i + 1) (by omega) (by omega) s2 h2
    obtain ⟨hh2, gg2, dd2, kk2, oo2⟩ := s2
    wp_walk
    rw [up]
    exact ⟨plainId_quiet plain_eq_loop _, codeAny_builtin entry_eq_loop (by rw [Around.under_plainId plain_eq_loop _]; exact next)⟩
theorem ne_lists (p q : Addr) (N : Nat) (J : Nat → Shared → Prop) (hJ : GQ.ListI prog w A (fun e s' => R (.error e) s') p q N J)
    (done : ∀ s, J N s → R (.ok (.ret (.bool false))) s) {s : Shared} (hs : J 0 s) :
    wpAny (model prog w) A.in1 (Builtin.«list.__ne__» ⟨[.ref p, .ref q], []⟩) (GQ.FinOf prog w A R) (fun e s' => R (.error e) s') s := by
  obtain ⟨xs, ys, m, m2, gp, gq, zp, zq, _⟩ := hJ _ _ hs
  have all := ne_turns (A := A) (R := R) p q N J hJ done _ 0 rfl (Nat.zero_le _) s hs
  obtain ⟨hh, gg, dd, kk, oo⟩ := s
  have sub := AutoSeq1.sub_list_list
  have same : ¬ (xs.size != ys.size) = true := by simp [zp, zq]
  wp_walk using wpAny_loadPart' gp, wpAny_loadPart' gq
  exact ⟨plainId_quiet plain_eq_loop _, codeAny_builtin entry_eq_loop (by rw [Around.under_plainId plain_eq_loop _]; exact all)⟩
end
section
variable {prog : Program} {w : World} {A : Around} {E : Value → Shared → Prop} {s : Shared}
theorem rc_ne {p q : Addr} {N : Nat} {Q : Value → Shared → Prop} (hu : A.units < cLine) (J : Nat → Shared → Prop) (hJ : GQ.ListI prog w A E p q N J)
    (done : ∀ s, J N s → Q (.bool false) s) (hs : J 0 s) : wpAny (model prog w) A (richCompare .NotEq (.ref p) (.ref q)) Q E s := by
  obtain ⟨xs, ys, m, m2, gp, gq, _, _, _⟩ := hJ _ _ hs
  refine wpAny_richCompare_same_room (op := .NotEq) ⟨_, gp, rfl⟩ ⟨_, gq, rfl⟩ F.slot_list_ne (GQ.call_here F.slot_list_ne ⟨_, gp, rfl⟩ F.entry_list_ne (F.args_list_ne_2 _ _) ?_) hu
  exact ne_lists (R := wants (fun v s' => v ≠ .notImplemented ∧ Q v s') E) p q N J hJ (fun s' z => ⟨(fun x => nomatch x), done s' z⟩) hs
end
open L2 in
/-- xs != ys, where the items are equal by their own == : False -/
def rNeG (D : Eqv) : R2 := fun x y H Q => DList D x y H ∧ ∀ H', Ext H H' → Q (.bl false) H'
open L2 in
theorem op_neG {X : Cx} {n : Nat} {D : Eqv} (hD : Mon D) (h : EqG X n D) (hr : Room (n + 1) X.A) : OpR X (compareOp .NotEq) (rNeG D) := by
  intro pins s σ H x y v u Q I rx ry hq
  obtain ⟨⟨a, b, xs, ys, rfl, rfl, ha, hb, p⟩, q⟩ := hq
  cases rx
  cases ry
  show wpAny (model X.prog X.w) X.A (richCompare .NotEq (.ref a) (.ref b)) (EP X pins σ Q) X.xe s
  refine rc_ne (N := xs.length) hr.units0 (fun _ s' => LoopI X pins σ H s') (fun i s' z => ?_) (fun s' z => ?_) ⟨H, I, Ext.rfl'⟩
  · obtain ⟨H1, I1, e1⟩ := id z
    obtain ⟨_, its, k, r, e⟩ := I1.hok a _ (e1 _ _ ha)
    obtain ⟨_, its2, k2, r2, e2⟩ := I1.hok b _ (e1 _ _ hb)
    exact ⟨its.toArray, its2.toArray, k, k2, e, e2, by rw [List.size_toArray, ← r.length], by rw [List.size_toArray, ← r2.length, ← p.1], fun g1 g2 => turnG hD h ⟨hr, rfl⟩ p r r2 i g1 g2 s' z⟩
  · obtain ⟨H1, I1, e1⟩ := z
    exact ⟨.bl false, H1, I1, rfl, q H1 e1⟩
end KA
namespace KA
open PySem PySem.Spec PyProof.Rows L2
/-! ### shares as pairs -/
/-- by what both are divided -/
def prt (n d : Int) : Int := if d < 0 then -(Int.gcd n d : Int) else (Int.gcd n d : Int)
def shr (n d : Int) : Int × Int := (n.fdiv (prt n d), d.fdiv (prt n d))
theorem gcd_pos {n d : Int} (h : d ≠ 0) : 0 < Int.gcd n d := by
  have : Int.gcd n d ≠ 0 := fun z => h (Int.gcd_eq_zero_iff.mp z).2
  omega
theorem prt_ne {n d : Int} (h : d ≠ 0) : prt n d ≠ 0 := by
  have := gcd_pos (n := n) h
  unfold prt
  split <;> omega
theorem prt_dvd1 (n d : Int) : prt n d ∣ n := by
  unfold prt
  split
  · exact Int.neg_dvd.mpr (Int.gcd_dvd_left ..)
  · exact Int.gcd_dvd_left ..
theorem prt_dvd2 (n d : Int) : prt n d ∣ d := by
  unfold prt
  split
  · exact Int.neg_dvd.mpr (Int.gcd_dvd_right ..)
  · exact Int.gcd_dvd_right ..
theorem shr1 (n d : Int) : prt n d * (shr n d).1 = n := by
  show prt n d * n.fdiv (prt n d) = n
  rw [Int.fdiv_eq_ediv_of_dvd (prt_dvd1 n d)]
  exact Int.mul_ediv_cancel' (prt_dvd1 n d)
theorem shr2 (n d : Int) : prt n d * (shr n d).2 = d := by
  show prt n d * d.fdiv (prt n d) = d
  rw [Int.fdiv_eq_ediv_of_dvd (prt_dvd2 n d)]
  exact Int.mul_ediv_cancel' (prt_dvd2 n d)
theorem shr_pos {n d : Int} (h : d ≠ 0) : 0 < (shr n d).2 := by
  have e := shr2 n d
  have g := gcd_pos (n := n) h
  by_cases hd : d < 0
  · have hp : prt n d < 0 := by unfold prt; rw [if_pos hd]; omega
    rcases Int.lt_trichotomy (shr n d).2 0 with z | z | z
    · have := Int.mul_pos_of_neg_of_neg hp z
      omega
    · rw [z] at e
      omega
    · exact z
  · have hp : 0 < prt n d := by unfold prt; rw [if_neg hd]; omega
    rcases Int.lt_trichotomy (shr n d).2 0 with z | z | z
    · have := Int.mul_neg_of_pos_of_neg hp z
      omega
    · rw [z] at e
      omega
    · exact z
theorem prt_abs (n d : Int) : (prt n d).natAbs = Int.gcd n d := by
  unfold prt
  split <;> omega
theorem shr_low {n d : Int} (h : d ≠ 0) : Int.gcd (shr n d).1 (shr n d).2 = 1 := by
  have g := gcd_pos (n := n) h
  have e : Int.gcd (prt n d * (shr n d).1) (prt n d * (shr n d).2) = (prt n d).natAbs * Int.gcd (shr n d).1 (shr n d).2 := Int.gcd_mul_left ..
  rw [shr1, shr2, prt_abs] at e
  have : Int.gcd n d * 1 = Int.gcd n d * Int.gcd (shr n d).1 (shr n d).2 := by omega
  exact (Nat.eq_of_mul_eq_mul_left g this).symm
/-- of the worth u over g -/
def Eqf (x : Int × Int) (u g : Int) : Prop := x.1 * g = u * x.2
theorem shr_eqf (n d : Int) : Eqf (shr n d) n d := by
  have a := shr1 n d
  have b := shr2 n d
  show (shr n d).1 * d = n * (shr n d).2
  generalize prt n d = p at a b
  generalize (shr n d).1 = x at a ⊢
  generalize (shr n d).2 = y at b ⊢
  subst a b
  grind
theorem eqf_trans {n d u g : Int} (h : d ≠ 0) (e : n * g = u * d) : Eqf (shr n d) u g := by
  have a := shr_eqf n d
  unfold Eqf at a ⊢
  refine Int.eq_of_mul_eq_mul_right h ?_
  grind
theorem eqf_plus {x y : Int × Int} {a b c d : Int} (hx : Eqf x a b) (hy : Eqf y c d) (x0 : 0 < x.2) (y0 : 0 < y.2) : Eqf (shr (x.1 * y.2 + y.1 * x.2) (x.2 * y.2)) (a * d + c * b) (b * d) := by
  unfold Eqf at hx hy
  refine eqf_trans (Int.mul_ne_zero (by omega) (by omega)) ?_
  grind
theorem eqf_minus {x y : Int × Int} {a b c d : Int} (hx : Eqf x a b) (hy : Eqf y c d) (x0 : 0 < x.2) (y0 : 0 < y.2) : Eqf (shr (x.1 * y.2 - y.1 * x.2) (x.2 * y.2)) (a * d - c * b) (b * d) := by
  unfold Eqf at hx hy
  refine eqf_trans (Int.mul_ne_zero (by omega) (by omega)) ?_
  grind
theorem eqf_times {x y : Int × Int} {a b c d : Int} (hx : Eqf x a b) (hy : Eqf y c d) (x0 : 0 < x.2) (y0 : 0 < y.2) : Eqf (shr (x.1 * y.1) (x.2 * y.2)) (a * c) (b * d) := by
  unfold Eqf at hx hy
  refine eqf_trans (Int.mul_ne_zero (by omega) (by omega)) ?_
  grind
def sgn (m : Int) : Int := if m < 0 then -1 else 1
theorem below_iff {x y : Int × Int} {a b c d : Int} (hx : Eqf x a b) (hy : Eqf y c d) (x0 : 0 < x.2) (y0 : 0 < y.2) (hb : b ≠ 0) (hd : d ≠ 0) : (x.1 * y.2 < y.1 * x.2) ↔ (sgn (b * d) * a * d < sgn (b * d) * c * b) := by
  unfold Eqf at hx hy
  have bd : b * d ≠ 0 := Int.mul_ne_zero hb hd
  have hp : 0 < sgn (b * d) * (b * d) := by
    unfold sgn
    split <;> omega
  have xy : 0 < x.2 * y.2 := Int.mul_pos x0 y0
  rw [← Int.mul_lt_mul_right hp, ← Int.mul_lt_mul_right (a := x.2 * y.2) (b := sgn (b * d) * a * d) xy]
  have e1 : x.1 * y.2 * (sgn (b * d) * (b * d)) = sgn (b * d) * a * d * (x.2 * y.2) := by grind
  have e2 : y.1 * x.2 * (sgn (b * d) * (b * d)) = sgn (b * d) * c * b * (x.2 * y.2) := by grind
  rw [e1, e2]
/-! ### sums -/
def PP : List (Int × Int) → Int
  | [] => 1
  | x :: l => x.2 * PP l
def NN : List (Int × Int) → Int
  | [] => 0
  | x :: l => x.1 * PP l + NN l * x.2
theorem PP_app : ∀ l m : List (Int × Int), PP (l ++ m) = PP l * PP m
  | [], m => by show PP m = 1 * PP m; omega
  | x :: l, m => by
    show x.2 * PP (l ++ m) = x.2 * PP l * PP m
    rw [PP_app l m, Int.mul_assoc]
theorem NN_app : ∀ l m : List (Int × Int), NN (l ++ m) = NN l * PP m + NN m * PP l
  | [], m => by
    show NN m = 0 * PP m + NN m * 1
    omega
  | x :: l, m => by
    show x.1 * PP (l ++ m) + NN (l ++ m) * x.2 = (x.1 * PP l + NN l * x.2) * PP m + NN m * (x.2 * PP l)
    rw [NN_app l m, PP_app l m]
    grind
theorem PP_snoc (l : List (Int × Int)) (x : Int × Int) : PP (l ++ [x]) = PP l * x.2 := by
  rw [PP_app]
  show PP l * (x.2 * 1) = _
  rw [Int.mul_one]
theorem NN_snoc (l : List (Int × Int)) (x : Int × Int) : NN (l ++ [x]) = NN l * x.2 + x.1 * PP l := by
  rw [NN_app]
  show NN l * (x.2 * 1) + (x.1 * 1 + 0 * x.2) * PP l = _
  grind
theorem PP_rev : ∀ l : List (Int × Int), PP l.reverse = PP l
  | [] => rfl
  | x :: l => by
    rw [List.reverse_cons, PP_snoc, PP_rev l]
    exact Int.mul_comm ..
theorem NN_rev : ∀ l : List (Int × Int), NN l.reverse = NN l
  | [] => rfl
  | x :: l => by
    rw [List.reverse_cons, NN_snoc, NN_rev l, PP_rev l]
    show NN l * x.2 + x.1 * PP l = x.1 * PP l + NN l * x.2
    omega
/-! ### sizes -/
def Sz (k : Nat) (n : Int) : Prop := n.natAbs < 2 ^ k
theorem Sz.mono {k m : Nat} {n : Int} (h : Sz k n) (e : k ≤ m) : Sz m n := Nat.lt_of_lt_of_le h (Nat.pow_le_pow_right (by decide) e)
theorem Sz.mul {k m : Nat} {a b : Int} (ha : Sz k a) (hb : Sz m b) : Sz (k + m) (a * b) := by
  unfold Sz
  rw [Int.natAbs_mul, Nat.pow_add]
  exact Nat.mul_lt_mul'' ha hb
theorem Sz.add {k : Nat} {a b : Int} (ha : Sz k a) (hb : Sz k b) : Sz (k + 1) (a + b) := by
  unfold Sz at *
  rw [Nat.pow_succ]
  omega
theorem Sz.sub {k : Nat} {a b : Int} (ha : Sz k a) (hb : Sz k b) : Sz (k + 1) (a - b) := by
  unfold Sz at *
  rw [Nat.pow_succ]
  omega
theorem Sz.mw {k m : Nat} {a b : Int} (ha : Sz k a) (hb : Sz m b) (h : k + m + 2 ≤ 1000000) : CMulW a b := wide_mul (ha.mono (Nat.le_succ k)) (hb.mono (Nat.le_succ m)) (by omega) (by omega) (by omega)
theorem Sz.div {k : Nat} {n d : Int} (p : Int) (h : Sz k n) (e : p * d = n) (hp : p ≠ 0) : Sz k d := by
  unfold Sz at *
  subst e
  rw [Int.natAbs_mul] at h
  refine Nat.lt_of_le_of_lt ?_ h
  exact Nat.le_mul_of_pos_left _ (by omega)
theorem shr_sz {k : Nat} {n d : Int} (hd : d ≠ 0) (hn : Sz k n) (h : Sz k d) : Sz k (shr n d).1 ∧ Sz k (shr n d).2 := ⟨hn.div (prt n d) (shr1 n d) (prt_ne hd), h.div (prt n d) (shr2 n d) (prt_ne hd)⟩
/-- // by any number but 0 below 2 ^ 9000 -/
def CDivX (_ j : Int) : Prop := j ≠ 0 ∧ j.natAbs.log2 < 9000
theorem op_fdivX {X : Cx} : OpR X (binaryOp .FloorDiv) (rI CDivX fun i j => .int (i.fdiv j)) := opI fun i j _ _ _ _ _ hc q => floordiv_int hc.1 q (.inl (PyProof.noPylong_of_log2 hc.2))
theorem gcd_turn (a b : Nat) (h : 0 < b) : Nat.gcd b (a % b) = Nat.gcd a b := by
  rw [Nat.gcd_comm a b, Nat.gcd_rec b a, Nat.gcd_comm]
theorem pg_tupK {X : Cx} {K' : PySem.W.Frag} (hK : X.K = K') {es : List Expr} {k : Nat} {pos : Pos} {t : TGs} {n : Nat} (hc : X.calm = true) (h : PGs X es t)
    (hn : (assignEach es X.env).length = n := by rfl) (hst : (assignEach es X.env).findIdx? (·.1) = none := by rfl) : PG X (.Tuple es k pos) (gTup K' n t) := by
  subst hK
  exact pg_tup hc h hn hst
end KA
namespace KA
open PySem PySem.Spec PyProof.Rows L2
/-- what isinstance asks of an own class -/
structure ICls (K : PySem.W.Frag) (C : Addr) : Prop where
  ha : PySem.W.findIn K (.ref C) "__class__" = some (some (.builtin "object.__class__"))
  hn : PySem.W.specialIn K (.builtin "object.__class__") "__get__" = some (some (.builtin "getset_descriptor.__get__"))
  htk : PySem.W.takesIn K (.builtin "object.__class__") = some true
  hm : PySem.W.mroIn K C (.type "object") = some true
  kit : PySem.W.kitOne K (.ref C) (.ref C) = some true
theorem ICls.ty {K : PySem.W.Frag} {C : Addr} (i : ICls K C) (cl : Cls K C) {H : Hp} {p dx : Addr} {fs : List (Str × V)} (h : H p = some (.ins C dx fs)) : TyX K H (.ref p) (.ref C) := .base (.ins h cl i.ha i.hn i.htk i.hm)
theorem prt_log {n d : Int} {k : Nat} (hd : d ≠ 0) (h : Sz k d) (hk : k ≤ 8000) : (prt n d).natAbs.log2 < 9000 := by
  rw [prt_abs]
  refine Nat.lt_of_lt_of_le (PySem.Flt.log2_lt_of (k := k + 1) (by omega) ?_) (by omega : k + 1 ≤ 9000)
  have : Int.gcd n d ≤ d.natAbs := Nat.le_of_dvd (by omega) (Int.gcd_dvd_natAbs_right n d)
  exact Nat.lt_of_le_of_lt this (h.mono (Nat.le_succ k))
theorem abs_nat (n : Int) : (if n < 0 then -n else n) = (n.natAbs : Int) := by
  split <;> omega
end KA
namespace KA
open PySem PySem.Spec PyProof.Rows L2
/-! ### isinstance of a caught error that has fields of its own -/
theorem xd_at {P : Program} {w : World} {H : Hp} {h : Heap} {dd : Addr} {fs : List (Str × V)} (hok : HOk P w H h) (e : H dd = some (.xd fs)) : ∃ od, h.get? dd = some od := by
  obtain ⟨mA, ⟨od, es, ep, ho, _⟩, _⟩ := (show ObjOk P w H h dd (.xd fs) from hok dd _ e)
  exact ⟨od, ho⟩
theorem kit_exc {K : PySem.W.Frag} {D x : Addr} {ox : Obj} {od : Option Obj} (C : ExcC K D) : PySem.W.KitX K (.ref x) (.ref D) (fun h => PySem.W.InstAt h x ox D od) :=
  PySem.W.kitx_exc (by obtain ⟨cd, hc, _⟩ := PySem.W.any_some C.hd; rw [hc]; rfl) C.hg C.hk C.hs C.ha C.hn C.ht C.hm
def rIsD (K : PySem.W.Frag) (a : Addr) (cls : Value) (d : Option Addr) : List V → Hp → VK → Prop := fun xs H Q => ∃ (D dd : Addr) (fs : List (Str × V)) (c : V) (u : Value) (b : Bool), xs = [.ref a, c] ∧ cls = .ref D ∧ d = some dd ∧ H dd = some (.xd fs) ∧ ExcC K D ∧ ClsV c u ∧ PySem.W.kitOne K (.ref D) u = some b ∧ Q (.bl b) H
def rIsDT (K : PySem.W.Frag) (a : Addr) (cls : Value) (d : Option Addr) : List V → Hp → VK → Prop := fun xs H Q => ∃ (D dd tp : Addr) (fs : List (Str × V)) (cs : List V) (us : List Value) (b : Bool), xs = [.ref a, .ref tp] ∧ cls = .ref D ∧ d = some dd ∧ H dd = some (.xd fs) ∧ ExcC K D ∧ H tp = some (.tup cs) ∧ Paired ClsV cs us ∧ PySem.W.kitAny K (.ref D) us = some b ∧ Q (.bl b) H
section
variable {X : Cx} {a : Addr} {oe : Obj} {cls : Value} {d : Option Addr} {pn : List (Addr × Obj)}
theorem inst_of {pins : List (Addr × Obj)} {σ : L2.St} {H : Hp} {s : Shared} {D dd : Addr} {fs : List (Str × V)} (hz : Zc (.ref D) (some dd) oe) (hf : ∃ vs, oe.data = .fields vs) (I : Inv (X.suite a ((a, oe) :: pn)) pins σ H s) (e : H dd = some (.xd fs)) : ∃ od, PySem.W.InstAt s.heap a oe D (some od) := by
  obtain ⟨hget, _⟩ := I.pin (a, oe) (List.mem_append.mpr (.inl List.mem_cons_self))
  obtain ⟨vs, hv⟩ := hf
  obtain ⟨od, ho⟩ := xd_at I.hok e
  exact ⟨od, hget, hz.1, by unfold PySem.W.notCls; rw [hv] <;> rfl, by rw [hz.2]; exact ho⟩
theorem call_isD (hz : Zc cls d oe) (hf : ∃ vs, oe.data = .fields vs) : CallR (X.suite a ((a, oe) :: pn)) (.builtin "isinstance") (rIsD X.K a cls d) := by
  intro pins s σ H xs us Q I r h
  obtain ⟨D, dd, fs, c, u, b, rfl, rfl, rfl, e, C, k, hk, q⟩ := h
  obtain ⟨u1, u2, rfl, r1, r2⟩ := vals2 r
  cases (show u1 = Value.ref a from r1)
  have e2 := k.eq r2
  subst e2
  obtain ⟨od, J⟩ := inst_of hz hf I e
  exact PySem.W.kia_one (kit_exc C) I.kIn J hk (fun z => nomatch z) fun tk => ⟨.bl b, H, I.tok tk, rfl, q⟩
theorem call_isDT (hz : Zc cls d oe) (hf : ∃ vs, oe.data = .fields vs) : CallR (X.suite a ((a, oe) :: pn)) (.builtin "isinstance") (rIsDT X.K a cls d) := by
  intro pins s σ H xs us Q I r h
  obtain ⟨D, dd, tp, fs, cs, ws, b, rfl, rfl, rfl, e, C, hT, k, hk, q⟩ := h
  obtain ⟨u1, u2, rfl, r1, r2⟩ := vals2 r
  cases (show u1 = Value.ref a from r1)
  cases (show u2 = Value.ref tp from r2)
  obtain ⟨od, J⟩ := inst_of hz hf I e
  obtain ⟨_, its, rv, o, h1, h2, n, h3⟩ := (show ObjOk X.prog X.w H s.heap tp (.tup cs) from I.hok tp _ hT)
  have e3 := ClsV.all k rv
  subst e3
  obtain ⟨oc, od', dt, sl⟩ := o
  simp only at h2 h3
  subst h2 h3
  exact PySem.W.kia_tup (kit_exc C) I.kIn J h1 hk (fun z => nomatch z) fun tk => ⟨.bl b, H, I.tok tk, rfl, q⟩
end
theorem call_isiS {X : Cx} {K' : PySem.W.Frag} (hK : X.K = K') : CallR X (.builtin "isinstance") (rIsi K') := by
  subst hK
  exact call_isi
/-! ### calls that let nothing out, bodies that are never run -/
theorem passF {X : Cx} : Passes (L2.CX X.prog X.w) X E0 := passes_call takes0 (fun _ _ _ _ h => h)
/-! ### keywords: which of what is handed in, of the defaults, of the keywords stands where -/
def kw1 {α : Type} (p : Nat × Nat) (us its ws : List α) : List α := match p with
  | (0, i) => us[i]?.toList
  | (1, i) => its[i]?.toList
  | (_, i) => ws[i]?.toList
def kw {α : Type} : List (Nat × Nat) → List α → List α → List α → List α
  | [], _, _, _ => []
  | p :: f, us, its, ws => kw1 p us its ws ++ kw f us its ws
theorem vals_at : ∀ {xs : List V} {us : List Value}, Vals xs us → ∀ i : Nat, (xs[i]? = none ∧ us[i]? = none) ∨ ∃ x u, xs[i]? = some x ∧ us[i]? = some u ∧ RelV x u
  | _, _, .nil, _ => .inl ⟨rfl, rfl⟩
  | _, _, .cons r _, 0 => .inr ⟨_, _, rfl, rfl, r⟩
  | _, _, .cons _ t, i + 1 => by
    rw [List.getElem?_cons_succ, List.getElem?_cons_succ]
    exact vals_at t i
theorem vals_one {xs : List V} {us : List Value} (h : Vals xs us) (i : Nat) : Vals xs[i]?.toList us[i]?.toList := by
  rcases vals_at h i with ⟨e1, e2⟩ | ⟨x, u, e1, e2, r⟩
  · rw [e1, e2]
    exact .nil
  · rw [e1, e2]
    exact .cons r .nil
theorem kw_rel : ∀ (f : List (Nat × Nat)) {vs ds zs : List V} {us is ws : List Value}, Vals vs us → Vals ds is → Vals zs ws → Vals (kw f vs ds zs) (kw f us is ws)
  | [], _, _, _, _, _, _, _, _, _ => .nil
  | (0, i) :: f, _, _, _, _, _, _, h1, h2, h3 => (vals_one h1 i).append (kw_rel f h1 h2 h3)
  | (1, i) :: f, _, _, _, _, _, _, h1, h2, h3 => (vals_one h2 i).append (kw_rel f h1 h2 h3)
  | (_ + 2, i) :: f, _, _, _, _, _, _, h1, h2, h3 => (vals_one h3 i).append (kw_rel f h1 h2 h3)
/-! ### PearlError's own way: one field -/
def spPearl (K : PySem.W.Frag) (f : Str) : Sp := fun vs H Q _ => ∃ (a C : Addr) (v : V), vs = [.ref a, v] ∧ OexC K C ∧ PySem.W.findIn K (.ref C) f = some none ∧ H a = some (exo a C none) ∧
  ∀ dx, H dx = none → dx ≠ a → Q .non (upd (upd H dx (exd dx [(f, v)])) a (exo a C (some dx)))
theorem pearl_same {H : Hp} {a dx : Addr} {o1 o2 o3 : HO} {fs : List (Str × V)} (ha : H a = none) (hd : H dx = none) : Same H (upd (del (upd (upd (upd H a o1) dx o2) a o3) a) dx (.xd fs)) := fun b o e => by
  rw [upd_ne (ne_of_none e hd), del_ne (ne_of_none e ha), upd_ne (ne_of_none e ha), upd_ne (ne_of_none e hd), upd_ne (ne_of_none e ha)]
  exact e
end KA
/-! errors of own classes over any built-in class of errors: made, stored into -/
namespace KA
open PySem PySem.W PySem.Calls PyProof.Rows
section
open Builtin Builtin.ObjectAttr
variable {prog : Program} {w : World} {A : Around} {E : Value → Shared → Prop} {R : Result → Shared → Prop} {hp : Heap} {g : Array GenState} {d : Drawn} {t : Nat} {os : OsState} {B : String} {bmB : List Value}
theorem gosa {K : W.Frag} {name : Str} {tk : Tok} {v : Value} {x C : Addr} {fv : Array Value} {cd : ClassData} {bm : List Value} (SF : StoreFacts B bmB "object.__setattr__" "object")
    (X : K.In hp) (hx : hp.get? x = some { cls := .ref C, data := .fields fv }) (hcd : W.clsIn K C = some cd) (hmr : cd.mro = .ref C :: bm) (hm : W.excTail bmB bm = true) (hh : cd.hasDict = true) (ha : W.findIn K (.ref C) name = some none)
    (hq : ∀ h' tk' dx, (∀ b o, b ≠ x → hp.get? b = some o → h'.get? b = some o) → hp.objs.size ≤ dx → dx ≠ x → h'.get? x = some { cls := .ref C, dict := some dx, data := .fields fv } →
      h'.Ns1 dx (fun y => if y = name then some v else none) → R (.ok (.ret .none)) ⟨h', g, d, tk', os⟩) :
    codeAny (model prog w) A (.call (.builtin "object.__setattr__") ⟨[.ref x, .str name tk, v], []⟩) R ⟨hp, g, d, t, os⟩ := by
  have I : W.InstAt hp x { cls := .ref C, data := .fields fv } C none := ⟨hx, rfl, rfl, trivial⟩
  have hxs : x ≠ hp.objs.size := Nat.ne_of_lt (Heap.lt_size hx)
  have tl : W.excTail bmB cd.mro = true := by rw [hmr]; exact hm
  have hob : cd.mro.contains (.type "object") = true := (W.excTail_contains "object" _ tl).trans SF.hasOwner
  have sub : W.Looks (model prog w) hp (isInstance (.ref x) (.type "object")) true := I.type.andThen (W.looks_mroIn X (by unfold W.mroIn; rw [hcd, Option.bind_some, if_neg (by rw [hmr]; simp), hob]))
  have SO := F.store_object
  refine codeAny_call_builtin SO.slot.plain SO.entry (@W.check_slot (model prog w) _ _ ⟨hp, g, d, t, os⟩ "object.__setattr__" "object" "__setattr__" (.ref x) [.str name tk, v] [] _ SO.kind SO.split sub (SO.args (.ref x) (.str name tk) v) ?_)
  have L1 : W.Looks (model prog w) hp (mroOf (.ref C)) cd.mro := (W.looks_clsIn X hcd).andThen .now
  have L2 : W.Looks (model prog w) hp (storeTaker? none) none := .now
  have L3 : W.Looks (model prog w) hp (classData C) cd := W.looks_clsIn X hcd
  rw [W.osa_eq, refuse_eq]
  refine wpAny_bind (wpAny_bind (I.type.at (wpAny_bind (L1.at ?_))))
  rw [W.excTail_pass _ (SF.passes _) _ tl]
  refine wpAny_pure (wpAny_bind (I.type.at (wpAny_bind ((W.looks_findIn X ha).at (wpAny_bind (L2.at ?_))))))
  show wpAny _ _ (storeInOwnDict (.ref x) (.ref C) (.str name tk) name v false) _ _ _
  obtain ⟨nm, bs, mro, ns, qn, hd, sn, sb, ab, col, del⟩ := cd
  dsimp only at hh
  subst hh
  unfold storeInOwnDict ownDictForStores
  repeat (first | with_reducible refine HandSPX.store_in_new ?_ ?_ | with_reducible refine wpAny_loadPart_at hx ?_ | with_reducible refine L3.at ?_ | wp_step)
  · exact ⟨_, #[], _, (Heap.get?_update_ne _ _ _ _ hxs.symm).trans (Heap.get?_push_at rfl rfl), rfl, fun e he => absurd he (by simp), fun _ => rfl⟩
  · intro h' tk' hn' hs
    have hx₁ : (hp.push { cls := .type "dict", data := .dict #[] }).get? x = some { cls := .ref C, data := .fields fv } := Heap.get?_push_of_some _ hx
    refine hq h' tk' hp.objs.size (fun b o hb ho => ?_) (Nat.le_refl _) hxs.symm ?_ hn'
    · exact (hs.2 b (Nat.ne_of_lt (Heap.lt_size ho))).trans ((Heap.get?_update_ne _ _ _ _ hb).trans (Heap.get?_push_of_some _ ho))
    · exact (hs.2 x hxs).trans (Heap.get?_update_self _ hx₁ rfl)
theorem gosa_old {K : W.Frag} {name : Str} {tk : Tok} {v : Value} {x C dx : Addr} {fv : Array Value} {cd : ClassData} {bm : List Value} {m0 : Str → Option Value} {nl : List Str} (SF : StoreFacts B bmB "object.__setattr__" "object")
    (X : K.In hp) (hx : hp.get? x = some { cls := .ref C, dict := some dx, data := .fields fv }) (hns : hp.Ns1 dx m0) (hw : Within m0 nl) (hz : nl.length ≤ 1000) (hcd : W.clsIn K C = some cd) (hmr : cd.mro = .ref C :: bm) (hm : W.excTail bmB bm = true) (hh : cd.hasDict = true)
    (ha : W.findIn K (.ref C) name = some none)
    (hq : ∀ h' tk', (∀ b o, b ≠ dx → hp.get? b = some o → h'.get? b = some o) → h'.Ns1 dx (fun y => if y = name then some v else m0 y) → R (.ok (.ret .none)) ⟨h', g, d, tk', os⟩) :
    codeAny (model prog w) A (.call (.builtin "object.__setattr__") ⟨[.ref x, .str name tk, v], []⟩) R ⟨hp, g, d, t, os⟩ := by
  obtain ⟨oD, esD, epD, hoD, hdD, _⟩ := hns.count hw
  have I : W.InstAt hp x { cls := .ref C, dict := some dx, data := .fields fv } C (some oD) := ⟨hx, rfl, rfl, hoD⟩
  have tl : W.excTail bmB cd.mro = true := by rw [hmr]; exact hm
  have hob : cd.mro.contains (.type "object") = true := (W.excTail_contains "object" _ tl).trans SF.hasOwner
  have sub : W.Looks (model prog w) hp (isInstance (.ref x) (.type "object")) true := I.type.andThen (W.looks_mroIn X (by unfold W.mroIn; rw [hcd, Option.bind_some, if_neg (by rw [hmr]; simp), hob]))
  have SO := F.store_object
  refine codeAny_call_builtin SO.slot.plain SO.entry (@W.check_slot (model prog w) _ _ ⟨hp, g, d, t, os⟩ "object.__setattr__" "object" "__setattr__" (.ref x) [.str name tk, v] [] _ SO.kind SO.split sub (SO.args (.ref x) (.str name tk) v) ?_)
  have L1 : W.Looks (model prog w) hp (mroOf (.ref C)) cd.mro := (W.looks_clsIn X hcd).andThen .now
  have L2 : W.Looks (model prog w) hp (storeTaker? none) none := .now
  have L3 : W.Looks (model prog w) hp (classData C) cd := W.looks_clsIn X hcd
  rw [W.osa_eq, refuse_eq]
  refine wpAny_bind (wpAny_bind (I.type.at (wpAny_bind (L1.at ?_))))
  rw [W.excTail_pass _ (SF.passes _) _ tl]
  refine wpAny_pure (wpAny_bind (I.type.at (wpAny_bind ((W.looks_findIn X ha).at (wpAny_bind (L2.at ?_))))))
  show wpAny _ _ (storeInOwnDict (.ref x) (.ref C) (.str name tk) name v false) _ _ _
  obtain ⟨nm, bs, mro, ns, qn, hd, sn, sb, ab, col, del⟩ := cd
  dsimp only at hh
  subst hh
  unfold storeInOwnDict ownDictForStores
  repeat (first | with_reducible refine OEX.store_in_old hns hw hz ?_ | with_reducible refine wpAny_loadPart_at hx ?_ | with_reducible refine L3.at ?_ | wp_step)
  intro h' tk' hn' hs
  exact hq h' tk' (fun b o hb ho => (hs.2 b hb).trans ho) hn'
end
end KA
namespace KA
open PySem PySem.Spec PyProof.Rows L2
/-- what the written part says of a class of errors over the built-in one B -/
structure OexB (newId : String) (bmB : List Value) (K : PySem.W.Frag) (C : Addr) : Prop where
  cls : ∃ nm q N bs bm sn sub ab col dd k0 k1 k2 k3 k5, K.lookup C = some (excClassObj nm q C N bs bm true sn sub ab col dd k0 k1 k2 k3 k5 newId) ∧ PySem.W.excTail bmB bm = true
  sa : PySem.W.findIn K (.ref C) "__setattr__" = some (some (.builtin "object.__setattr__"))
  exC : PySem.W.subIn K (.ref C) (.type "BaseException") = some true
  tyC : PySem.W.typeIn K (.ref C) = some (.type "type")
  kC : PySem.W.keepIn K (.ref C) = true
section
variable {X : Cx} {pins : List (Addr × Obj)} {σ : L2.St} {H : Hp} {s : Shared} {a C dx : Addr} {f : Str} {y : V} {u : Value} {fs : List (Str × V)} {Q : Unit → Shared → Prop} {E : Value → Shared → Prop} {A : Around} {B newId initId : String} {bmB : List Value}
theorem gost_new (SF : StoreFacts B bmB "object.__setattr__" "object") (T : OexB newId bmB X.K C) (I : L2.Inv X pins σ H s) (e : H a = some (exo a C none)) (hno : PySem.W.findIn X.K (.ref C) f = some none) (ry : RelV y u)
    (h : ∀ dx s', H dx = none → dx ≠ a → L2.Inv X pins σ (upd (upd H dx (exd dx [(f, y)])) a (exo a C (some dx))) s' → Q () s') : wpAny (model X.prog X.w) A (setAttr (.ref a) f u) Q E s := by
  obtain ⟨nm, q, N, bs, bm, sn, sub, ab, col, dd, k0, k1, k2, k3, k5, hC, hbm⟩ := T.cls
  have hcl : PySem.W.clsIn X.K C = some { name := nm, bases := bs, mro := .ref C :: bm, ns := N, qualname := q, hasDict := true, slotNames := sn, subclasses := sub, abstract := ab, collection := col, hasDel := false } := by unfold PySem.W.clsIn; rw [hC] <;> rfl
  obtain ⟨t1, ho⟩ := exo_at I.hok e
  obtain ⟨hp, g, d, t, os⟩ := s
  refine PySem.W.set_plain I.kIn (ox := { cls := .ref C, dict := none, data := .fields #[.ref t1, .none, .none, .none, .bool false, .none] }) (od := none) ⟨ho, rfl, rfl, trivial⟩ T.sa ?_
  refine gosa SF I.kIn ho hcl rfl hbm rfl hno (fun h' tk' dx k dn dne hx hn => ?_)
  have hnd : H dx = none := I.hok.fresh dn
  have nd : ∀ {b : Addr} {o : Obj}, hp.get? b = some o → b ≠ dx := fun {b o} q => Nat.ne_of_lt (Nat.lt_of_lt_of_le (Heap.lt_size q) dn)
  have na : ∀ {b : Addr}, H b = none → b ≠ a := fun {b} n z => by
    rw [z, e] at n
    cases n
  have U : Un X.fs [] H (upd (upd H dx (exd dx [(f, y)])) a (exo a C (some dx))) hp h' := {
    keep := fun b o q n _ _ => k b o (na n) q
    slot := fun b o q n _ _ => ⟨o.slots, k b o (na n) q⟩
    free := fun b o q n _ => by rw [upd_ne (na n), upd_ne (nd q)]; exact n
    there := fun b o q _ => by
      by_cases hb : b = a
      · exact ⟨_, by rw [hb]; exact hx⟩
      · exact ⟨o, k b o hb q⟩
    tups := fun b xs q => by rw [upd_ne (at_ne e q exo_tup), upd_ne (ne_of_none q hnd)]; exact q
    frzs := fun b o v q => by rw [upd_ne (at_ne e q exo_frz), upd_ne (ne_of_none q hnd)]; exact q
    tbls := fun b ps q => ⟨#[], by rw [upd_ne (at_ne e q exo_tbl), upd_ne (ne_of_none q hnd), q]; simp⟩ }
  refine h dx _ hnd dne (I.un (t' := tk') U fun b o q => ?_)
  by_cases hb : b = a
  · subst hb
    rw [upd_same] at q
    cases q
    exact exo_ok hx
  · rw [upd_ne hb] at q
    by_cases hd : b = dx
    · subst hd
      rw [upd_same] at q
      cases q
      exact exd_ok hn (relO_put (fs := []) ry fun g => True.intro)
    · rw [upd_ne hd] at q
      exact (I.hok b o q).stay (fun c v hc z => k c v (by
          rcases hc with hc | hc
          · rw [hc]
            exact hb
          · exact at_ne e hc exo_own) z)
        (fun c hc => by rw [upd_ne (at_ne e hc exo_own), upd_ne (ne_of_none hc hnd)]; exact hc) (fun c xs hc => by rw [upd_ne (at_ne e hc exo_tup), upd_ne (ne_of_none hc hnd)]; exact hc)
theorem gost_old (SF : StoreFacts B bmB "object.__setattr__" "object") (T : OexB newId bmB X.K C) (I : L2.Inv X pins σ H s) (e : H a = some (exo a C (some dx))) (ed : H dx = some (exd dx fs)) (hl : fs.length ≤ 900) (hno : PySem.W.findIn X.K (.ref C) f = some none) (ry : RelV y u)
    (h : ∀ s', L2.Inv X pins σ (upd H dx (exd dx ((f, y) :: fs))) s' → Q () s') : wpAny (model X.prog X.w) A (setAttr (.ref a) f u) Q E s := by
  obtain ⟨nm, q, N, bs, bm, sn, sub, ab, col, dd, k0, k1, k2, k3, k5, hC, hbm⟩ := T.cls
  have hcl : PySem.W.clsIn X.K C = some { name := nm, bases := bs, mro := .ref C :: bm, ns := N, qualname := q, hasDict := true, slotNames := sn, subclasses := sub, abstract := ab, collection := col, hasDel := false } := by unfold PySem.W.clsIn; rw [hC] <;> rfl
  obtain ⟨t1, ho⟩ := exo_at I.hok e
  obtain ⟨mA, hns, rel⟩ := exd_at I.hok ed
  have hw := within_of rel
  obtain ⟨hp, g, d, t, os⟩ := s
  obtain ⟨oD, _, _, hoD, _, _⟩ := hns.count hw
  refine PySem.W.set_plain I.kIn (ox := { cls := .ref C, dict := some dx, data := .fields #[.ref t1, .none, .none, .none, .bool false, .none] }) (od := some oD) ⟨ho, rfl, rfl, hoD⟩ T.sa ?_
  refine gosa_old SF I.kIn ho hns hw (by rw [List.length_map]; omega) hcl rfl hbm rfl hno (fun h' tk' k hn => ?_)
  have hd : ∃ o, h'.get? dx = some o := by
    obtain ⟨o, _, _, e', _⟩ := hn
    exact ⟨o, e'⟩
  exact h _ (I.write (t' := tk') (x := dx) (e := dx) (o := exd dx ((f, y) :: fs)) (by rw [ed]; exact True.intro) (.inl rfl) k hd (exd_ok hn (relO_put ry rel)))
theorem goinit {us : List Value} {Q : Value → Shared → Prop} (FB : ExcBaseFacts B newId initId bmB) (T : OexB newId bmB X.K C) (I : L2.Inv X pins σ H s) (e : H a = some (exo a C none)) (hl : us.length ≤ sizeLine) (h : ∀ s', L2.Inv X pins σ H s' → Q .none s') :
    wpAny (model X.prog X.w) A (call (.builtin initId) (.ref a :: us)) Q E s := by
  obtain ⟨nm, q, N, bs, bm, sn, sub, ab, col, dd, k0, k1, k2, k3, k5, hC, hbm⟩ := T.cls
  obtain ⟨t1, ho⟩ := exo_at I.hok e
  obtain ⟨hp, g, d, t, os⟩ := s
  refine wpAny_call (PySem.HandSPX.init_base FB (fun Y => PySem.W.excTail_contains Y bm hbm) (I.kIn _ _ hC) ho hl fun h' t2 k hx => ?_)
  have J := I.write (t' := t) (x := a) (e := a) (o := exo a C none) (by rw [e]; exact True.intro) (.inl rfl) k ⟨_, hx⟩ (exo_ok hx)
  have eu : upd H a (exo a C none) = H := by
    funext b
    by_cases hb : b = a
    · rw [hb, upd_same, e]
    · rw [upd_ne hb]
  rw [eu] at J
  exact h _ J
end
/-- B.__init__(self, ..) -/
def tBI (newId : String) (bmB : List Value) (K : PySem.W.Frag) (ta : TA) : TE := fun σ H Q => ta σ H fun vs H1 => ∃ (a C : Addr) (ws : List V), vs = .ref a :: ws ∧ ws.length ≤ 1000 ∧ OexB newId bmB K C ∧ H1 a = some (exo a C none) ∧ Q .non H1
/-- self.f = e -/
def tOstB (newId : String) (bmB : List Value) (K : PySem.W.Frag) (f : Str) (to te : TE) : TS := fun D σ H => te σ H fun y H1 => to σ H1 fun x H2 => ∃ a C : Addr, x = .ref a ∧ OexB newId bmB K C ∧ PySem.W.findIn K (.ref C) f = some none ∧
  ((H2 a = some (exo a C none) ∧ ∀ dx, H2 dx = none → dx ≠ a → D.nx σ (upd (upd H2 dx (exd dx [(f, y)])) a (exo a C (some dx)))) ∨
    ∃ (dx : Addr) (fs : List (Str × V)), H2 a = some (exo a C (some dx)) ∧ H2 dx = some (exd dx fs) ∧ fs.length ≤ 900 ∧ D.nx σ (upd H2 dx (exd dx ((f, y) :: fs))))
section
variable {X : Cx} {o e : Expr} {es : List Expr} {to te : TE} {ta : TA} {f : Str} {p p' p1 p2 pos : Pos} {B newId initId : String} {bmB : List Value}
/-- B.__init__(self, ..) of a built-in class of errors -/
theorem pe_binit {pl : Sem Bool} {x : Str} (FB : ExcBaseFacts B newId initId bmB) (hg : Gl X x) (hm : X.mg x = none) (hv : bootBuiltins x = some (.type B)) (htp : typeOf (.type B) = pure (.type "type")) (hst : Manifest.isStub B = false) (hhi : PySem.W.handedIn (.builtin initId) = true)
    (vV : PySem.W.findCls X.K (.type B) (.type "type") "__init__" = some (.val (.builtin initId))) (ha : PA X (e :: es) ta)
    (hc : eval (.Call (.Attribute (.Name x p1) "__init__" p2) (e :: es) [] pos) X.env = (do
      let ov ← eval (.Name x p1) X.env
      standAt p2.atName
      let (f, first) ← holding [ov] (getMethod ov "__init__" pl)
      callWith pos f first (backTo pos (starEach (e :: es) X.env)) (backToKw pos (keywordEach [] X.env))) := by rfl)
    (he : starEach (e :: es) X.env = (false, eval e X.env) :: starEach es X.env := by rfl) (hpl : (backTo pos (starEach es X.env)).any (·.1) = false := by rfl) (hn : x ≠ "__name__" := by decide) (hdb : (x == ("__debug__" : Str)) = false := by decide) :
    PE X (.Call (.Attribute (.Name x p1) "__init__" p2) (e :: es) [] pos) (tBI newId bmB X.K ta) := by
  refine ⟨fun pins s σ H Q I h => ?_⟩
  refine PySem.W.methodCall_KW (ld_blt I hg hm hv ?_ hn hdb) hc
  obtain ⟨m, fr⟩ := I.fr
  refine PySem.W.method_type fr I.ok.mod.kin htp hst vV hhi ?_
  show wpAny _ _ (callWith pos (Value.builtin initId) [] (backTo pos (starEach (e :: es) X.env)) []) _ _ _
  refine PyProof.Rows.callWith_method1 (thn (ha.run pos pins _ σ H _ (I.tok _) h) fun us s1 ⟨vs, H1, I1, r1, a, C, ws, ev, hl, T, ea, q⟩ => ?_) he hpl
  subst ev
  cases r1 with
  | @cons _ u0 _ ur ra rw' =>
    obtain rfl : u0 = Value.ref a := ra
    have hlen : ur.length ≤ sizeLine := by
      rw [← Paired.length rw', sizeLine_eq]
      omega
    exact goinit FB T I1 ea hlen fun s' J => ⟨.non, H1, J, rfl, q⟩
theorem ps_ostB (SF : StoreFacts B bmB "object.__setattr__" "object") (ho : PE X o to) (he : PE X e te) (hs : swapsWith e (some (.Attribute o f p')) pos.line X.env = pure false := by rfl) : PS X (.Assign [.Attribute o f p'] e pos) (tOstB newId bmB X.K f to te) := by
  refine ⟨fun pins s σ H D I h => ?_⟩
  refine plainObj_wpAny_Assign_Attribute (thn (he.run pins s σ H _ I h) fun v s1 ⟨y, H1, I1, r1, q1⟩ => thn (ho.run pins s1 σ H1 _ I1 q1) fun u s2 ⟨x, H2, I2, r2, a, C, ex, T, hno, q⟩ => ?_) hs
  subst ex
  obtain rfl : u = Value.ref a := r2
  rcases q with ⟨ea, q⟩ | ⟨dx, fs, ea, ed, hl, q⟩
  · exact gost_new SF T I2 ea hno r1 fun dx s' n ne J => ⟨σ, _, J, q dx n ne⟩
  · exact gost_old SF T I2 ea ed hl hno r1 fun s' J => ⟨σ, _, J, q⟩
theorem pmk_gex {CX : CXT} {x : Str} {C fI : Addr} {k : Nat} {fd : FuncData} {ps : List Str} {sp : Sp} {ds : List Value} {dvs : List V} (FB : ExcBaseFacts B newId initId bmB) (T : OexB newId bmB X.K C) (iC : PySem.W.findIn X.K (.ref C) "__init__" = some (some (.ref fI))) (tI : PySem.W.typeIn X.K (.ref fI) = some (.type "function"))
    (F1 : FnOk X.prog X.w X.K X.mg X.base CX k fI fd ps sp) (hr : Room (k + 1) X.A) (hb : Binds X.K fd ps ds) (hd : Vals dvs ds) (hx : Passes CX X (fun _ _ _ => False)) (hg : Gl X x) (hm : X.mg x = some (.ref C)) (ha : PA X (e :: es) ta)
    (hdb : (x == ("__debug__" : Str)) = false := by decide) (he : starEach (e :: es) X.env = (false, eval e X.env) :: starEach es X.env := by rfl) (hpl : (backTo pos (starEach es X.env)).any (·.1) = false := by rfl) :
    PMk X (.Call (.Name x p) (e :: es) [] pos) (tMkO C sp dvs ta) := by
  intro pins s σ H Q I h
  obtain ⟨nm, q, N, bs, bm, sn, sub, ab, col, dd, k0, k1, k2, k3, k5, hC, hbm⟩ := T.cls
  refine wpAny_Call_Name_kw (ld_glob I hg hm ?_ hdb)
  refine PySem.W.callWith_K (h₀ := X.base) I.ok.mod.kin T.kC (thn (ha.run pos pins s σ H _ I h) fun us s1 ⟨vs, H1, I1, r1, hz, q1⟩ => ⟨I1.kIn, ?_⟩) he hpl
  show wpAny _ _ (call (.ref C) us) _ _ _
  obtain ⟨hp, g, dr, tk, os⟩ := s1
  have hsz : hp.objs.size ≤ hp.objs.size + 1 := Nat.le_succ _
  have hn : H1 (hp.objs.size + 1) = none := I1.hok.fresh hsz
  have hq := q1 (hp.objs.size + 1) hn
  have kk : ∀ b o, hp.get? b = some o → ((hp.push (PySem.W.kdv_tup us)).push (PySem.HandSPX.excO C hp.objs.size)).get? b = some o := fun b o e => Heap.get?_push_of_some _ (Heap.get?_push_of_some _ e)
  have hget : ((hp.push (PySem.W.kdv_tup us)).push (PySem.HandSPX.excO C hp.objs.size)).get? (hp.objs.size + 1) = some (PySem.HandSPX.excO C hp.objs.size) := by heap_get
  have I2 : L2.Inv X pins σ (upd H1 (hp.objs.size + 1) (exo (hp.objs.size + 1) C none)) ⟨(hp.push (PySem.W.kdv_tup us)).push (PySem.HandSPX.excO C hp.objs.size), g, dr, tk, os⟩ :=
    I1.laid (t' := tk) (a := hp.objs.size + 1) (o := exo (hp.objs.size + 1) C none) (h' := (hp.push (PySem.W.kdv_tup us)).push (PySem.HandSPX.excO C hp.objs.size)) kk hsz (exo_ok hget)
  have r2 : Vals (V.ref (hp.objs.size + 1) :: (vs ++ dvs)) (Value.ref (hp.objs.size + 1) :: (us ++ ds)) := .cons rfl (r1.append hd)
  have hl : (Value.ref (hp.objs.size + 1) :: us ++ ds).length = ps.length := by
    have e := r2.length
    rw [F1.len _ _ _ _ hq] at e
    exact e.symm
  have hus : us.length ≤ sizeLine := by
    rw [← Paired.length r1, sizeLine_eq]
    omega
  refine wpAny_call (PySem.HandSPX.call_own FB (fun Y => PySem.W.excTail_contains Y bm hbm) (I1.kIn _ _ hC) (PySem.W.looks_findIn I1.kIn iC) (fun self => PySem.W.bind_fn I1.kIn self tI) hus
    (codeAny_mono (F1.run _ X.stack _ _ ⟨Value.ref (hp.objs.size + 1) :: us, []⟩ (Value.ref (hp.objs.size + 1) :: (us ++ ds)) _ _ (fun _ _ _ => False) (hr.make C us []) (I2.env0.make C us []) (hb _ (Value.ref (hp.objs.size + 1) :: us) I2.kIn hl) r2 hq) fun r s' hq' => ?_))
  cases r with
  | error er => exact hx pins σ _ _ er s' I2 hq'
  | ok fl =>
    cases fl with
    | ret u =>
      obtain ⟨v, H2, os2, bare2, un2, hok2, rv, ev, d, fs, ea, ed, hd1, q2⟩ := hq'
      subst ev
      obtain ⟨h2, g2, d2, t2, os'⟩ := s'
      exact ⟨rv, mk_end (raises_own T.exC T.tyC) I1 hsz kk un2 hok2 os2 bare2 ea ed hd1 q2⟩
    | next => exact False.elim hq'
    | brk => exact False.elim hq'
    | cont => exact False.elim hq'
end
/-- what a B.__init__ + one field of its own promises: E(v) with field f -/
def spErr (newId : String) (bmB : List Value) (K : PySem.W.Frag) (f : Str) : Sp := fun vs H Q _ => ∃ (a C : Addr) (v : V), vs = [.ref a, v] ∧ OexB newId bmB K C ∧ PySem.W.findIn K (.ref C) f = some none ∧ H a = some (exo a C none) ∧
  ∀ dx, H dx = none → dx ≠ a → Q .non (upd (upd H dx (exd dx [(f, v)])) a (exo a C (some dx)))
abbrev zdT : List Value := [.type "ZeroDivisionError", .type "ArithmeticError", .type "Exception", .type "BaseException", .type "object"]
abbrev ixT : List Value := [.type "IndexError", .type "LookupError", .type "Exception", .type "BaseException", .type "object"]
abbrev luT : List Value := [.type "LookupError", .type "Exception", .type "BaseException", .type "object"]
theorem typ_ZD : typeOf (.type "ZeroDivisionError") = pure (.type "type") := by kernel_rfl
theorem typ_IX : typeOf (.type "IndexError") = pure (.type "type") := by kernel_rfl
theorem typ_LU : typeOf (.type "LookupError") = pure (.type "type") := by kernel_rfl
end KA
namespace KA
open PySem PySem.Spec PyProof.Rows L2
section
variable {X : Cx} {n : Nat}
/-- x == y (or another comparison), x an instance of the class at C whose own def keeps sp, y of any kind -/
def rOwn (K : PySem.W.Frag) (C : Addr) (sp : Sp) (E : XK) : R2 := fun x y H Q => ∃ (a dx : Addr) (fs : List (Str × V)) (t : Value), x = .ref a ∧ H a = some (.ins C dx fs) ∧ TyX K H y t ∧ PySem.W.notFirst K C t = true ∧ sp [.ref a, y] H (fun v H' => (∃ b, v = .bl b) ∧ Q v H') E
theorem op_own {op : CmpOp} {CX : CXT} {C f : Addr} {fd : FuncData} {ps : List Str} {sp : Sp} {E : XK} (F : FnOk X.prog X.w X.K X.mg X.base CX n f fd ps sp)
    (hs : PySem.W.findIn X.K (.ref C) (cmpInfo op).2.1 = some (some (.ref f))) (hf : PySem.W.isFn X.K (.ref f) = true) (hb : Binds X.K fd ps []) (hx : Passes CX X E) (hr : Room n X.A) (ho : compareOp op = richCompare op := by rfl) : OpR X (compareOp op) (rOwn X.K C sp E) := by
  intro pins s σ H x y u v Q I rx ry d
  obtain ⟨a, dx, fs, t, rfl, ha, ty, hn, hsp⟩ := d
  cases rx
  obtain ⟨mA, J, _⟩ := ins_get I.hok ha
  obtain ⟨od, J, _⟩ := J.look
  obtain ⟨Pz, Z, p, _⟩ := kit_of I ry ty
  obtain ⟨m, hF⟩ := I.fr
  rw [ho]
  refine PySem.W.cmp_K (op := op) (tb := t) hr.units0 hF I.ok.mod.kin J (Z.ty _ _ I.kIn p) hn hs hf ?_
  have hl := F.len _ _ _ _ hsp
  have r2 : Vals [V.ref a, y] [Value.ref a, v] := .cons rfl (.cons ry .nil)
  refine wpAny_call (codeAny_mono (F.run X.A X.stack s H ⟨[.ref a, v], []⟩ [.ref a, v] [.ref a, y] _ E hr I.env0 (by
    have := hb s [.ref a, v] I.kIn (by simpa using hl)
    simpa using this) r2 hsp) fun r s' hq => ?_)
  cases r with
  | error e => exact hx pins σ H s e s' I hq
  | ok fl =>
    cases fl with
    | ret w =>
      obtain ⟨z, H', I', rz, ⟨b, ez⟩, q⟩ := I.after hq
      subst ez
      cases rz
      exact ⟨.bl b, H', I', rfl, q⟩
    | next => exact False.elim hq
    | brk => exact False.elim hq
    | cont => exact False.elim hq
end
end KA
namespace KA
open PySem PySem.Spec PySem.W PyProof.Rows
section
variable {prog : Program} {w : World} {A : Around} {E : Value → Shared → Prop} {s : Shared} {K : Frag} {x C f : Addr} {ox : Obj} {od : Option Obj}
theorem repr_K {Q : Value → Shared → Prop} (hu : A.in1.units < cLine) (X : K.In s.heap) (I : InstAt s.heap x ox C od) (hs : findIn K (.ref C) "__repr__" = some (some (.ref f))) (hf : isFn K (.ref f) = true)
    (hcall : wpAny (model prog w) A.in1 (call (.ref f) [.ref x]) (fun r s' => ∃ m tk, r = .str m tk ∧ Q (.str m tk) s') E s) :
    wpAny (model prog w) A (call (.builtin "repr") [.ref x]) Q E s := by
  refine Calls.call_function_entry F.kind_repr F.plain_repr F.entry_repr (F.args_repr1 _) ?_
  unfold Builtin.«repr»
  refine wpAny_bind (m := oneArg "repr" _) (wpAny_pure ?_)
  refine wpAny_bind (wpAny_cRoomFor hu ?_)
  refine wpAny_bind (wpAny_bind (I.type.here ((looks_findIn X hs).here ?_)))
  show wpAny _ _ (if (some (Value.ref f)).isNone = true then _ else _) _ _ _
  rw [if_neg (by simp)]
  refine wpAny_bind (m := callSpecialIfBound? (.ref x) (Str.ofString "__repr__") _) (ifBound_K X I hs hf (wpAny_mono hcall (fun r s' hr => ?_) fun _ _ y => y))
  obtain ⟨m, tk, rfl, hq⟩ := hr
  refine wpAny_bind (wpAny_isInstance (typeIs_str _ _ _) isSubtype_str_str ?_)
  first
    | exact wpAny_pure ⟨_, rfl, hq⟩
    | (rw [if_pos rfl]; exact wpAny_pure ⟨_, rfl, hq⟩)
    | (simp only [if_true]; exact wpAny_pure ⟨_, rfl, hq⟩)
end
end KA
namespace KA
open PySem PySem.Spec PyProof.Rows L2
section
variable {X : Cx} {n : Nat} {CX : CXT} {C f : Addr} {fd : FuncData} {ps : List Str} {sp : Sp} {E : XK}
/-- repr(x), str(x): x an instance of the class at C, whose own def keeps sp -/
def rShow (C : Addr) (sp : Sp) (E : XK) : List V → Hp → VK → Prop := fun xs H Q => ∃ (a dx : Addr) (fs : List (Str × V)), xs = [.ref a] ∧ H a = some (.ins C dx fs) ∧ sp [.ref a] H (fun v H' => (∃ m, v = .str m) ∧ Q v H') E
theorem run_self {A : Around} {pins : List (Addr × Obj)} {σ : L2.St} {H : Hp} {s : Shared} {a : Addr} {Q : VK} (F : FnOk X.prog X.w X.K X.mg X.base CX n f fd ps sp) (hb : Binds X.K fd ps []) (hx : Passes CX X E) (hr : Room n A) (hA : A.frames = X.A.frames) (I : L2.Inv X pins σ H s)
    (hsp : sp [.ref a] H (fun v H' => (∃ m, v = .str m) ∧ Q v H') E) : wpAny (model X.prog X.w) A (call (.ref f) [.ref a]) (fun r s' => ∃ m tk, r = .str m tk ∧ EP X pins σ Q (.str m tk) s') X.xe s := by
  have e0 : Env0 X.prog X.w X.K X.mg X.base A X.stack s H := by
    have e := I.env0
    exact ⟨by rw [hA]; exact e.frames, e.mod, e.bs, e.bsz, e.funs, e.frf, e.hok, e.bare⟩
  have hl := F.len _ _ _ _ hsp
  have r2 : Vals [V.ref a] [Value.ref a] := .cons rfl .nil
  refine wpAny_call (codeAny_mono (F.run A X.stack s H ⟨[.ref a], []⟩ [.ref a] [.ref a] _ E hr e0 (by
    have := hb s [.ref a] I.kIn (by simpa using hl)
    simpa using this) r2 hsp) fun r s' hq => ?_)
  cases r with
  | error e => exact hx pins σ H s e s' I hq
  | ok fl =>
    cases fl with
    | ret w =>
      obtain ⟨z, H', I', rz, ⟨m, ez⟩, q⟩ := I.after hq
      subst ez
      obtain ⟨tk, rfl⟩ := (show ∃ t, w = Value.str m t from rz)
      exact ⟨m, tk, rfl, .str m, H', I', ⟨tk, rfl⟩, q⟩
    | next => exact False.elim hq
    | brk => exact False.elim hq
    | cont => exact False.elim hq
theorem call_reprO (F : FnOk X.prog X.w X.K X.mg X.base CX n f fd ps sp) (hs : PySem.W.findIn X.K (.ref C) "__repr__" = some (some (.ref f))) (hf : PySem.W.isFn X.K (.ref f) = true) (hb : Binds X.K fd ps []) (hx : Passes CX X E) (hr : Room (n + 1) X.A) :
    CallR X (.builtin "repr") (rShow C sp E) := by
  intro pins s σ H xs us Q I r h
  obtain ⟨a, dx, fs, rfl, ha, hsp⟩ := h
  obtain ⟨u, rfl, r1⟩ := vals1 r
  cases (show u = Value.ref a from r1)
  obtain ⟨mA, J, _⟩ := ins_get I.hok ha
  obtain ⟨od, J, _⟩ := J.look
  exact repr_K hr.in1.units0 I.kIn J hs hf (run_self F hb hx hr.in1 rfl I hsp)
theorem call_strO (F : FnOk X.prog X.w X.K X.mg X.base CX n f fd ps sp) (hs : PySem.W.findIn X.K (.ref C) "__str__" = some (some (.ref f))) (hf : PySem.W.isFn X.K (.ref f) = true) (hb : Binds X.K fd ps []) (hx : Passes CX X E) (hr : Room (n + 2) X.A) :
    CallR X (.type "str") (rShow C sp E) := by
  intro pins s σ H xs us Q I r h
  obtain ⟨a, dx, fs, rfl, ha, hsp⟩ := h
  obtain ⟨u, rfl, r1⟩ := vals1 r
  cases (show u = Value.ref a from r1)
  obtain ⟨mA, J, _⟩ := ins_get I.hok ha
  obtain ⟨od, J, _⟩ := J.look
  refine PySem.W.kso_call hr.in1.in1.units0 I.kIn J hs hf (wpAny_mono (run_self F hb hx hr.in1.in1 rfl I hsp) (fun r s' hr => ?_) fun _ _ y => y)
  obtain ⟨m, tk, rfl, q⟩ := hr
  exact q
/-- {x}: a text, an int, a truth -/
def tFmtB (te : TE) : TE := fun σ H Q => te σ H fun x H1 => (∃ y : Str, x = .str y ∧ y.length ≤ sizeLine ∧ Q (.str y) H1) ∨ (∃ i : Int, x = .int i ∧ i.natAbs.log2 < 1920 ∧ Q (.str (toString i)) H1) ∨ ∃ b : Bool, x = .bl b ∧ Q (.str (if b then "True" else "False")) H1
theorem pe_fmtB {e : Expr} {te : TE} {pos : Pos} (he : PE X e te) : PE X (.FormattedValue e (-1) none pos) (tFmtB te) := by
  refine ⟨fun pins s σ H Q I h => ?_⟩
  refine wpAny_FormattedValue_plain (thn (he.run pins s σ H _ I h) fun v s1 hv => ?_)
  obtain ⟨x, H1, I1, r1, q⟩ := hv
  rcases q with ⟨y, rfl, hz, q⟩ | ⟨i, rfl, hz, q⟩ | ⟨b, rfl, q⟩
  · obtain ⟨t, rfl⟩ := r1
    exact wpAny_formatField_str ⟨.str y, H1, I1, ⟨t, rfl⟩, q⟩ ⟨.str y, H1, I1.tok _, ⟨_, rfl⟩, q⟩ hz
  · obtain ⟨t, rfl⟩ := r1
    exact wpAny_formatField_int hz ⟨.str (toString i), H1, I1.tok _, ⟨_, rfl⟩, q⟩
  · cases (show v = Value.bool b from r1)
    exact wpAny_formatField_bool ⟨.str (if b then "True" else "False"), H1, I1.tok _, ⟨_, rfl⟩, q⟩
end
end KA
namespace KA
open PySem PySem.Spec PyProof.Rows L2
section
variable {prog : Program} {w : World} {A : Around} {E : Value → Shared → Prop} {s : Shared} {a : Addr} {o : Obj}
theorem lrep_head {Q : Fin → Shared → Prop} {x : Value} {l : List Value} {n : Nat} {b : Nat} (hget : s.heap.get? a = some o) (hd : o.data = .seq (x :: l).toArray n)
    (h1 : wpAny (model prog w) A (do again (.builtin "list.__repr__.loop" ⟨[.ref a, rawInt 0, ← newList [], rawInt b], []⟩)) Q E s) (h2 : ∀ u tk, Q (.done (.ret (.str "[...]" u))) { s with toks := tk }) :
    wpAny (model prog w) A (Builtin.listReprAt b ⟨[.ref a], []⟩) Q E s := by
  unfold Builtin.listReprAt
  show wpAny _ _ (Builtin.List.listItems (.ref a) >>= _) _ _ s
  refine wpAny_bind (wpAny_listItems hget hd ?_)
  refine PySem.W.KFB.if_not rfl ?_
  refine wpAny_bind (wpAny_stack_any fun st => ?_)
  dsimp only
  split
  · refine wpAny_bind (wpAny_rule ?_)
    exact wpAny_bind (wpAny_mkStr (wpAny_pure (h2 _ _)) (by decide +kernel))
  · exact h1
theorem lrep_way : ("[...]" : Str).length ≤ 5 := by decide +kernel
/-- list.__repr__, whatever is under way -/
theorem lrep_call {Q : Value → Shared → Prop} {x : Value} {l : List Value} {n : Nat} {ts : List Str} (hc : o.cls = .type "list") (ha : s.heap.get? a = some o) (hd : o.data = .seq (x :: l).toArray n) (hlen : ts.length = (x :: l).toArray.size)
    (hT : ∀ (i : Nat) (y : Value), (x :: l).toArray[i]? = some y → ∃ t, ts[i]? = some t ∧ ReprIs prog w y t) (hsz : (listText ts).length ≤ sizeLine)
    (h : ∀ h' (m : Str) u tk, (∀ b z, s.heap.get? b = some z → h'.get? b = some z) → m.length ≤ (listText ts).length + 5 → Q (.str m u) { s with heap := h', toks := tk }) :
    wpAny (model prog w) A (call (.builtin "list.__repr__") [.ref a]) Q E s := by
  refine wpAny_call (codeAny_call_builtin F.slot_list_repr.plain F.entry_list_repr (F.slot_list_repr.check _ _ _ _ _ _ _ _ ⟨o, ha, hc⟩ (F.args_list_repr_1 _) ?_))
  refine lrep_head (b := 0) ha hd ?_ (fun u tk => h s.heap _ u tk (fun _ _ e => e) (Nat.le_trans lrep_way (Nat.le_add_left _ _)))
  refine wpAny_bind (m := newList []) (wpAny_newObj_type ?_)
  refine wpAny_pure ⟨F.quiet_list_repr_loop _, ?_⟩
  refine codeAny_list_repr_start (P := s.heap.objs.size) (Nat.ne_of_lt (Heap.lt_size ha)) hlen hT (Heap.get?_push_of_some _ ha) hd (Heap.get?_push_size _ rfl) (fun h' u tk hk => ?_) (by omega)
  exact h h' _ u tk (fun b z e => hk b z (Nat.ne_of_lt (Heap.lt_size e)) (Heap.get?_push_of_some _ e)) (Nat.le_add_right _ _)

theorem drep_way : ("{...}" : Str).length ≤ 5 := by decide +kernel
/-- dict.__repr__ of {}, whatever is under way -/
theorem drep_call {Q : Value → Shared → Prop} {ep : Nat} (hc : o.cls = .type "dict") (ha : s.heap.get? a = some o) (hd : o.data = .dict #[] ep) (hsys : (a == sysModules) = false)
    (h : ∀ (m : Str) u tk, m.length ≤ 10 → Q (.str m u) { s with toks := tk }) : wpAny (model prog w) A (call (.builtin "dict.__repr__") [.ref a]) Q E s := by
  refine wpAny_call (codeAny_call_builtin_own (Code.quiet_builtin _ (by decide +kernel)) F.entry_dict_repr (F.slot_dict_repr.check _ _ _ _ _ _ _ _ ⟨o, ha, hc⟩ (F.args_dict_repr_1 _) (wpOwn_of_wpAny ?_)))
  show wpAny _ _ (Builtin.dictReprAt 0 ⟨[.ref a], []⟩) _ _ s
  unfold Builtin.dictReprAt
  refine wpAny_bind ?_
  unfold Builtin.Dict.dictSlotNone
  refine wpAny_bind (wpAny_notOrdered_dict ⟨o, ha, hc⟩ ?_)
  show wpAny _ _ (pure (Value.ref a)) _ _ s
  refine wpAny_pure ?_
  rw [dictReprRunning_eq]
  refine wpAny_bind (wpAny_bind (wpAny_stack_any fun st => wpAny_pure ?_))
  split
  · refine wpAny_bind (wpAny_rule ?_)
    exact wpAny_bind (wpAny_mkStr (wpAny_pure (h _ _ _ (Nat.le_trans drep_way (by decide)))) (by decide +kernel))
  · show wpAny _ _ (Builtin.Dict.addrOf (.ref a) >>= _) _ _ s
    refine wpAny_bind (wpAny_pure ?_)
    show wpAny _ _ (Builtin.Dict.showsAll a >>= _) _ _ s
    unfold Builtin.Dict.showsAll
    rw [if_neg (by rw [hsys]; exact Bool.false_ne_true)]
    refine wpAny_bind (wpAny_pure (wpAny_bind (wpAny_dictEpoch ha hd (wpAny_bind (wpAny_dictEntries ha hd ?_)))))
    refine wpAny_bind ?_
    rw [Std.Legacy.Range.forIn_eq_forIn_range']
    show wpAny _ _ (forIn [] _ _) _ _ s
    refine wpAny_pure ?_
    refine wpAny_bind (wpAny_mkStr (wpAny_pure (h _ _ _ ?_)) (by decide +kernel))
    decide +kernel
end
/-- str() of what is shown by its __repr__ -/
theorem str_by {prog : Program} {w : World} {A : Around} {E : Value → Shared → Prop} {s : Shared} {a : Addr} {o : Obj} {Q : Value → Shared → Prop} {T idr : String} {N : Nat} (hu : A.units + 3 < cLine) (hc : o.cls = .type T) (ha : s.heap.get? a = some o)
    (slotStr : Slot T "__str__" "object.__str__") (slotRepr : SlotG T "__repr__" idr)
    (rep : ∀ (prog' : Program) (w' : World) (A' : Around) (E' : Value → Shared → Prop) (s' : Shared) (Q' : Value → Shared → Prop), s'.heap.get? a = some o →
      (∀ h' (m : Str) u tk, (∀ b z, s'.heap.get? b = some z → h'.get? b = some z) → m.length ≤ N → Q' (.str m u) { s' with heap := h', toks := tk }) → wpAny (model prog' w') A' (call (.builtin idr) [.ref a]) Q' E' s')
    (h : ∀ h' (m : Str) u tk, (∀ b z, s.heap.get? b = some z → h'.get? b = some z) → m.length ≤ N → Q (.str m u) { s with heap := h', toks := tk }) :
    wpAny (model prog w) A (call (.type "str") [.ref a]) Q E s :=
  callType_new F.called_str (by decide) (F.typeCall_str_1 _) (F.newCall_str_1 _) (fun obj => F.args_object_init_2 obj _) F.entry_str_new
    (meets_str_new (S := fun A' R s' => A'.units + 2 < cLine ∧ s'.heap.get? a = some o ∧
        ∀ h' (m : Str) u tk, (∀ b z, s'.heap.get? b = some z → h'.get? b = some z) → m.length ≤ N → R (.ok (.ret (.str m u))) { s' with heap := h', toks := tk })
      fun prog' w' A' R s' g => wpAny_strOf_slot rfl (by show A'.units + 1 + 1 < cLine; have := g.1; omega) ⟨o, g.2.1, hc⟩ slotStr slotRepr (rep prog' w' _ _ s' _ g.2.1 fun h' m u tk hk hm => ⟨m, u, rfl, g.2.2 h' m u tk hk hm⟩))
    ⟨by show A.units + 1 + 2 < cLine; omega, ha, fun h' m u tk hk hm => ⟨typeIs_str _ _ _, h h' m u tk hk hm⟩⟩
/-- a thing without parts, of bounded text -/
inductive Leaf : V → Prop
  | int (i : Int) (h : i.natAbs.log2 < 1000) : Leaf (.int i)
  | str (z : Str) (h : z.length ≤ 1000) (hc : ∀ c ∈ z.cps.toList, c < 16 ^ 8) : Leaf (.str z)
  | bl (b : Bool) : Leaf (.bl b)
  | non : Leaf .non
theorem size_20k : (20000 : Nat) ≤ sizeLine := by decide
theorem leaf_repr {prog : Program} {w : World} {v : V} {u : Value} (h : Leaf v) (r : RelV v u) : ∃ t : Str, ReprIs prog w u t ∧ t.length ≤ 12000 := by
  cases h with
  | int i hi =>
    obtain ⟨t, rfl⟩ := r
    refine ⟨_, ReprIs.int t (by omega), ?_⟩
    have e := int_text_length_le (k := 1000) (by decide) hi
    show (Str.ofString (toString i)).length ≤ 12000
    rw [PySem.ofString_length]
    omega
  | str z hz hc =>
    obtain ⟨t, rfl⟩ := r
    have h1 := StrLaws.reprText_len z hc
    have := size_20k
    exact ⟨_, ReprIs.str z t (by omega), by omega⟩
  | bl b =>
    cases r
    exact ⟨_, ReprIs.bool b, by cases b <;> decide⟩
  | non =>
    cases r
    exact ⟨_, ReprIs.none, by decide⟩
section
variable {X : Cx}
theorem list_text_one (t : Str) : (listText [t]).length ≤ t.length + 4 := by
  have h := piled_le_listText [t]
  have h2 := textFrom_len [t] 0 "["
  show (textFrom 0 "[" [t] ++ "]").length ≤ _
  rw [strLen_append]
  show (("[" : Str) ++ (if 0 > 0 then ", " else "" : String) ++ t).length + 1 ≤ _
  rw [strLen_append, strLen_append]
  show 1 + 0 + t.length + 1 ≤ _
  omega
/-- the same, of texts of any signs -/
inductive LeafW : V → Prop
  | int (i : Int) (h : i.natAbs.log2 < 1000) : LeafW (.int i)
  | str (z : Str) (h : z.length ≤ 3000) : LeafW (.str z)
  | bl (b : Bool) : LeafW (.bl b)
  | non : LeafW .non
theorem Leaf.w {v : V} (h : Leaf v) : LeafW v := by
  cases h with
  | int i h => exact .int i h
  | str z h _ => exact .str z (by omega)
  | bl b => exact .bl b
  | non => exact .non
/-- what str() is asked of: a thing without parts, or one list, tuple of one, or {} -/
inductive Leaf1 (K : PySem.W.Frag) (H : Hp) : V → Prop
  | leaf {v : V} (h : LeafW v) : Leaf1 K H v
  | lst {a : Addr} {v : V} (e : H a = some (.lst [v])) (h : Leaf v) : Leaf1 K H (.ref a)
  | tup {a : Addr} {v : V} (e : H a = some (.tup [v])) (h : Leaf v) : Leaf1 K H (.ref a)
  | dct {a : Addr} (e : H a = some (.dK [])) : Leaf1 K H (.ref a)
def rStrL (K : PySem.W.Frag) : List V → Hp → VK → Prop := fun xs H Q => ∃ x, xs = [x] ∧ Leaf1 K H x ∧ ∀ m : Str, m.length ≤ 20000 → (Leaf x → m.length ≤ 1002) → Q (.str m) H
theorem call_str_leaf {k : Nat} (hr : Room k X.A) : CallR X (.type "str") (rStrL X.K) := by
  intro pins s σ H xs us Q I r h
  obtain ⟨x, rfl, hx, q⟩ := h
  obtain ⟨u, rfl, rx⟩ := vals1 r
  have hz := size_20k
  have hu := hr.units
  cases hx with
  | leaf hl =>
    cases hl with
    | int i hi =>
      obtain ⟨t, rfl⟩ := rx
      have e : (Str.ofString (toString i)).length ≤ 1002 := by
        have e := int_text_length_le (k := 1000) (by decide) hi
        rw [PySem.ofString_length]
        omega
      exact PySem.P.str_of_int (by omega) ⟨.str _, H, I.tok _, ⟨_, rfl⟩, q _ (Nat.le_trans e (by decide)) (fun _ => e)⟩
    | str z hz' =>
      obtain ⟨t, rfl⟩ := rx
      refine PySem.P.str_of_str ⟨.str _, H, I, ⟨_, rfl⟩, q _ (by omega) (fun l => ?_)⟩
      cases l
      omega
    | bl b =>
      cases rx
      exact PySem.P.str_of_bool ⟨.str _, H, I.tok _, ⟨_, rfl⟩, q _ (by cases b <;> decide) (fun _ => by cases b <;> decide)⟩
    | non =>
      cases rx
      exact PySem.P.str_of_none ⟨.str _, H, I.tok _, ⟨_, rfl⟩, q _ (by decide) (fun _ => by decide)⟩
  | @lst a v e hl =>
    cases rx
    obtain ⟨_, its, n, rv, ho⟩ : _ ≤ sizeLine ∧ ∃ (its : List Value) (n : Nat), Vals [v] its ∧ s.heap.get? a = some { cls := .type "list", data := .seq its.toArray n } := I.hok a _ e
    obtain ⟨u, rfl, ru⟩ := vals1 rv
    refine str_by (N := 13000) (by omega) rfl ho F.slot_list_str F.slot_list_repr.toG (fun prog' w' A' E' s' Q' hg hq => ?_) (fun h' m u tk hk hm => ⟨.str m, H, I.kept hk, ⟨_, rfl⟩, q m (by omega) (fun l => nomatch l)⟩)
    obtain ⟨t, ht, hl⟩ := leaf_repr (prog := prog') (w := w') hl ru
    have ht2 := list_text_one t
    refine lrep_call (ts := [t]) rfl hg rfl rfl (fun i y hy => ?_) (by omega) (fun h' m u tk hk hm => hq h' m u tk hk (by omega))
    cases i with
    | zero => cases hy; exact ⟨t, rfl, ht⟩
    | succ i => cases hy
  | @tup a v e hl =>
    cases rx
    obtain ⟨_, its, rv, o, ho, hc, n, hd⟩ : _ ≤ sizeLine ∧ ∃ its : List Value, Vals [v] its ∧ IsTup s.heap a its.toArray := I.hok a _ e
    obtain ⟨u, rfl, ru⟩ := vals1 rv
    refine str_by (N := 13000) (by omega) hc ho F.slot_tuple_str F.slot_tuple_repr (fun prog' w' A' E' s' Q' hg hq => ?_) (fun h' m u tk hk hm => ⟨.str m, H, I.kept hk, ⟨_, rfl⟩, q m (by omega) (fun l => nomatch l)⟩)
    obtain ⟨t, ht, hl⟩ := leaf_repr (prog := prog') (w := w') hl ru
    have ht2 := fmt_text [t]
    have ht3 : piled [t] = t.length + 2 := rfl
    exact fmt_tuple_repr (ts := [t]) hg hc hd (.cons ht .nil) (by omega) (fun m u tk hm => hq s'.heap m u tk (fun _ _ e => e) (by omega))
  | @dct a e =>
    cases rx
    obtain ⟨_, hs, vs, kv, o, es, ep, ho, hx, hd, _, he, _⟩ := dk_of I.hok e
    cases kv
    have : es = #[] := by
      cases es
      cases he
      rfl
    subst this
    refine str_by (N := 13000) (by omega) hx.1 ho F.slot_dict_str F.slot_dict_repr (fun prog' w' A' E' s' Q' hg hq => ?_) (fun h' m u tk hk hm => ⟨.str m, H, I.kept hk, ⟨_, rfl⟩, q m (by omega) (fun l => nomatch l)⟩)
    exact drep_call hx.1 hg hd hs (fun m u tk hm => hq s'.heap m u tk (fun _ _ e => e) (by omega))
end
end KA
namespace KA
open PySem PySem.SeqAt
open AutoSeq1 (wpAny_loadPart')
open MeetsSeq MeetsSeq2 MeetsSeq3 SeqRoads2
section
variable {prog : Program} {w : World} {A : Around} {R : Result → Shared → Prop}
/-- two lists as long, read anew at each turn: the two items are told equal (then J goes on) or not (then F) -/
def LstI (prog : Program) (w : World) (A : Around) (E : Value → Shared → Prop) (p q : Addr) (N : Nat) (J : Nat → Shared → Prop) (F : Shared → Prop) : Prop :=
  ∀ i s, J i s → ∃ (xs ys : Array Value) (m m2 : Nat), s.heap.get? p = some { cls := .type "list", data := .seq xs m } ∧ s.heap.get? q = some { cls := .type "list", data := .seq ys m2 } ∧ xs.size = N ∧ ys.size = N ∧
    ∀ (g1 : i < xs.size) (g2 : i < ys.size), wpAny (model prog w) A.in1 (eqBool xs[i] ys[i]) (fun r s' => (r = true → J (i + 1) s') ∧ (r = false → F s' ∧ ∃ (xs ys : Array Value) (m m2 : Nat), s'.heap.get? p = some { cls := .type "list", data := .seq xs m } ∧ s'.heap.get? q = some { cls := .type "list", data := .seq ys m2 } ∧ xs.size = N ∧ ys.size = N)) E s
/-- op: 2 is ==, 3 is != ; what is told where all items are equal is no -/
theorem turnsB (op : Nat) (yes : Bool) (hop : (op = 2 ∧ yes = true) ∨ (op = 3 ∧ yes = false)) (p q : Addr) (N : Nat) (J : Nat → Shared → Prop) (F : Shared → Prop) (hJ : LstI prog w A (fun e s' => R (.error e) s') p q N J F)
    (done : ∀ s, J N s → R (.ok (.ret (.bool yes))) s) (fail : ∀ s, F s → R (.ok (.ret (.bool (!yes)))) s) : ∀ (k i : Nat), N - i = k → i ≤ N → ∀ s, J i s →
      wpAny (model prog w) A.in1 (Builtin.«list.__eq__.loop» ⟨[.ref p, .ref q, rawInt i, rawInt op], []⟩) (GQ.FinOf prog w A R) (fun e s' => R (.error e) s') s
  | 0, i, hk, hi, s, hs => by
    obtain ⟨xs, ys, m, m2, gp, gq, zp, zq, _⟩ := hJ _ _ hs
    have iN : i = N := by omega
    have last : R (.ok (.ret (.bool yes))) s := done s (iN ▸ hs)
    have n1 : xs[((i : Nat) : Int).toNat]? = none := by simp; omega
    have n2 : ys[((i : Nat) : Int).toNat]? = none := by simp; omega
    rcases hop with ⟨rfl, rfl⟩ | ⟨rfl, rfl⟩
    · obtain ⟨hh, gg, dd, kk, oo⟩ := s
      wp_walk using wpAny_loadPart' gp, wpAny_loadPart' gq
      rw [n1, n2]
      wp_walk using wpAny_loadPart' gp, wpAny_loadPart' gq
      show R (.ok (.ret (.bool (xs.size == ys.size)))) _
      rw [zp, zq]
      simpa using last
    · obtain ⟨hh, gg, dd, kk, oo⟩ := s
      wp_walk using wpAny_loadPart' gp, wpAny_loadPart' gq
      rw [n1, n2]
      wp_walk using wpAny_loadPart' gp, wpAny_loadPart' gq
      show R (.ok (.ret (.bool (xs.size != ys.size)))) _
      rw [zp, zq]
      simpa using last
  | k + 1, i, hk, hi, s, hs => by
    obtain ⟨xs, ys, m, m2, gp, gq, zp, zq, tn⟩ := hJ _ _ hs
    have ip : i < xs.size := by omega
    have iq : i < ys.size := by omega
    have tt := tn ip iq
    have n1 : xs[((i : Nat) : Int).toNat]? = some xs[i] := by simp [ip]
    have n2 : ys[((i : Nat) : Int).toNat]? = some ys[i] := by simp [iq]
    have up : ((i : Int) + 1) = ((i + 1 : Nat) : Int) := by omega
    have next := fun s2 h2 => turnsB op yes hop p q N J F hJ done fail k (i + 1) (by omega) (by omega) s2 h2
    rcases hop with ⟨rfl, rfl⟩ | ⟨rfl, rfl⟩
    · obtain ⟨hh, gg, dd, kk, oo⟩ := s
      wp_walk using wpAny_loadPart' gp, wpAny_loadPart' gq
      rw [n1, n2]
      refine wpAny_bind (wpAny_mono tt (fun r s2 h2 => ?_) fun _ _ x => x)
      cases r with
      | true =>
        have h3 := next s2 (h2.1 rfl)
        obtain ⟨hh2, gg2, dd2, kk2, oo2⟩ := s2
        wp_walk
        rw [up]
        exact ⟨plainId_quiet plain_eq_loop _, codeAny_builtin entry_eq_loop (by rw [Around.under_plainId plain_eq_loop _]; exact h3)⟩
      | false =>
        obtain ⟨hF, xs2, ys2, m3, m4, gp2, gq2, zp2, zq2⟩ := h2.2 rfl
        have h3 := fail s2 hF
        have n3 : xs2[((i : Nat) : Int).toNat]? = some (xs2[i]'(by omega)) := by simp
        have n4 : ys2[((i : Nat) : Int).toNat]? = some (ys2[i]'(by omega)) := by simp
        obtain ⟨hh2, gg2, dd2, kk2, oo2⟩ := s2
        wp_walk using wpAny_loadPart' gp2, wpAny_loadPart' gq2
        rw [n3, n4]
        wp_walk
        exact h3
    · obtain ⟨hh, gg, dd, kk, oo⟩ := s
      wp_walk using wpAny_loadPart' gp, wpAny_loadPart' gq
      rw [n1, n2]
      refine wpAny_bind (wpAny_mono tt (fun r s2 h2 => ?_) fun _ _ x => x)
      cases r with
      | true =>
        have h3 := next s2 (h2.1 rfl)
        obtain ⟨hh2, gg2, dd2, kk2, oo2⟩ := s2
        wp_walk
        rw [up]
        exact ⟨plainId_quiet plain_eq_loop _, codeAny_builtin entry_eq_loop (by rw [Around.under_plainId plain_eq_loop _]; exact h3)⟩
      | false =>
        obtain ⟨hF, xs2, ys2, m3, m4, gp2, gq2, zp2, zq2⟩ := h2.2 rfl
        have h3 := fail s2 hF
        have n3 : xs2[((i : Nat) : Int).toNat]? = some (xs2[i]'(by omega)) := by simp
        have n4 : ys2[((i : Nat) : Int).toNat]? = some (ys2[i]'(by omega)) := by simp
        obtain ⟨hh2, gg2, dd2, kk2, oo2⟩ := s2
        wp_walk using wpAny_loadPart' gp2, wpAny_loadPart' gq2
        rw [n3, n4]
        wp_walk
        exact h3
theorem listsB (ne yes : Bool) (hop : ne = !yes) (p q : Addr) (N : Nat) (J : Nat → Shared → Prop) (F : Shared → Prop) (hJ : LstI prog w A (fun e s' => R (.error e) s') p q N J F)
    (done : ∀ s, J N s → R (.ok (.ret (.bool yes))) s) (fail : ∀ s, F s → R (.ok (.ret (.bool (!yes)))) s) {s : Shared} (hs : J 0 s) :
    wpAny (model prog w) A.in1 ((if ne then Builtin.«list.__ne__» else Builtin.«list.__eq__») ⟨[.ref p, .ref q], []⟩) (GQ.FinOf prog w A R) (fun e s' => R (.error e) s') s := by
  obtain ⟨xs, ys, m, m2, gp, gq, zp, zq, _⟩ := hJ _ _ hs
  have same : ¬ (xs.size != ys.size) = true := by simp [zp, zq]
  have sub := AutoSeq1.sub_list_list
  cases yes with
  | true =>
    subst hop
    have all := turnsB (A := A) (R := R) 2 true (.inl ⟨rfl, rfl⟩) p q N J F hJ done fail _ 0 rfl (Nat.zero_le _) s hs
    obtain ⟨hh, gg, dd, kk, oo⟩ := s
    show wpAny _ _ (Builtin.«list.__eq__» ⟨[.ref p, .ref q], []⟩) _ _ _
    wp_walk using wpAny_loadPart' gp, wpAny_loadPart' gq
    exact ⟨plainId_quiet plain_eq_loop _, codeAny_builtin entry_eq_loop (by rw [Around.under_plainId plain_eq_loop _]; exact all)⟩
  | false =>
    subst hop
    have all := turnsB (A := A) (R := R) 3 false (.inr ⟨rfl, rfl⟩) p q N J F hJ done fail _ 0 rfl (Nat.zero_le _) s hs
    obtain ⟨hh, gg, dd, kk, oo⟩ := s
    show wpAny _ _ (Builtin.«list.__ne__» ⟨[.ref p, .ref q], []⟩) _ _ _
    wp_walk using wpAny_loadPart' gp, wpAny_loadPart' gq
    exact ⟨plainId_quiet plain_eq_loop _, codeAny_builtin entry_eq_loop (by rw [Around.under_plainId plain_eq_loop _]; exact all)⟩
/-- lists of unlike lengths -/
theorem listsN (ne : Bool) (p q : Addr) {xs ys : Array Value} {m m2 : Nat} {s : Shared} (gp : s.heap.get? p = some { cls := .type "list", data := .seq xs m }) (gq : s.heap.get? q = some { cls := .type "list", data := .seq ys m2 }) (h : xs.size ≠ ys.size)
    (fail : R (.ok (.ret (.bool ne))) s) : wpAny (model prog w) A.in1 ((if ne then Builtin.«list.__ne__» else Builtin.«list.__eq__») ⟨[.ref p, .ref q], []⟩) (GQ.FinOf prog w A R) (fun e s' => R (.error e) s') s := by
  have unl : (xs.size != ys.size) = true := by simpa using h
  have sub := AutoSeq1.sub_list_list
  cases ne with
  | true =>
    obtain ⟨hh, gg, dd, kk, oo⟩ := s
    show wpAny _ _ (Builtin.«list.__ne__» ⟨[.ref p, .ref q], []⟩) _ _ _
    wp_walk using wpAny_loadPart' gp, wpAny_loadPart' gq
    exact fail
  | false =>
    obtain ⟨hh, gg, dd, kk, oo⟩ := s
    show wpAny _ _ (Builtin.«list.__eq__» ⟨[.ref p, .ref q], []⟩) _ _ _
    wp_walk using wpAny_loadPart' gp, wpAny_loadPart' gq
    exact fail
end
end KA
namespace KA
open PySem PySem.SeqAt
open AutoSeq1 (wpAny_loadPart')
open MeetsSeq MeetsSeq2 MeetsSeq3 SeqRoads2
section
variable {prog : Program} {w : World} {A : Around} {R : Result → Shared → Prop}
theorem tupsB (ne : Bool) (p q : Addr) (xs ys : Array Value) (n n2 : Nat) (d1 d2 : Option Addr) (l1 l2 : Array (Option Value)) (J : Nat → Shared → Prop) (F : Shared → Prop)
    (turn : ∀ i (h1 : i < xs.size) (h2 : i < ys.size) s, J i s → wpAny (model prog w) A.in1 (eqBool xs[i] ys[i]) (fun r s' => (r = true → J (i + 1) s') ∧ (r = false → F s')) (fun e s' => R (.error e) s') s)
    (done : ∀ s, J (min xs.size ys.size) s → R (.ok (.ret (.bool (ne ^^ (xs.size == ys.size))))) s) (fail : ∀ s, F s → R (.ok (.ret (.bool ne))) s)
    {s : Shared} (gp : s.heap.get? p = some { cls := .type "tuple", dict := d1, data := .seq xs n, slots := l1 }) (gq : s.heap.get? q = some { cls := .type "tuple", dict := d2, data := .seq ys n2, slots := l2 }) (h : J 0 s) :
    wpAny (model prog w) A.in1 ((if ne then Builtin.«tuple.__ne__» else Builtin.«tuple.__eq__») ⟨[.ref p, .ref q], []⟩) (GQ.FinOf prog w A R) (fun e s' => R (.error e) s') s := by
  have sub := AutoSeq1.sub_tuple_tuple
  have hZ : (xs.toList.zip ys.toList).length = min xs.size ys.size := by simp
  have h0 := h
  have at_ : ∀ {i : Nat} {z : Value × Value} {rest : List (Value × Value)}, z :: rest = (xs.toList.zip ys.toList).drop i → ∃ (h1 : i < xs.size) (h2 : i < ys.size), z = (xs[i], ys[i]) ∧ rest = (xs.toList.zip ys.toList).drop (i + 1) := fun {i z rest} hz => by
    have lt : i < (xs.toList.zip ys.toList).length := by
      rcases Nat.lt_or_ge i (xs.toList.zip ys.toList).length with h' | h'
      · exact h'
      · rw [List.drop_of_length_le h'] at hz
        cases hz
    have h1 : i < xs.size := by omega
    have h2 : i < ys.size := by omega
    rw [List.drop_eq_getElem_cons lt] at hz
    injection hz with e1 e2
    exact ⟨h1, h2, by rw [e1]; simp, e2⟩
  have end_ : ∀ {i : Nat}, ([] : List (Value × Value)) = (xs.toList.zip ys.toList).drop i → i ≤ min xs.size ys.size → i = min xs.size ys.size := fun {i} hz hi => by
    rcases Nat.lt_or_ge i (xs.toList.zip ys.toList).length with h' | h'
    · rw [List.drop_eq_getElem_cons h'] at hz
      cases hz
    · omega
  cases ne with
  | false =>
    obtain ⟨hh, gg, dd, kk, oo⟩ := s
    show wpAny _ _ (Builtin.«tuple.__eq__» ⟨[.ref p, .ref q], []⟩) _ _ _
    wp_walk using wpAny_loadPart' gp, wpAny_loadPart' gq, wpAny_forIn_list _ (fun rest b s' => b.1 = none ∧ ∃ i, rest = (xs.toList.zip ys.toList).drop i ∧ i ≤ min xs.size ys.size ∧ J i s') _
    case turn =>
      rintro ⟨y, x⟩ rest b s' ⟨hb', i, hz, hi, hI⟩
      obtain ⟨h1, h2, e, hrest⟩ := at_ hz
      injection e with e1 e2
      subst e1 e2
      refine wpAny_bind (wpAny_mono (turn i h1 h2 s' hI) (fun r s2 q2 => ?_) fun _ _ x => x)
      cases r with
      | true =>
        wp_walk
        exact ⟨rfl, i + 1, hrest, by omega, q2.1 rfl⟩
      | false =>
        have h3 := fail s2 (q2.2 rfl)
        wp_walk
        exact h3
    case fin =>
      rintro ⟨b1, b2⟩ s' ⟨hb', i, hz, hi, hI⟩
      simp only at hb'
      subst hb'
      have hR := done s' (end_ hz hi ▸ hI)
      wp_walk
      simpa [Builtin.Tuple.tupleCompareSizes] using hR
    case h =>
      exact ⟨rfl, 0, rfl, Nat.zero_le _, h0⟩
  | true =>
    obtain ⟨hh, gg, dd, kk, oo⟩ := s
    show wpAny _ _ (Builtin.«tuple.__ne__» ⟨[.ref p, .ref q], []⟩) _ _ _
    wp_walk using wpAny_loadPart' gp, wpAny_loadPart' gq, wpAny_forIn_list _ (fun rest b s' => b.1 = none ∧ ∃ i, rest = (xs.toList.zip ys.toList).drop i ∧ i ≤ min xs.size ys.size ∧ J i s') _
    case turn =>
      rintro ⟨y, x⟩ rest b s' ⟨hb', i, hz, hi, hI⟩
      obtain ⟨h1, h2, e, hrest⟩ := at_ hz
      injection e with e1 e2
      subst e1 e2
      refine wpAny_bind (wpAny_mono (turn i h1 h2 s' hI) (fun r s2 q2 => ?_) fun _ _ x => x)
      cases r with
      | true =>
        wp_walk
        exact ⟨rfl, i + 1, hrest, by omega, q2.1 rfl⟩
      | false =>
        have h3 := fail s2 (q2.2 rfl)
        wp_walk
        exact h3
    case fin =>
      rintro ⟨b1, b2⟩ s' ⟨hb', i, hz, hi, hI⟩
      simp only at hb'
      subst hb'
      have hR := done s' (end_ hz hi ▸ hI)
      wp_walk
      simpa [Builtin.Tuple.tupleCompareSizes, bne] using hR
    case h =>
      exact ⟨rfl, 0, rfl, Nat.zero_le _, h0⟩
end
section
variable {prog : Program} {w : World} {A : Around} {E : Value → Shared → Prop} {s : Shared}
def opNe (ne : Bool) : CmpOp := if ne then .NotEq else .Eq
theorem rcL {p q : Addr} {N : Nat} {Q : Value → Shared → Prop} (ne : Bool) (hu : A.units < cLine) (J : Nat → Shared → Prop) (F : Shared → Prop) (hJ : LstI prog w A E p q N J F)
    (done : ∀ s, J N s → Q (.bool (!ne)) s) (fail : ∀ s, F s → Q (.bool ne) s) (hs : J 0 s) : wpAny (model prog w) A (richCompare (opNe ne) (.ref p) (.ref q)) Q E s := by
  obtain ⟨xs, ys, m, m2, gp, gq, _, _, _⟩ := hJ _ _ hs
  cases ne with
  | false =>
    refine wpAny_richCompare_same_room (op := .Eq) ⟨_, gp, rfl⟩ ⟨_, gq, rfl⟩ PySem.F.slot_list_eq (GQ.call_here PySem.F.slot_list_eq ⟨_, gp, rfl⟩ PySem.F.entry_list_eq (PySem.F.args_list_eq_2 _ _) ?_) hu
    exact listsB (R := wants (fun v s' => v ≠ .notImplemented ∧ Q v s') E) false true rfl p q N J F hJ (fun s' z => ⟨(fun x => nomatch x), done s' z⟩) (fun s' z => ⟨(fun x => nomatch x), fail s' z⟩) hs
  | true =>
    refine wpAny_richCompare_same_room (op := .NotEq) ⟨_, gp, rfl⟩ ⟨_, gq, rfl⟩ PySem.F.slot_list_ne (GQ.call_here PySem.F.slot_list_ne ⟨_, gp, rfl⟩ PySem.F.entry_list_ne (PySem.F.args_list_ne_2 _ _) ?_) hu
    exact listsB (R := wants (fun v s' => v ≠ .notImplemented ∧ Q v s') E) true false rfl p q N J F hJ (fun s' z => ⟨(fun x => nomatch x), done s' z⟩) (fun s' z => ⟨(fun x => nomatch x), fail s' z⟩) hs
theorem rcN {p q : Addr} {xs ys : Array Value} {m m2 : Nat} {Q : Value → Shared → Prop} (ne : Bool) (hu : A.units < cLine) (gp : s.heap.get? p = some { cls := .type "list", data := .seq xs m }) (gq : s.heap.get? q = some { cls := .type "list", data := .seq ys m2 }) (h : xs.size ≠ ys.size)
    (fail : Q (.bool ne) s) : wpAny (model prog w) A (richCompare (opNe ne) (.ref p) (.ref q)) Q E s := by
  cases ne with
  | false =>
    refine wpAny_richCompare_same_room (op := .Eq) ⟨_, gp, rfl⟩ ⟨_, gq, rfl⟩ PySem.F.slot_list_eq (GQ.call_here PySem.F.slot_list_eq ⟨_, gp, rfl⟩ PySem.F.entry_list_eq (PySem.F.args_list_eq_2 _ _) ?_) hu
    exact listsN (R := wants (fun v s' => v ≠ .notImplemented ∧ Q v s') E) false p q gp gq h ⟨(fun x => nomatch x), fail⟩
  | true =>
    refine wpAny_richCompare_same_room (op := .NotEq) ⟨_, gp, rfl⟩ ⟨_, gq, rfl⟩ PySem.F.slot_list_ne (GQ.call_here PySem.F.slot_list_ne ⟨_, gp, rfl⟩ PySem.F.entry_list_ne (PySem.F.args_list_ne_2 _ _) ?_) hu
    exact listsN (R := wants (fun v s' => v ≠ .notImplemented ∧ Q v s') E) true p q gp gq h ⟨(fun x => nomatch x), fail⟩
theorem rcT {p q : Addr} {xs ys : Array Value} {Q : Value → Shared → Prop} (ne : Bool) (hu : A.units < cLine) (J : Nat → Shared → Prop) (F : Shared → Prop) (hl : s.heap.IsTuple p xs) (hb : s.heap.IsTuple q ys)
    (turn : ∀ i (h1 : i < xs.size) (h2 : i < ys.size) s, J i s → wpAny (model prog w) A.in1 (eqBool xs[i] ys[i]) (fun r s' => (r = true → J (i + 1) s') ∧ (r = false → F s')) E s)
    (done : ∀ s, J (min xs.size ys.size) s → Q (.bool (ne ^^ (xs.size == ys.size))) s) (fail : ∀ s, F s → Q (.bool ne) s) (h : J 0 s) : wpAny (model prog w) A (richCompare (opNe ne) (.ref p) (.ref q)) Q E s := by
  obtain ⟨⟨cls, dd, data, sl⟩, ho, hc, n, hd⟩ := id hl
  obtain ⟨⟨cls2, dd2, data2, sl2⟩, ho2, hc2, n2, hd2⟩ := id hb
  simp only at hc hd hc2 hd2
  subst hc hd hc2 hd2
  cases ne with
  | false =>
    refine wpAny_richCompare_same_room (op := .Eq) ⟨_, ho, rfl⟩ ⟨_, ho2, rfl⟩ PySem.F.slot_tuple_eq (GQ.call_here PySem.F.slot_tuple_eq ⟨_, ho, rfl⟩ PySem.F.entry_tuple_eq (PySem.F.args_tuple_eq_2 _ _) ?_) hu
    exact tupsB (R := wants (fun v s' => v ≠ .notImplemented ∧ Q v s') E) false p q xs ys n n2 dd dd2 sl sl2 J F turn (fun s' z => ⟨(fun x => nomatch x), done s' z⟩) (fun s' z => ⟨(fun x => nomatch x), fail s' z⟩) ho ho2 h
  | true =>
    refine wpAny_richCompare_same_room (op := .NotEq) ⟨_, ho, rfl⟩ ⟨_, ho2, rfl⟩ PySem.F.slot_tuple_ne (GQ.call_here PySem.F.slot_tuple_ne ⟨_, ho, rfl⟩ PySem.F.entry_tuple_ne (PySem.F.args_tuple_ne_2 _ _) ?_) hu
    exact tupsB (R := wants (fun v s' => v ≠ .notImplemented ∧ Q v s') E) true p q xs ys n n2 dd dd2 sl sl2 J F turn (fun s' z => ⟨(fun x => nomatch x), done s' z⟩) (fun s' z => ⟨(fun x => nomatch x), fail s' z⟩) ho ho2 h
end
end KA
namespace KA
open PySem PySem.Spec PyProof.Rows L2
/-- two values, and what == tells of them -/
abbrev BEq2 := V → V → Bool → Hp → Prop
def MonB (D : BEq2) : Prop := ∀ x y b H H', Ext H H' → D x y b H → D x y b H'
def EqB (X : Cx) (n : Nat) (D : BEq2) : Prop :=
  ∀ (A : Around) (pins : List (Addr × Obj)) (s : Shared) (σ : L2.St) (H : Hp) (x y : V) (u v : Value) (b : Bool), Sub X n A → L2.Inv X pins σ H s → RelV x u → RelV y v → D x y b H →
    wpAny (model X.prog X.w) A (eqBool u v) (fun r s' => r = b ∧ ∃ H', L2.Inv X pins σ H' s' ∧ Ext H H') X.xe s
def RcB (X : Cx) (n : Nat) (ne : Bool) (D : BEq2) : Prop :=
  ∀ (A : Around) (pins : List (Addr × Obj)) (s : Shared) (σ : L2.St) (H : Hp) (x y : V) (u v : Value) (b : Bool), Sub X n A → L2.Inv X pins σ H s → RelV x u → RelV y v → D x y b H →
    wpAny (model X.prog X.w) A (richCompare (opNe ne) u v) (fun r s' => r = .bool (ne ^^ b) ∧ ∃ H', L2.Inv X pins σ H' s' ∧ Ext H H') X.xe s
section
variable {X : Cx} {n m : Nat} {D D' : BEq2}
theorem EqB.mono (h : EqB X n D) (hn : n ≤ m) : EqB X m D := fun A pins s σ H x y u v b sb => h A pins s σ H x y u v b (sb.mono hn)
theorem EqB.or (h : EqB X n D) (h' : EqB X n D') : EqB X n (fun x y b H => D x y b H ∨ D' x y b H) := fun A pins s σ H x y u v b sb I rx ry d => d.elim (fun d => h A pins s σ H x y u v b sb I rx ry d) (fun d => h' A pins s σ H x y u v b sb I rx ry d)
theorem MonB.or (h : MonB D) (h' : MonB D') : MonB (fun x y b H => D x y b H ∨ D' x y b H) := fun x y b H H' e d => d.elim (fun d => .inl (h x y b H H' e d)) fun d => .inr (h' x y b H H' e d)
/-- flat values -/
def BFlat : BEq2 := fun x y b _ => flatV x = true ∧ flatV y = true ∧ eqV x y = b
theorem monB_flat : MonB BFlat := fun _ _ _ _ _ _ d => d
theorem eqB_flat : EqB X 0 BFlat := by
  intro A pins s σ H x y u v b sb I rx ry d
  obtain ⟨fx, fy, e⟩ := d
  have q := eqAt_V (A := A) (s := s) rx ry fx fy
  rw [e] at q
  exact q X.prog X.w X.xe _ ⟨rfl, H, I, Ext.rfl'⟩
/-- item by item, as far as both go -/
def PrsB (D : BEq2) (xs ys : List V) (f : Nat → Bool) (H : Hp) : Prop := ∀ (i : Nat) x y, xs[i]? = some x → ys[i]? = some y → D x y (f i) H
theorem turnB (hD : MonB D) (h : EqB X n D) {A : Around} (sb : Sub X (n + 1) A) {pins : List (Addr × Obj)} {σ : L2.St} {H : Hp} {xs ys : List V} {its its2 : List Value} {f : Nat → Bool} (p : PrsB D xs ys f H) (r : Vals xs its) (r2 : Vals ys its2)
    (i : Nat) (h1 : i < its.toArray.size) (h2 : i < its2.toArray.size) (s' : Shared) (l : LoopI X pins σ H s') :
    wpAny (model X.prog X.w) A.in1 (eqBool its.toArray[i] its2.toArray[i]) (fun r s2 => r = f i ∧ LoopI X pins σ H s2) X.xe s' := by
  obtain ⟨H1, I1, e1⟩ := l
  have l1 : i < its.length := by simpa using h1
  have l2 : i < its2.length := by simpa using h2
  have k1 : i < xs.length := by rw [r.length]; exact l1
  have k2 : i < ys.length := by rw [r2.length]; exact l2
  obtain ⟨u, hu, ru⟩ := r.get (List.getElem?_eq_getElem k1)
  obtain ⟨v, hv, rv⟩ := r2.get (List.getElem?_eq_getElem k2)
  have g1 : its.toArray[i] = u := by
    rw [List.getElem?_eq_getElem l1] at hu
    simpa using Option.some.inj hu
  have g2 : its2.toArray[i] = v := by
    rw [List.getElem?_eq_getElem l2] at hv
    simpa using Option.some.inj hv
  rw [g1, g2]
  refine wpAny_mono (h A.in1 pins s' σ H1 _ _ u v _ sb.in1 I1 ru rv (hD _ _ _ _ _ e1 (p i _ _ (List.getElem?_eq_getElem k1) (List.getElem?_eq_getElem k2)))) (fun r s2 q => ?_) fun _ _ x => x
  obtain ⟨hr, H2, I2, e2⟩ := q
  exact ⟨hr, H2, I2, e1.trans e2⟩
def allF (N : Nat) (f : Nat → Bool) : Bool := (List.range N).all f
theorem allF_true {N : Nat} {f : Nat → Bool} (h : ∀ j, j < N → f j = true) : allF N f = true := by
  unfold allF
  rw [List.all_eq_true]
  exact fun j hj => h j (List.mem_range.mp hj)
theorem allF_false {N j : Nat} {f : Nat → Bool} (h : j < N) (e : f j = false) : allF N f = false := by
  unfold allF
  rw [List.all_eq_false]
  exact ⟨j, List.mem_range.mpr h, by rw [e]; exact Bool.false_ne_true⟩
def BList (D : BEq2) : BEq2 := fun x y b H => ∃ (p q : Addr) (xs ys : List V) (f : Nat → Bool), x = .ref p ∧ y = .ref q ∧ H p = some (.lst xs) ∧ H q = some (.lst ys) ∧ (xs.length = ys.length → PrsB D xs ys f H) ∧ b = (decide (xs.length = ys.length) && allF xs.length f)
def BTup (K : PySem.W.Frag) (D : BEq2) : BEq2 := fun x y b H => ∃ (p q : Addr) (xs ys : List V) (f : Nat → Bool), x = .ref p ∧ y = .ref q ∧ SqT K H p xs ∧ SqT K H q ys ∧ PrsB D xs ys f H ∧ b = (decide (xs.length = ys.length) && allF xs.length f)
theorem PrsB.mon (hD : MonB D) {xs ys : List V} {f : Nat → Bool} {H H' : Hp} (e : Ext H H') (p : PrsB D xs ys f H) : PrsB D xs ys f H' := fun i x y h1 h2 => hD x y _ H H' e (p i x y h1 h2)
theorem monB_list (hD : MonB D) : MonB (BList D) := fun x y b H H' e d => by
  obtain ⟨p, q, xs, ys, f, hx, hy, h1, h2, pr, hb⟩ := d
  exact ⟨p, q, xs, ys, f, hx, hy, e _ _ h1, e _ _ h2, fun z => (pr z).mon hD e, hb⟩
theorem monB_tup {K : PySem.W.Frag} (hD : MonB D) : MonB (BTup K D) := fun x y b H H' e d => by
  obtain ⟨p, q, xs, ys, f, hx, hy, h1, h2, pr, hb⟩ := d
  exact ⟨p, q, xs, ys, f, hx, hy, h1.ext e, h2.ext e, pr.mon hD e, hb⟩
theorem rcB_list (ne : Bool) (hD : MonB D) (h : EqB X n D) : RcB X (n + 1) ne (BList D) := by
  intro A pins s σ H x y u v b sb I rx ry d
  obtain ⟨p, q, xs, ys, f, rfl, rfl, hp, hq, pr, rfl⟩ := d
  cases rx
  cases ry
  by_cases hl : xs.length = ys.length
  · have pr := pr hl
    have look : ∀ s', LoopI X pins σ H s' → ∃ (as bs : List Value) (m m2 : Nat), Vals xs as ∧ Vals ys bs ∧ s'.heap.get? p = some { cls := .type "list", data := .seq as.toArray m } ∧ s'.heap.get? q = some { cls := .type "list", data := .seq bs.toArray m2 } ∧ as.toArray.size = xs.length ∧ bs.toArray.size = xs.length := fun s' z => by
      obtain ⟨H1, I1, e1⟩ := id z
      obtain ⟨_, its, k, r, e⟩ := I1.hok p _ (e1 _ _ hp)
      obtain ⟨_, its2, k2, r2, e2⟩ := I1.hok q _ (e1 _ _ hq)
      exact ⟨its, its2, k, k2, r, r2, e, e2, by rw [List.size_toArray, ← r.length], by rw [List.size_toArray, ← r2.length, hl]⟩
    refine rcL (N := xs.length) ne sb.room.units0 (fun i s' => LoopI X pins σ H s' ∧ ∀ j, j < i → f j = true) (fun s' => LoopI X pins σ H s' ∧ ∃ j, j < xs.length ∧ f j = false) (fun i s' z => ?_) (fun s' z => ?_) (fun s' z => ?_) ⟨⟨H, I, Ext.rfl'⟩, fun j hj => absurd hj (Nat.not_lt_zero _)⟩
    · obtain ⟨z, hf⟩ := z
      obtain ⟨as, bs, k, k2, r, r2, e, e2, z1, z2⟩ := look s' z
      refine ⟨_, _, k, k2, e, e2, z1, z2, fun g1 g2 => wpAny_mono (turnB hD h sb pr r r2 i g1 g2 s' z) (fun r s2 q2 => ?_) fun _ _ x => x⟩
      obtain ⟨rfl, q2⟩ := q2
      refine ⟨fun t => ⟨q2, fun j hj => ?_⟩, fun t => ⟨⟨q2, i, by omega, t⟩, ?_⟩⟩
      · by_cases hji : j = i
        · rw [hji]; exact t
        · exact hf j (by omega)
      · obtain ⟨as, bs, k, k2, r, r2, e, e2, z1, z2⟩ := look s2 q2
        exact ⟨_, _, k, k2, e, e2, z1, z2⟩
    · obtain ⟨⟨H1, z⟩, hf⟩ := z
      refine ⟨?_, H1, z⟩
      rw [decide_eq_true hl, allF_true hf]
      cases ne <;> rfl
    · obtain ⟨⟨H1, z⟩, j, hj, e⟩ := z
      refine ⟨?_, H1, z⟩
      rw [allF_false hj e, Bool.and_false, Bool.xor_false]
  · obtain ⟨_, its, k, r, e⟩ := I.hok p _ hp
    obtain ⟨_, its2, k2, r2, e2⟩ := I.hok q _ hq
    refine rcN ne sb.room.units0 e e2 (by rw [List.size_toArray, List.size_toArray, ← r.length, ← r2.length]; exact hl) ⟨?_, H, I, Ext.rfl'⟩
    rw [decide_eq_false hl, Bool.false_and, Bool.xor_false]
theorem rcB_tup (ne : Bool) (hD : MonB D) (h : EqB X n D) : RcB X (n + 1) ne (BTup X.K D) := by
  intro A pins s σ H x y u v b sb I rx ry d
  obtain ⟨p, q, xs, ys, f, rfl, rfl, hp, hq, pr, rfl⟩ := d
  cases rx
  cases ry
  obtain ⟨its, r, e, z⟩ := I.tuple hp
  obtain ⟨its2, r2, e2, z2⟩ := I.tuple hq
  have w1 : its.toArray.size = xs.length := by rw [List.size_toArray, ← r.length]
  have w2 : its2.toArray.size = ys.length := by rw [List.size_toArray, ← r2.length]
  refine rcT ne sb.room.units0 (fun i s' => LoopI X pins σ H s' ∧ ∀ j, j < i → f j = true) (fun s' => LoopI X pins σ H s' ∧ ∃ j, j < xs.length ∧ f j = false) e e2 (fun i g1 g2 s' z => ?_) (fun s' z => ?_) (fun s' z => ?_) ⟨⟨H, I, Ext.rfl'⟩, fun j hj => absurd hj (Nat.not_lt_zero _)⟩
  · obtain ⟨z, hf⟩ := z
    refine wpAny_mono (turnB hD h sb pr r r2 i g1 g2 s' z) (fun r s2 q2 => ?_) fun _ _ x => x
    obtain ⟨rfl, q2⟩ := q2
    refine ⟨fun t => ⟨q2, fun j hj => ?_⟩, fun t => ⟨q2, i, by omega, t⟩⟩
    by_cases hji : j = i
    · rw [hji]; exact t
    · exact hf j (by omega)
  · obtain ⟨⟨H1, z⟩, hf⟩ := z
    refine ⟨?_, H1, z⟩
    rw [w1, w2] at hf ⊢
    by_cases hl : xs.length = ys.length
    · rw [decide_eq_true hl, allF_true (fun j hj => hf j (by omega)), hl]
      simp
    · rw [decide_eq_false hl]
      have : (xs.length == ys.length) = false := by simpa using hl
      rw [this]
      rfl
  · obtain ⟨⟨H1, z⟩, j, hj, e⟩ := z
    refine ⟨?_, H1, z⟩
    rw [allF_false hj e, Bool.and_false, Bool.xor_false]
/-- x == y, x != y as expressions -/
def rEqB (ne : Bool) (D : BEq2) : R2 := fun x y H Q => ∃ b, D x y b H ∧ ∀ H', Ext H H' → Q (.bl (ne ^^ b)) H'
theorem op_eqB (h : RcB X n false D) (hr : Room n X.A) : OpR X (compareOp .Eq) (rEqB false D) := by
  intro pins s σ H x y v u Q I rx ry hq
  obtain ⟨b, d, q⟩ := hq
  show wpAny (model X.prog X.w) X.A (richCompare .Eq v u) (EP X pins σ Q) X.xe s
  refine wpAny_mono (h X.A pins s σ H x y v u b ⟨hr, rfl⟩ I rx ry d) (fun r s' z => ?_) fun _ _ x => x
  obtain ⟨rfl, H', I', e⟩ := z
  exact ⟨.bl _, H', I', rfl, q H' e⟩
theorem op_neB (h : RcB X n true D) (hr : Room n X.A) : OpR X (compareOp .NotEq) (rEqB true D) := by
  intro pins s σ H x y v u Q I rx ry hq
  obtain ⟨b, d, q⟩ := hq
  show wpAny (model X.prog X.w) X.A (richCompare .NotEq v u) (EP X pins σ Q) X.xe s
  refine wpAny_mono (h X.A pins s σ H x y v u b ⟨hr, rfl⟩ I rx ry d) (fun r s' z => ?_) fun _ _ x => x
  obtain ⟨rfl, H', I', e⟩ := z
  exact ⟨.bl _, H', I', rfl, q H' e⟩
end
end KA
namespace KA
open PySem PySem.Spec PySem.W PyProof.Rows
section
variable {prog : Program} {w : World} {A : Around} {E : Value → Shared → Prop} {s : Shared} {K : Frag} {x C f : Addr} {ox : Obj} {od : Option Obj}
theorem none_eq_ref {Q : Value → Shared → Prop} (h : Q .notImplemented s) : wpAny (model prog w) A (call (.builtin "NoneType.__eq__") [.none, .ref x]) Q E s := by
  refine wpAny_call_entry PySem.F.slot_NoneType_eq (typeIs_none s) PySem.F.entry_NoneType_eq ?_ (PySem.F.args_NoneType_eq_2 _ _)
  unfold Builtin.«NoneType.__eq__»
  wp_walk
  exact ⟨_, rfl, h⟩
/-- None == x, x an instance whose class has its own == : that one is asked -/
theorem cmp_none {Q : Value → Shared → Prop} (hu : A.units < cLine) (X : K.In s.heap) (I : InstAt s.heap x ox C od) (hn : subIn K (.ref C) (.type "NoneType") = some false)
    (hs : findIn K (.ref C) "__eq__" = some (some (.ref f))) (hf : isFn K (.ref f) = true)
    (h : wpAny (model prog w) A (call (.ref f) [.ref x, .none]) (PySem.W.CmpBack Q) E s) : wpAny (model prog w) A (richCompare .Eq .none (.ref x)) Q E s := by
  have one : wpAny (model prog w) A (tryCompare (.ref x) "__eq__" .none) (fun r s' => ∃ v, r = some v ∧ Q v s') E s := by
    unfold tryCompare
    refine wpAny_bind (ifBound_K X I hs hf (wpAny_mono h (fun v s' hv => ?_) fun _ _ e => e))
    cases v <;> first | exact hv.elim | exact wpAny_pure ⟨_, rfl, hv⟩
  have two : wpAny (model prog w) A (tryCompare .none "__eq__" (.ref x)) (fun r s' => r = none ∧ s' = s) E s := by
    unfold tryCompare
    refine wpAny_bind (wpAny_callSpecialIfBound?_slot (name := (cmpInfo .Eq).2.1) (typeIs_none s) PySem.F.slot_NoneType_eq (none_eq_ref ?_))
    exact wpAny_pure ⟨rfl, rfl⟩
  unfold richCompare
  refine wpAny_holding (wpAny_bind (wpAny_cRoomFor hu ?_))
  rw [show oneThing? .Eq .none (.ref x) = none from rfl]
  refine wpAny_bind (wpAny_typeOf (typeIs_none s) (wpAny_bind (I.type.here ?_)))
  refine PySem.W.KFB.if_so rfl (wpAny_bind ((looks_subIn X hn).here ?_))
  refine PySem.W.KFB.if_not rfl ?_
  refine wpAny_bind (wpAny_mono two (fun r s' z => ?_) fun _ _ e => e)
  obtain ⟨rfl, rfl⟩ := z
  refine PySem.W.KFB.if_so rfl (wpAny_bind (wpAny_mono one (fun r s' z => ?_) fun _ _ e => e))
  obtain ⟨v, rfl, hq⟩ := z
  exact wpAny_pure hq
end
end KA

namespace KA
open PySem PySem.Spec PyProof.Rows L2
/-- eqBool of what is not one thing, by the rich comparison -/
theorem eqBool_by {prog : Program} {w : World} {A : Around} {E : Value → Shared → Prop} {s : Shared} {u v : Value} {Q : Bool → Shared → Prop} (hu : (∃ a, u = .ref a) ∨ u = .none) (hne : (u == v) = false)
    (h : wpAny (model prog w) A (richCompare .Eq u v) (fun r s' => ∃ b, r = .bool b ∧ Q b s') E s) : wpAny (model prog w) A (eqBool u v) Q E s := by
  unfold eqBool
  refine wpAny_holding ?_
  refine wpAny_ite_split (fun hab => by rw [hne] at hab; cases hab) (fun _ => ?_)
  rcases hu with ⟨a, rfl⟩ | rfl
  · refine wpAny_bind (wpAny_mono h (fun r s' hv => ?_) fun _ _ x => x)
    obtain ⟨b, rfl, q⟩ := hv
    exact wpAny_truthy_bool q
  · refine wpAny_bind (wpAny_mono h (fun r s' hv => ?_) fun _ _ x => x)
    obtain ⟨b, rfl, q⟩ := hv
    exact wpAny_truthy_bool q
/-- what an own == promises: R tells its answer -/
def spEqO (R : Addr → V → Bool → Hp → Prop) : Sp := fun vs H Q _ => ∃ (a : Addr) (y : V) (b : Bool), vs = [.ref a, y] ∧ R a y b H ∧ ∀ H', Ext H H' → Q (.bl b) H'
section
variable {X : Cx} {n : Nat} {CX : CXT} {C f : Addr} {fd : FuncData} {ps : List Str} {R : Addr → V → Bool → Hp → Prop} {E : XK}
theorem run_eqO {A : Around} {pins : List (Addr × Obj)} {σ : L2.St} {H : Hp} {s : Shared} {a : Addr} {y : V} {v : Value} {b : Bool} (F : FnOk X.prog X.w X.K X.mg X.base CX n f fd ps (spEqO R)) (hb : Binds X.K fd ps []) (hx : Passes CX X E) (sb : Sub X n A) (I : L2.Inv X pins σ H s)
    (ry : RelV y v) (d : R a y b H) : wpAny (model X.prog X.w) A (call (.ref f) [.ref a, v]) (PySem.W.CmpBack fun r s' => r = .bool b ∧ ∃ H', L2.Inv X pins σ H' s' ∧ Ext H H') X.xe s := by
  have hsp : spEqO R [.ref a, y] H (fun z H' => z = .bl b ∧ Ext H H') E := ⟨a, y, b, rfl, d, fun H' e => ⟨rfl, e⟩⟩
  have e0 : Env0 X.prog X.w X.K X.mg X.base A X.stack s H := by
    have e := I.env0
    exact ⟨by rw [sb.fr]; exact e.frames, e.mod, e.bs, e.bsz, e.funs, e.frf, e.hok, e.bare⟩
  have hl := F.len _ _ _ _ hsp
  have r2 : Vals [V.ref a, y] [Value.ref a, v] := .cons rfl (.cons ry .nil)
  refine wpAny_call (codeAny_mono (F.run A X.stack s H ⟨[.ref a, v], []⟩ [.ref a, v] [.ref a, y] _ E sb.room e0 (by
    have := hb s [.ref a, v] I.kIn (by simpa using hl)
    simpa using this) r2 hsp) fun r s' hq => ?_)
  cases r with
  | error e => exact hx pins σ H s e s' I hq
  | ok fl =>
    cases fl with
    | ret z =>
      obtain ⟨z, H', I', rz, ez, ex⟩ := I.after hq
      subst ez
      cases rz
      exact ⟨rfl, H', I', ex⟩
    | next => exact False.elim hq
    | brk => exact False.elim hq
    | cont => exact False.elim hq
/-- an instance of the class at C beside anything, or None beside an instance -/
def BOwn (K : PySem.W.Frag) (C : Addr) (R : Addr → V → Bool → Hp → Prop) : BEq2 := fun x y b H =>
  (∃ (a dx : Addr) (fs : List (Str × V)) (t : Value), x = .ref a ∧ H a = some (.ins C dx fs) ∧ TyX K H y t ∧ PySem.W.notFirst K C t = true ∧ R a y b H ∧ (y = .ref a → b = true)) ∨
  ∃ (a dx : Addr) (fs : List (Str × V)), x = .non ∧ y = .ref a ∧ H a = some (.ins C dx fs) ∧ R a .non b H
theorem rcB_own (F : FnOk X.prog X.w X.K X.mg X.base CX n f fd ps (spEqO R)) (hs : PySem.W.findIn X.K (.ref C) "__eq__" = some (some (.ref f))) (hf : PySem.W.isFn X.K (.ref f) = true) (hb : Binds X.K fd ps []) (hx : Passes CX X E)
    (hn : PySem.W.subIn X.K (.ref C) (.type "NoneType") = some false) : RcB X n false (BOwn X.K C R) := by
  intro A pins s σ H x y u v b sb I rx ry d
  have fin : (false ^^ b) = b := Bool.false_xor b
  rw [fin]
  rcases d with ⟨a, dx, fs, t, rfl, ha, ty, nf, hR, _⟩ | ⟨a, dx, fs, rfl, rfl, ha, hR⟩
  · cases rx
    obtain ⟨mA, J, _⟩ := ins_get I.hok ha
    obtain ⟨od, J, _⟩ := J.look
    obtain ⟨Pz, Z, p, _⟩ := kit_of I ry ty
    obtain ⟨m, hF⟩ := I.fr
    exact PySem.W.cmp_K (op := .Eq) (tb := t) sb.room.units0 hF I.ok.mod.kin J (Z.ty _ _ I.kIn p) nf hs hf (run_eqO F hb hx sb I ry hR)
  · cases rx
    cases ry
    obtain ⟨mA, J, _⟩ := ins_get I.hok ha
    obtain ⟨od, J, _⟩ := J.look
    exact cmp_none sb.room.units0 I.kIn J hn hs hf (run_eqO (y := .non) F hb hx sb I rfl hR)
theorem eqB_own (F : FnOk X.prog X.w X.K X.mg X.base CX n f fd ps (spEqO R)) (hs : PySem.W.findIn X.K (.ref C) "__eq__" = some (some (.ref f))) (hf : PySem.W.isFn X.K (.ref f) = true) (hb : Binds X.K fd ps []) (hx : Passes CX X E)
    (hn : PySem.W.subIn X.K (.ref C) (.type "NoneType") = some false) : EqB X n (BOwn X.K C R) := by
  intro A pins s σ H x y u v b sb I rx ry d
  by_cases hsame : (u == v) = true
  · have e := eq_of_beq hsame
    subst e
    have hb1 : b = true := by
      rcases d with ⟨a, dx, fs, t, rfl, ha, ty, nf, hR, h⟩ | ⟨a, dx, fs, rfl, rfl, ha, hR⟩
      · cases rx
        refine h ?_
        cases y with
        | ref c =>
          cases ry
          rfl
        | non => cases ry
        | bl _ => cases ry
        | int _ => obtain ⟨_, z⟩ := ry; cases z
        | str _ => obtain ⟨_, z⟩ := ry; cases z
        | byt _ => obtain ⟨_, z⟩ := ry; cases z
        | flt _ => obtain ⟨_, z⟩ := ry; cases z
        | ty _ => cases ry
      · cases rx
        cases ry
    rw [hb1]
    exact SeqAt.EqAt.same (A := A) (s := s) u X.prog X.w X.xe _ ⟨rfl, H, I, Ext.rfl'⟩
  · have hu : (∃ a, u = .ref a) ∨ u = .none := by
      rcases d with ⟨a, dx, fs, t, rfl, ha, ty, nf, hR, h⟩ | ⟨a, dx, fs, rfl, rfl, ha, hR⟩
      · cases rx
        exact .inl ⟨_, rfl⟩
      · cases rx
        exact .inr rfl
    refine eqBool_by hu (by simpa using hsame) (wpAny_mono (rcB_own F hs hf hb hx hn A pins s σ H x y u v b sb I rx ry d) (fun r s' q => ?_) fun _ _ x => x)
    obtain ⟨hr, q⟩ := q
    exact ⟨b, by rw [hr, Bool.false_xor], rfl, q⟩
theorem monB_own {K : PySem.W.Frag} (hR : ∀ a y b H H', Ext H H' → R a y b H → R a y b H') : MonB (BOwn K C R) := fun x y b H H' e d => by
  rcases d with ⟨a, dx, fs, t, hx, ha, ty, nf, r, h⟩ | ⟨a, dx, fs, hx, hy, ha, r⟩
  · exact .inl ⟨a, dx, fs, t, hx, e _ _ ha, tyx_same e ty, nf, hR _ _ _ _ _ e r, h⟩
  · exact .inr ⟨a, dx, fs, hx, hy, e _ _ ha, hR _ _ _ _ _ e r⟩
end
end KA
namespace KA
open PySem PySem.SeqAt
open AutoSeq1 (wpAny_loadPart')
open MeetsSeq MeetsSeq2 MeetsSeq3 SeqRoads2
section
variable {prog : Program} {w : World} {A : Around} {R : Result → Shared → Prop}
/-- a list, read anew at each turn: the item is told equal to x or not -/
def ItI (prog : Program) (w : World) (A : Around) (E : Value → Shared → Prop) (p : Addr) (x : Value) (N : Nat) (J : Nat → Nat → Shared → Prop) (T : Nat → Nat → Bool → Shared → Prop) : Prop :=
  ∀ i c s, J i c s → ∃ (xs : Array Value) (m : Nat), s.heap.get? p = some { cls := .type "list", data := .seq xs m } ∧ xs.size = N ∧
    ∀ (g1 : i < xs.size), wpAny (model prog w) A.in1 (eqBool xs[i] x) (fun r s' => T i c r s') E s
theorem inB (p : Addr) (x : Value) (N : Nat) (J : Nat → Nat → Shared → Prop) (F : Shared → Prop) (hJ : ItI prog w A (fun e s' => R (.error e) s') p x N J (fun i c r s' => (r = false → J (i + 1) c s') ∧ (r = true → F s')))
    (done : ∀ c s, J N c s → R (.ok (.ret (.bool false))) s) (hit : ∀ s, F s → R (.ok (.ret (.bool true))) s) : ∀ (k i c : Nat), N - i = k → i ≤ N → ∀ s, J i c s →
      wpAny (model prog w) A.in1 (Builtin.«list.__contains__.loop» ⟨[.ref p, x, rawInt i], []⟩) (GQ.FinOf prog w A R) (fun e s' => R (.error e) s') s
  | 0, i, c, hk, hi, s, hs => by
    obtain ⟨xs, m, gp, zp, _⟩ := hJ _ _ _ hs
    have iN : i = N := by omega
    have last : R (.ok (.ret (.bool false))) s := done c s (iN ▸ hs)
    have n1 : xs[((i : Nat) : Int).toNat]? = none := by simp; omega
    obtain ⟨hh, gg, dd, kk, oo⟩ := s
    wp_walk using wpAny_loadPart' gp
    rw [n1]
    wp_walk
    exact last
  | k + 1, i, c, hk, hi, s, hs => by
    obtain ⟨xs, m, gp, zp, tn⟩ := hJ _ _ _ hs
    have ip : i < xs.size := by omega
    have tt := tn ip
    have n1 : xs[((i : Nat) : Int).toNat]? = some xs[i] := by simp [ip]
    have up : ((i : Int) + 1) = ((i + 1 : Nat) : Int) := by omega
    have next := fun s2 h2 => inB p x N J F hJ done hit k (i + 1) c (by omega) (by omega) s2 h2
    obtain ⟨hh, gg, dd, kk, oo⟩ := s
    wp_walk using wpAny_loadPart' gp
    rw [n1]
    refine wpAny_bind (wpAny_mono tt (fun r s2 h2 => ?_) fun _ _ x => x)
    cases r with
    | false =>
      have h3 := next s2 (h2.1 rfl)
      obtain ⟨hh2, gg2, dd2, kk2, oo2⟩ := s2
      wp_walk
      rw [up]
      exact ⟨plainId_quiet plain_contains_loop _, codeAny_builtin entry_contains_loop (by rw [Around.under_plainId plain_contains_loop _]; exact h3)⟩
    | true =>
      have h3 := hit s2 (h2.2 rfl)
      obtain ⟨hh2, gg2, dd2, kk2, oo2⟩ := s2
      wp_walk
      exact h3
theorem containsB (p : Addr) (x : Value) (N : Nat) (J : Nat → Nat → Shared → Prop) (F : Shared → Prop) (hJ : ItI prog w A (fun e s' => R (.error e) s') p x N J (fun i c r s' => (r = false → J (i + 1) c s') ∧ (r = true → F s')))
    (done : ∀ c s, J N c s → R (.ok (.ret (.bool false))) s) (hit : ∀ s, F s → R (.ok (.ret (.bool true))) s) {s : Shared} (hs : J 0 0 s) :
      wpAny (model prog w) A.in1 (Builtin.«list.__contains__» ⟨[.ref p, x], []⟩) (GQ.FinOf prog w A R) (fun e s' => R (.error e) s') s := by
  have all := inB p x N J F hJ done hit _ 0 0 rfl (Nat.zero_le _) s hs
  obtain ⟨xs, m, gp, zp, _⟩ := hJ _ _ _ hs
  obtain ⟨hh, gg, dd, kk, oo⟩ := s
  wp_walk using wpAny_loadPart' gp
  exact ⟨plainId_quiet plain_contains_loop _, codeAny_builtin entry_contains_loop (by rw [Around.under_plainId plain_contains_loop _]; exact all)⟩
theorem cntB (p : Addr) (x : Value) (N : Nat) (J : Nat → Nat → Shared → Prop) (hJ : ItI prog w A (fun e s' => R (.error e) s') p x N J (fun i c r s' => J (i + 1) (if r then c + 1 else c) s'))
    (done : ∀ c s, J N c s → R (.ok (.ret (.int (c : Int) s.toks))) { s with toks := s.toks + 1 }) : ∀ (k i c : Nat), N - i = k → i ≤ N → ∀ s, J i c s →
      wpAny (model prog w) A.in1 (Builtin.«list.count.loop» ⟨[.ref p, x, rawInt i, rawInt c], []⟩) (GQ.FinOf prog w A R) (fun e s' => R (.error e) s') s
  | 0, i, c, hk, hi, s, hs => by
    obtain ⟨xs, m, gp, zp, _⟩ := hJ _ _ _ hs
    have iN : i = N := by omega
    have last := done c s (iN ▸ hs)
    have n1 : xs[((i : Nat) : Int).toNat]? = none := by simp; omega
    obtain ⟨hh, gg, dd, kk, oo⟩ := s
    wp_walk using wpAny_loadPart' gp
    rw [n1]
    wp_walk
    exact last
  | k + 1, i, c, hk, hi, s, hs => by
    obtain ⟨xs, m, gp, zp, tn⟩ := hJ _ _ _ hs
    have ip : i < xs.size := by omega
    have tt := tn ip
    have n1 : xs[((i : Nat) : Int).toNat]? = some xs[i] := by simp [ip]
    have up : ((i : Int) + 1) = ((i + 1 : Nat) : Int) := by omega
    have up2 : ((c : Int) + 1) = ((c + 1 : Nat) : Int) := by omega
    have next := fun c' s2 h2 => cntB p x N J hJ done k (i + 1) c' (by omega) (by omega) s2 h2
    obtain ⟨hh, gg, dd, kk, oo⟩ := s
    wp_walk using wpAny_loadPart' gp
    rw [n1]
    refine wpAny_bind (wpAny_mono tt (fun r s2 h2 => ?_) fun _ _ x => x)
    cases r with
    | false =>
      have h3 := next c s2 h2
      obtain ⟨hh2, gg2, dd2, kk2, oo2⟩ := s2
      wp_walk
      simp only [Bool.false_eq_true, if_false]
      rw [up]
      exact ⟨plainId_quiet plain_count_loop _, codeAny_builtin entry_count_loop (by rw [Around.under_plainId plain_count_loop _]; exact h3)⟩
    | true =>
      have h3 := next (c + 1) s2 h2
      obtain ⟨hh2, gg2, dd2, kk2, oo2⟩ := s2
      wp_walk
      simp only [if_true]
      rw [up, up2]
      exact ⟨plainId_quiet plain_count_loop _, codeAny_builtin entry_count_loop (by rw [Around.under_plainId plain_count_loop _]; exact h3)⟩
theorem countB (p : Addr) (x : Value) (N : Nat) (J : Nat → Nat → Shared → Prop) (hJ : ItI prog w A (fun e s' => R (.error e) s') p x N J (fun i c r s' => J (i + 1) (if r then c + 1 else c) s'))
    (done : ∀ c s, J N c s → R (.ok (.ret (.int (c : Int) s.toks))) { s with toks := s.toks + 1 }) {s : Shared} (hs : J 0 0 s) :
      wpAny (model prog w) A.in1 (Builtin.«list.count» ⟨[.ref p, x], []⟩) (GQ.FinOf prog w A R) (fun e s' => R (.error e) s') s := by
  have all := cntB p x N J hJ done _ 0 0 rfl (Nat.zero_le _) s hs
  obtain ⟨xs, m, gp, zp, _⟩ := hJ _ _ _ hs
  obtain ⟨hh, gg, dd, kk, oo⟩ := s
  wp_walk using wpAny_loadPart' gp
  exact ⟨plainId_quiet plain_count_loop _, codeAny_builtin entry_count_loop (by rw [Around.under_plainId plain_count_loop _]; exact all)⟩
theorem idxB (upto : Int) (p : Addr) (x : Value) (N : Nat) (hN : (N : Int) < upto) (J : Nat → Nat → Shared → Prop) (hJ : ItI prog w A (fun e s' => R (.error e) s') p x N J (fun i c r s' => (r = false → J (i + 1) c s') ∧ (r = true → R (.ok (.ret (.int (i : Int) s'.toks))) { s' with toks := s'.toks + 1 })))
    (done : ∀ c s, ¬ J N c s) : ∀ (k i c : Nat), N - i = k → i ≤ N → ∀ s, J i c s →
      wpAny (model prog w) A.in1 (Builtin.«list.index.loop» ⟨[.ref p, x, rawInt i, rawInt upto], []⟩) (GQ.FinOf prog w A R) (fun e s' => R (.error e) s') s
  | 0, i, c, hk, hi, s, hs => by
    have iN : i = N := by omega
    exact absurd (iN ▸ hs) (done c s)
  | k + 1, i, c, hk, hi, s, hs => by
    obtain ⟨xs, m, gp, zp, tn⟩ := hJ _ _ _ hs
    have ip : i < xs.size := by omega
    have tt := tn ip
    have hst : (i : Int) < upto := by omega
    have n1 : (if (i : Int) < upto then xs[((i : Nat) : Int).toNat]? else none) = some xs[i] := by rw [if_pos hst]; simp [ip]
    have up : ((i : Int) + 1) = ((i + 1 : Nat) : Int) := by omega
    have next := fun s2 h2 => idxB upto p x N hN J hJ done k (i + 1) c (by omega) (by omega) s2 h2
    obtain ⟨hh, gg, dd, kk, oo⟩ := s
    wp_walk using wpAny_loadPart' gp
    rw [n1]
    refine wpAny_bind (wpAny_mono tt (fun r s2 h2 => ?_) fun _ _ x => x)
    cases r with
    | false =>
      have h3 := next s2 (h2.1 rfl)
      obtain ⟨hh2, gg2, dd2, kk2, oo2⟩ := s2
      wp_walk
      rw [up]
      exact ⟨plainId_quiet plain_index_loop _, codeAny_builtin entry_index_loop (by rw [Around.under_plainId plain_index_loop _]; exact h3)⟩
    | true =>
      have h3 := h2.2 rfl
      obtain ⟨hh2, gg2, dd2, kk2, oo2⟩ := s2
      wp_walk
      exact h3
theorem indexB (p : Addr) (x : Value) (N : Nat) (hN : (N : Int) < 2 ^ 63 - 1) (J : Nat → Nat → Shared → Prop) (hJ : ItI prog w A (fun e s' => R (.error e) s') p x N J (fun i c r s' => (r = false → J (i + 1) c s') ∧ (r = true → R (.ok (.ret (.int (i : Int) s'.toks))) { s' with toks := s'.toks + 1 })))
    (done : ∀ c s, ¬ J N c s) {s : Shared} (hs : J 0 0 s) :
      wpAny (model prog w) A.in1 (Builtin.«list.index» ⟨[.ref p, x], []⟩) (GQ.FinOf prog w A R) (fun e s' => R (.error e) s') s := by
  have all := idxB (2 ^ 63 - 1) p x N hN J hJ done _ 0 0 rfl (Nat.zero_le _) s hs
  obtain ⟨xs, m, gp, zp, _⟩ := hJ _ _ _ hs
  obtain ⟨hh, gg, dd, kk, oo⟩ := s
  wp_walk using wpAny_loadPart' gp
  have a1 : ((fun i : Int => if i < 0 then max 0 (i + (xs.size : Int)) else i) ((none : Option Int).getD 0)) = ((0 : Nat) : Int) := by simp
  have a2 : ((fun i : Int => if i < 0 then max 0 (i + (xs.size : Int)) else i) ((none : Option Int).getD (2 ^ 63 - 1))) = 2 ^ 63 - 1 := by simp
  rw [a1, a2]
  exact ⟨plainId_quiet plain_index_loop _, codeAny_builtin entry_index_loop (by rw [Around.under_plainId plain_index_loop _]; exact all)⟩
end
end KA
namespace KA
open PySem PySem.Spec PyProof.Rows L2
def anyF (N : Nat) (f : Nat → Bool) : Bool := (List.range N).any f
def cntF (N : Nat) (f : Nat → Bool) : Nat := (List.range N).countP f
theorem anyF_true {N j : Nat} {f : Nat → Bool} (h : j < N) (e : f j = true) : anyF N f = true := by
  unfold anyF
  rw [List.any_eq_true]
  exact ⟨j, List.mem_range.mpr h, e⟩
theorem anyF_false {N : Nat} {f : Nat → Bool} (h : ∀ j, j < N → f j = false) : anyF N f = false := by
  unfold anyF
  rw [List.any_eq_false]
  exact fun j hj => by rw [h j (List.mem_range.mp hj)]; simp
theorem cntF_succ {N : Nat} {f : Nat → Bool} : cntF (N + 1) f = if f N then cntF N f + 1 else cntF N f := by
  unfold cntF
  rw [List.range_succ, List.countP_append]
  cases h : f N <;> simp [h]
section
variable {X : Cx} {n : Nat} {D : BEq2}
/-- each item beside x, and what == tells -/
def ItsB (D : BEq2) (xs : List V) (x : V) (f : Nat → Bool) (H : Hp) : Prop := ∀ (i : Nat) z, xs[i]? = some z → D z x (f i) H
theorem turnI (hD : MonB D) (h : EqB X n D) {A : Around} (sb : Sub X (n + 1) A) {pins : List (Addr × Obj)} {σ : L2.St} {H : Hp} {xs : List V} {x : V} {u : Value} {its : List Value} {f : Nat → Bool} (p : ItsB D xs x f H) (r : Vals xs its) (rx : RelV x u)
    (i : Nat) (h1 : i < its.toArray.size) (s' : Shared) (l : LoopI X pins σ H s') :
    wpAny (model X.prog X.w) A.in1 (eqBool its.toArray[i] u) (fun r s2 => r = f i ∧ LoopI X pins σ H s2) X.xe s' := by
  obtain ⟨H1, I1, e1⟩ := l
  have l1 : i < its.length := by simpa using h1
  have k1 : i < xs.length := by rw [r.length]; exact l1
  obtain ⟨v, hu, ru⟩ := r.get (List.getElem?_eq_getElem k1)
  have g1 : its.toArray[i] = v := by
    rw [List.getElem?_eq_getElem l1] at hu
    simpa using Option.some.inj hu
  rw [g1]
  refine wpAny_mono (h A.in1 pins s' σ H1 _ _ v u _ sb.in1 I1 ru rx (hD _ _ _ _ _ e1 (p i _ (List.getElem?_eq_getElem k1)))) (fun r s2 q => ?_) fun _ _ x => x
  obtain ⟨hr, H2, I2, e2⟩ := q
  exact ⟨hr, H2, I2, e1.trans e2⟩
theorem lookI {pins : List (Addr × Obj)} {σ : L2.St} {H : Hp} {p : Addr} {xs : List V} (hp : H p = some (.lst xs)) (s' : Shared) (z : LoopI X pins σ H s') : ∃ (as : List Value) (m : Nat), Vals xs as ∧ s'.heap.get? p = some { cls := .type "list", data := .seq as.toArray m } ∧ as.toArray.size = xs.length := by
  obtain ⟨H1, I1, e1⟩ := id z
  obtain ⟨_, its, k, r, e⟩ := I1.hok p _ (e1 _ _ hp)
  exact ⟨its, k, r, e, by rw [List.size_toArray, ← r.length]⟩
theorem runIn {A : Around} {Q : Value → Shared → Prop} (hD : MonB D) (h : EqB X n D) (sb : Sub X (n + 1) A) {pins : List (Addr × Obj)} {s : Shared} {σ : L2.St} {H : Hp} {p : Addr} {xs : List V} {x : V} {u : Value} {f : Nat → Bool} (I : L2.Inv X pins σ H s) (rx : RelV x u) (hp : H p = some (.lst xs)) (pr : ItsB D xs x f H)
    (q : ∀ s', LoopI X pins σ H s' → Q (.bool (anyF xs.length f)) s') : wpAny (model X.prog X.w) A (call (.builtin "list.__contains__") [.ref p, u]) Q X.xe s := by
  obtain ⟨as, m, r, e, z1⟩ := lookI hp s ⟨H, I, Ext.rfl'⟩
  refine GQ.call_here PySem.F.slot_list_contains ⟨_, e, rfl⟩ PySem.F.entry_list_contains (PySem.F.args_list_contains_2 _ _) ?_
  refine containsB (R := wants Q X.xe) p u xs.length (fun i _ s' => LoopI X pins σ H s' ∧ ∀ j, j < i → f j = false) (fun s' => LoopI X pins σ H s' ∧ ∃ j, j < xs.length ∧ f j = true) (fun i c s' z => ?_) (fun c s' z => ?_) (fun s' z => ?_) ⟨⟨H, I, Ext.rfl'⟩, fun j hj => absurd hj (Nat.not_lt_zero _)⟩
  · obtain ⟨z, hf⟩ := z
    obtain ⟨as, k, r, e, z1⟩ := lookI hp s' z
    refine ⟨_, k, e, z1, fun g1 => wpAny_mono (turnI hD h sb pr r rx i g1 s' z) (fun r s2 q2 => ?_) fun _ _ x => x⟩
    obtain ⟨rfl, q2⟩ := q2
    refine ⟨fun t => ⟨q2, fun j hj => ?_⟩, fun t => ⟨q2, i, by omega, t⟩⟩
    by_cases hji : j = i
    · rw [hji]; exact t
    · exact hf j (by omega)
  · have := q s' z.1
    rw [anyF_false z.2] at this
    exact this
  · obtain ⟨z, j, hj, e⟩ := z
    have := q s' z
    rw [anyF_true hj e] at this
    exact this
def rInB (neg : Bool) (D : BEq2) : R2 := fun x y H Q => ∃ (p : Addr) (xs : List V) (f : Nat → Bool), y = .ref p ∧ H p = some (.lst xs) ∧ ItsB D xs x f H ∧ ∀ H', Ext H H' → Q (.bl (neg ^^ anyF xs.length f)) H'
theorem op_inB (hD : MonB D) (h : EqB X n D) (hr : Room (n + 1) X.A) : OpR X (compareOp .In) (rInB false D) := by
  intro pins s σ H x y v u Q I rx ry hq
  obtain ⟨p, xs, f, rfl, hp, pr, q⟩ := hq
  cases ry
  obtain ⟨as, m, r, e, z1⟩ := lookI hp s ⟨H, I, Ext.rfl'⟩
  show wpAny (model X.prog X.w) X.A (do return Value.bool (← contains (.ref p) v)) (EP X pins σ Q) X.xe s
  refine wpAny_bind (wpAny_contains_slot ⟨_, e, rfl⟩ PySem.F.slot_list_contains (runIn hD h ⟨hr, rfl⟩ I rx hp pr fun s' z => ?_))
  obtain ⟨H', I', ex⟩ := z
  exact wpAny_truthy_bool (wpAny_pure ⟨.bl _, H', I', rfl, by have := q H' ex; rwa [Bool.false_xor] at this⟩)
theorem op_notInB (hD : MonB D) (h : EqB X n D) (hr : Room (n + 1) X.A) : OpR X (compareOp .NotIn) (rInB true D) := by
  intro pins s σ H x y v u Q I rx ry hq
  obtain ⟨p, xs, f, rfl, hp, pr, q⟩ := hq
  cases ry
  obtain ⟨as, m, r, e, z1⟩ := lookI hp s ⟨H, I, Ext.rfl'⟩
  show wpAny (model X.prog X.w) X.A (do return Value.bool (!(← contains (.ref p) v))) (EP X pins σ Q) X.xe s
  refine wpAny_bind (wpAny_contains_slot ⟨_, e, rfl⟩ PySem.F.slot_list_contains (runIn hD h ⟨hr, rfl⟩ I rx hp pr fun s' z => ?_))
  obtain ⟨H', I', ex⟩ := z
  exact wpAny_truthy_bool (wpAny_pure ⟨.bl _, H', I', rfl, by have := q H' ex; rwa [Bool.true_xor] at this⟩)
/-- l.count(x) by own == -/
def rCountB (D : BEq2) : V → List V → Hp → VK → Prop := fun x xs H Q => ∃ (p : Addr) (ys : List V) (y : V) (f : Nat → Bool), x = .ref p ∧ xs = [y] ∧ H p = some (.lst ys) ∧ ItsB D ys y f H ∧ ∀ H', Ext H H' → Q (.int (cntF ys.length f : Nat)) H'
theorem mt_countB (hD : MonB D) (h : EqB X n D) (hr : Room (n + 1) X.A) : MtR X "list.count" (rCountB D) := by
  intro pins s σ H x xs v us Q I rx rxs hq
  obtain ⟨p, ys, y, f, rfl, rfl, hp, pr, q⟩ := hq
  cases rx
  cases rxs with
  | cons ry rt =>
    rename_i u ut
    cases rt
    obtain ⟨as, m, r, e, z1⟩ := lookI hp s ⟨H, I, Ext.rfl'⟩
    refine GQ.call_here PySem.F.slot_list_count ⟨_, e, rfl⟩ PySem.F.entry_list_count (PySem.F.args_list_count_2 _ _) ?_
    refine countB (R := wants (EP X pins σ Q) X.xe) p u ys.length (fun i c s' => LoopI X pins σ H s' ∧ c = cntF i f) (fun i c s' z => ?_) (fun c s' z => ?_) ⟨⟨H, I, Ext.rfl'⟩, rfl⟩
    · obtain ⟨z, rfl⟩ := z
      obtain ⟨as, k, r, e, z1⟩ := lookI hp s' z
      refine ⟨_, k, e, z1, fun g1 => wpAny_mono (turnI hD h ⟨hr, rfl⟩ pr r ry i g1 s' z) (fun r s2 q2 => ?_) fun _ _ x => x⟩
      obtain ⟨rfl, q2⟩ := q2
      exact ⟨q2, cntF_succ.symm⟩
    · obtain ⟨⟨H', I', ex⟩, rfl⟩ := z
      exact ⟨.int _, H', I'.tok _, ⟨_, rfl⟩, q H' ex⟩
/-- l.index(x) by own ==, where it is found -/
def rIndexB (D : BEq2) : V → List V → Hp → VK → Prop := fun x xs H Q => ∃ (p : Addr) (ys : List V) (y : V) (f : Nat → Bool) (j : Nat), x = .ref p ∧ xs = [y] ∧ H p = some (.lst ys) ∧ ItsB D ys y f H ∧ j < ys.length ∧ f j = true ∧ (∀ m, m < j → f m = false) ∧ ∀ H', Ext H H' → Q (.int (j : Nat)) H'
theorem mt_indexB (hD : MonB D) (h : EqB X n D) (hr : Room (n + 1) X.A) : MtR X "list.index" (rIndexB D) := by
  intro pins s σ H x xs v us Q I rx rxs hq
  obtain ⟨p, ys, y, f, j, rfl, rfl, hp, pr, hj, ej, nj, q⟩ := hq
  cases rx
  cases rxs with
  | cons ry rt =>
    rename_i u ut
    cases rt
    obtain ⟨hz, its, k, r, e⟩ := I.hok p _ hp
    have hsl := sizeLine_eq
    refine GQ.call_here PySem.F.slot_list_index ⟨_, e, rfl⟩ PySem.F.entry_list_index (PySem.F.args_list_index_2 _ _) ?_
    refine indexB (R := wants (EP X pins σ Q) X.xe) p u ys.length (by omega) (fun i c s' => LoopI X pins σ H s' ∧ i ≤ j) (fun i c s' z => ?_) (fun c s' z => by omega) ⟨⟨H, I, Ext.rfl'⟩, Nat.zero_le _⟩
    obtain ⟨z, hi⟩ := z
    obtain ⟨as, k, r, e, z1⟩ := lookI hp s' z
    refine ⟨_, k, e, z1, fun g1 => wpAny_mono (turnI hD h ⟨hr, rfl⟩ pr r ry i g1 s' z) (fun r s2 q2 => ?_) fun _ _ x => x⟩
    obtain ⟨rfl, q2⟩ := q2
    refine ⟨fun t => ⟨q2, ?_⟩, fun t => ?_⟩
    · have : i ≠ j := fun e => by rw [e, ej] at t; cases t
      omega
    · have ij : i = j := by
        by_cases hlt : i < j
        · rw [nj i hlt] at t; cases t
        · omega
      subst ij
      obtain ⟨H', I', ex⟩ := q2
      exact ⟨.int _, H', I'.tok _, ⟨_, rfl⟩, q H' ex⟩
end
end KA
namespace KA
open PySem PySem.Spec PySem.W PyProof.Rows
open AutoSeq1 (wpAny_loadPart')
section
variable {prog : Program} {w : World} {A : Around} {E : Value → Shared → Prop} {s : Shared} {K : Frag} {x C f dx : Addr} {od : Option Obj}
/-- a plain thing whose own == knows nothing of x, an instance whose class has its own == : that one is asked -/
theorem cmp_flip {T id : String} {u : Value} {Q : Value → Shared → Prop} (hu : A.units < cLine) (X : K.In s.heap) (I : InstAt s.heap x (instObj C dx) C od) (hT : s.TypeIs u T) (slot : Slot T (cmpInfo .Eq).2.1 id) (hone : oneThing? .Eq u (.ref x) = none)
    (hn : subIn K (.ref C) (.type T) = some false) (two0 : ∀ {Q : Value → Shared → Prop}, Q .notImplemented s → wpAny (model prog w) A (call (.builtin id) [u, .ref x]) Q E s)
    (hs : findIn K (.ref C) "__eq__" = some (some (.ref f))) (hf : isFn K (.ref f) = true)
    (h : wpAny (model prog w) A (call (.ref f) [.ref x, u]) (PySem.W.CmpBack Q) E s) : wpAny (model prog w) A (richCompare .Eq u (.ref x)) Q E s := by
  have one : wpAny (model prog w) A (tryCompare (.ref x) "__eq__" u) (fun r s' => ∃ v, r = some v ∧ Q v s') E s := by
    unfold tryCompare
    refine wpAny_bind (ifBound_K X I hs hf (wpAny_mono h (fun v s' hv => ?_) fun _ _ e => e))
    cases v <;> first | exact hv.elim | exact wpAny_pure ⟨_, rfl, hv⟩
  have two : wpAny (model prog w) A (tryCompare u "__eq__" (.ref x)) (fun r s' => r = none ∧ s' = s) E s := by
    unfold tryCompare
    refine wpAny_bind (wpAny_callSpecialIfBound?_slot (name := (cmpInfo .Eq).2.1) hT slot (two0 ?_))
    exact wpAny_pure ⟨rfl, rfl⟩
  unfold richCompare
  refine wpAny_holding (wpAny_bind (wpAny_cRoomFor hu ?_))
  rw [hone]
  refine wpAny_bind (wpAny_typeOf hT (wpAny_bind (I.type.here ?_)))
  refine PySem.W.KFB.if_so rfl (wpAny_bind ((looks_subIn X hn).here ?_))
  refine PySem.W.KFB.if_not rfl ?_
  refine wpAny_bind (wpAny_mono two (fun r s' z => ?_) fun _ _ e => e)
  obtain ⟨rfl, rfl⟩ := z
  refine PySem.W.KFB.if_so rfl (wpAny_bind (wpAny_mono one (fun r s' z => ?_) fun _ _ e => e))
  obtain ⟨v, rfl, hq⟩ := z
  exact wpAny_pure hq
theorem int_eq_own {i : Int} {t : Tok} {Q : Value → Shared → Prop} (hx : s.heap.get? x = some (instObj C dx)) (h : Q .notImplemented s) : wpAny (model prog w) A (call (.builtin "int.__eq__") [.int i t, .ref x]) Q E s := by
  refine wpAny_call_entry PySem.F.slot_int_eq (typeIs_int s i t) PySem.F.entry_int_eq ?_ (PySem.F.args_int_eq_2 _ _)
  unfold Builtin.«int.__eq__»
  obtain ⟨hh, gg, dd, kk, oo⟩ := s
  wp_walk using wpAny_load' hx
  exact ⟨_, rfl, h⟩
theorem bool_eq_own {b : Bool} {Q : Value → Shared → Prop} (hx : s.heap.get? x = some (instObj C dx)) (h : Q .notImplemented s) : wpAny (model prog w) A (call (.builtin "int.__eq__") [.bool b, .ref x]) Q E s := by
  refine wpAny_call_entry PySem.F.slot_bool_eq (PySem.typeIs_bool s b) PySem.F.entry_int_eq ?_ (PySem.F.args_int_eq_2 _ _)
  unfold Builtin.«int.__eq__»
  obtain ⟨hh, gg, dd, kk, oo⟩ := s
  wp_walk using wpAny_load' hx
  exact ⟨_, rfl, h⟩
theorem str_eq_own {z : Str} {t : Tok} {Q : Value → Shared → Prop} (hx : s.heap.get? x = some (instObj C dx)) (h : Q .notImplemented s) : wpAny (model prog w) A (call (.builtin "str.__eq__") [.str z t, .ref x]) Q E s := by
  refine wpAny_call_entry PySem.F.slot_str_eq (typeIs_str s z t) PySem.F.entry_str_eq ?_ (PySem.F.args_str_eq_2 _ _)
  unfold Builtin.«str.__eq__»
  obtain ⟨hh, gg, dd, kk, oo⟩ := s
  wp_walk using wpAny_load' hx
  exact ⟨_, rfl, h⟩
theorem list_eq_own {p : Addr} {Q : Value → Shared → Prop} (X : K.In s.heap) (I : InstAt s.heap x (instObj C dx) C od) (hn : subIn K (.ref C) (.type "list") = some false) (hT : s.TypeIs (.ref p) "list") (h : Q .notImplemented s) : wpAny (model prog w) A (call (.builtin "list.__eq__") [.ref p, .ref x]) Q E s := by
  refine wpAny_call_entry PySem.F.slot_list_eq hT PySem.F.entry_list_eq ?_ (PySem.F.args_list_eq_2 _ _)
  have L : Looks (model prog w) s.heap (isInstance (.ref x) (.type "list")) false := I.type.andThen (looks_subIn X hn)
  unfold Builtin.«list.__eq__»
  obtain ⟨hh, gg, dd, kk, oo⟩ := s
  wp_walk using L.here
  exact ⟨_, rfl, h⟩
theorem tup_eq_own {p : Addr} {Q : Value → Shared → Prop} (X : K.In s.heap) (I : InstAt s.heap x (instObj C dx) C od) (hn : subIn K (.ref C) (.type "tuple") = some false) (hT : s.TypeIs (.ref p) "tuple") (h : Q .notImplemented s) : wpAny (model prog w) A (call (.builtin "tuple.__eq__") [.ref p, .ref x]) Q E s := by
  refine wpAny_call_entry PySem.F.slot_tuple_eq hT PySem.F.entry_tuple_eq ?_ (PySem.F.args_tuple_eq_2 _ _)
  have L : Looks (model prog w) s.heap (isInstance (.ref x) (.type "tuple")) false := I.type.andThen (looks_subIn X hn)
  unfold Builtin.«tuple.__eq__»
  obtain ⟨hh, gg, dd, kk, oo⟩ := s
  wp_walk using L.here
  exact ⟨_, rfl, h⟩
end
end KA
namespace KA
open PySem PySem.Spec PySem.W PyProof.Rows
section
variable {prog : Program} {w : World} {A : Around} {E : Value → Shared → Prop} {s : Shared} {K : Frag} {x C f dx : Addr} {ox : Obj} {od : Option Obj} {b tb : Value}
theorem ifBound_objNe {M : Model} {args : List Value} {Q : Option Value → Shared → Prop} (X : K.In s.heap) (I : InstAt s.heap x ox C od) (hs : findIn K (.ref C) "__ne__" = some (some (.builtin "object.__ne__")))
    (h : wpAny M A (call (.builtin "object.__ne__") (.ref x :: args)) (fun v => Q (some v)) E s) : wpAny M A (callSpecialIfBound? (.ref x) "__ne__" args) Q E s := by
  simp only [callSpecialIfBound?, bindSpecialIfBound?]
  refine wpAny_holding (wpAny_bind (wpAny_bind (wpAny_bind (I.type.here ((looks_findIn X hs).here ?_)))))
  refine wpAny_bind (wpAny_askSetting (wpAny_ite ?_))
  have fin : wpAny M A (call (.builtin "object.__ne__") ([.ref x] ++ args) >>= fun v => pure (some v)) Q E s := wpAny_bind (wpAny_mono h (fun v s' h' => wpAny_pure h') fun _ _ h' => h')
  split
  · exact wpAny_bind (wpAny_of_eq (F.cmp_object.ne.bind _) (wpAny_pure (by exact fin)))
  · exact wpAny_tryCatch (wpAny_bind (wpAny_of_eq (F.cmp_object.ne.bind _) (wpAny_pure (by exact fin))))
theorem entry_objNe {Q : Fin → Shared → Prop} (hu : A.units < cLine) (X : K.In s.heap) (I : InstAt s.heap x ox C od) (hs : findIn K (.ref C) "__eq__" = some (some (.ref f))) (hf : isFn K (.ref f) = true)
    (h : wpAny (model prog w) A (call (.ref f) [.ref x, b]) (fun r s' => ∃ v, r = .bool v ∧ Q (.done (.ret (.bool (!v)))) s') E s) : wpAny (model prog w) A (Builtin.«object.__ne__» ⟨[.ref x, b], []⟩) Q E s := by
  unfold Builtin.«object.__ne__»
  repeat (first
    | with_reducible refine wpAny_cRoomFor hu ?_
    | (refine wpAny_bind (m := callSpecialIfBound? (.ref x) (Str.ofString "__eq__") [b])
        (ifBound_K X I hs hf (wpAny_mono h (fun r s' hr => by
          obtain ⟨v, rfl, hq⟩ := hr
          repeat (first | exact hq | exact wpAny_pure hq | exact wpAny_truthy_bool hq | (refine wpAny_bind (m := truthy (.bool _)) (wpAny_truthy_bool ?_)) | wp_step)) fun _ _ e => e)))
    | wp_step)
theorem ne_own {Q : Value → Shared → Prop} (hu : A.units < cLine) (hu1 : A.in1.units < cLine) (X : K.In s.heap) (I : InstAt s.heap x ox C od) (hb : Looks (model prog w) s.heap (typeOf b) tb) (hn : notFirst K C tb = true) (hm : mroIn K C (.type "object") = some true)
    (hne : findIn K (.ref C) "__ne__" = some (some (.builtin "object.__ne__"))) (hs : findIn K (.ref C) "__eq__" = some (some (.ref f))) (hf : isFn K (.ref f) = true)
    (h : wpAny (model prog w) A.in1 (call (.ref f) [.ref x, b]) (fun r s' => ∃ v, r = .bool v ∧ Q (.bool (!v)) s') E s) : wpAny (model prog w) A (richCompare .NotEq (.ref x) b) Q E s := by
  have one : wpAny (model prog w) A (tryCompare (.ref x) "__ne__" b) (fun r s' => ∃ v, r = some v ∧ Q v s') E s := by
    unfold tryCompare
    refine wpAny_bind (ifBound_objNe X I hne (wpAny_call (codeAny_call_builtin F.cmp_object.ne.plain F.cmpEntry_ne (check_slot F.cmpKind_ne F.cmpSplit_ne (I.type.andThen (looks_mroIn X hm)) (F.cmpArgs_ne _ _) (entry_objNe hu1 X I hs hf (wpAny_mono h (fun r s' hr => ?_) fun _ _ e => e))))))
    obtain ⟨v, rfl, hq⟩ := hr
    first
      | exact ⟨v, rfl, wpAny_pure ⟨_, rfl, hq⟩⟩
      | exact ⟨v, rfl, ⟨_, rfl, hq⟩⟩
  unfold richCompare
  simp only [oneThing_ref]
  refine wpAny_holding (wpAny_bind (wpAny_cRoomFor hu ?_))
  refine wpAny_bind (I.type.here (wpAny_bind (hb.here ?_)))
  split
  · rename_i q
    have e : subIn K tb (.ref C) = some false := by
      rcases Bool.or_eq_true_iff.mp hn with e | e
      · rw [beq_iff_eq.mp e] at q; simp at q
      · exact beq_iff_eq.mp e
    refine wpAny_bind ((looks_subIn X e).here ?_)
    simp only [Bool.false_eq_true, if_false]
    refine wpAny_bind (wpAny_mono one (fun r s' z => ?_) fun _ _ e => e)
    obtain ⟨v, rfl, hq⟩ := z
    exact wpAny_pure hq
  · refine wpAny_bind (wpAny_pure ?_)
    simp only [Bool.false_eq_true, if_false]
    refine wpAny_bind (wpAny_mono one (fun r s' z => ?_) fun _ _ e => e)
    obtain ⟨v, rfl, hq⟩ := z
    exact wpAny_pure hq
end
end KA
namespace KA
open PySem PySem.Spec PyProof.Rows L2
section
variable {X : Cx} {n : Nat} {CX : CXT} {C f : Addr} {fd : FuncData} {ps : List Str} {R : Addr → V → Bool → Hp → Prop} {E : XK}
/-- an instance of the class at C beside anything -/
def BOwn1 (K : PySem.W.Frag) (C : Addr) (R : Addr → V → Bool → Hp → Prop) : BEq2 := fun x y b H =>
  ∃ (a dx : Addr) (fs : List (Str × V)) (t : Value), x = .ref a ∧ H a = some (.ins C dx fs) ∧ TyX K H y t ∧ PySem.W.notFirst K C t = true ∧ R a y b H
theorem rcB_ownNe (F : FnOk X.prog X.w X.K X.mg X.base CX n f fd ps (spEqO R)) (hs : PySem.W.findIn X.K (.ref C) "__eq__" = some (some (.ref f))) (hf : PySem.W.isFn X.K (.ref f) = true) (hb : Binds X.K fd ps []) (hx : Passes CX X E)
    (hm : PySem.W.mroIn X.K C (.type "object") = some true) (hne : PySem.W.findIn X.K (.ref C) "__ne__" = some (some (.builtin "object.__ne__"))) : RcB X (n + 1) true (BOwn1 X.K C R) := by
  intro A pins s σ H x y u v b sb I rx ry d
  obtain ⟨a, dx, fs, t, rfl, ha, ty, nf, hR⟩ := d
  cases rx
  obtain ⟨mA, J, _⟩ := ins_get I.hok ha
  obtain ⟨od, J, _⟩ := J.look
  obtain ⟨Pz, Z, p, _⟩ := kit_of I ry ty
  refine ne_own (tb := t) sb.room.units0 sb.in1.room.units0 I.kIn J (Z.ty _ _ I.kIn p) nf hm hne hs hf (wpAny_mono (run_eqO F hb hx sb.in1 I ry hR) (fun r s' q => ?_) fun _ _ x => x)
  cases r with
  | bool z =>
    obtain ⟨e, q2⟩ := (show (Value.bool z = .bool b ∧ ∃ H', L2.Inv X pins σ H' s' ∧ Ext H H') from q)
    cases e
    exact ⟨b, rfl, by rw [Bool.true_xor], q2⟩
  | notImplemented => exact q.elim
  | _ => exact nomatch q.1
/-- a plain thing beside an instance: the instance is asked -/
def BFlip (K : PySem.W.Frag) (C : Addr) (R : Addr → V → Bool → Hp → Prop) : BEq2 := fun x y b H => ∃ (a dx : Addr) (fs : List (Str × V)), y = .ref a ∧ H a = some (.ins C dx fs) ∧ R a x b H ∧
  ((∃ i, x = .int i) ∨ (∃ z, x = .str z) ∨ (∃ c, x = .bl c) ∨ x = .non ∨ (∃ p xs, x = .ref p ∧ H p = some (.lst xs)) ∨ ∃ p xs, x = .ref p ∧ H p = some (.tup xs))
theorem rcB_flip (F : FnOk X.prog X.w X.K X.mg X.base CX n f fd ps (spEqO R)) (hs : PySem.W.findIn X.K (.ref C) "__eq__" = some (some (.ref f))) (hf : PySem.W.isFn X.K (.ref f) = true) (hb : Binds X.K fd ps []) (hx : Passes CX X E)
    (hn : ∀ t, t ∈ ["int", "str", "bool", "NoneType", "list", "tuple"] → PySem.W.subIn X.K (.ref C) (.type t) = some false) : RcB X n false (BFlip X.K C R) := by
  intro A pins s σ H x y u v b sb I rx ry d
  have fin : (false ^^ b) = b := Bool.false_xor b
  rw [fin]
  obtain ⟨a, dx, fs, rfl, ha, hR, hk⟩ := d
  cases ry
  obtain ⟨mA, J, _⟩ := ins_get I.hok ha
  obtain ⟨od, J, _⟩ := J.look
  have go : wpAny (model X.prog X.w) A (call (.ref f) [.ref a, u]) (PySem.W.CmpBack fun r s' => r = .bool b ∧ ∃ H', L2.Inv X pins σ H' s' ∧ Ext H H') X.xe s := run_eqO F hb hx sb I rx hR
  rcases hk with ⟨i, rfl⟩ | ⟨z, rfl⟩ | ⟨c, rfl⟩ | rfl | ⟨p, xs, rfl, hp⟩ | ⟨p, xs, rfl, hp⟩
  · obtain ⟨t, rfl⟩ := rx
    exact cmp_flip sb.room.units0 I.kIn J (PySem.typeIs_int s i t) PySem.F.slot_int_eq rfl (hn _ (by simp)) (fun h => int_eq_own J.at_ h) hs hf go
  · obtain ⟨t, rfl⟩ := rx
    exact cmp_flip sb.room.units0 I.kIn J (PySem.typeIs_str s z t) PySem.F.slot_str_eq rfl (hn _ (by simp)) (fun h => str_eq_own J.at_ h) hs hf go
  · cases rx
    exact cmp_flip sb.room.units0 I.kIn J (PySem.typeIs_bool s c) PySem.F.slot_bool_eq rfl (hn _ (by simp)) (fun h => bool_eq_own J.at_ h) hs hf go
  · cases rx
    exact cmp_none sb.room.units0 I.kIn J (hn _ (by simp)) hs hf go
  · cases rx
    obtain ⟨_, its, k, r, e⟩ := I.hok p _ hp
    exact cmp_flip sb.room.units0 I.kIn J (T := "list") ⟨_, e, rfl⟩ PySem.F.slot_list_eq rfl (hn _ (by simp)) (fun h => list_eq_own I.kIn J (hn _ (by simp)) ⟨_, e, rfl⟩ h) hs hf go
  · cases rx
    obtain ⟨its, r, ⟨o, e, ho⟩, hz⟩ := I.tuple (SqT.of hp)
    exact cmp_flip sb.room.units0 I.kIn J (T := "tuple") ⟨_, e, ho.1⟩ PySem.F.slot_tuple_eq rfl (hn _ (by simp)) (fun h => tup_eq_own I.kIn J (hn _ (by simp)) ⟨_, e, ho.1⟩ h) hs hf go
theorem RcB.or {ne : Bool} {D D' : BEq2} (h : RcB X n ne D) (h' : RcB X n ne D') : RcB X n ne (fun x y b H => D x y b H ∨ D' x y b H) := fun A pins s σ H x y u v b sb I rx ry d => d.elim (fun d => h A pins s σ H x y u v b sb I rx ry d) (fun d => h' A pins s σ H x y u v b sb I rx ry d)
end
end KA
namespace KA
open PySem PySem.Spec PyProof.Rows L2
section
variable {X : Cx} {n : Nat}
/-- x in (a, b, ..), items data of any depth -/
def rInTD (K : PySem.W.Frag) : R2 := fun x y H Q => ∃ d ds, Dp K H x d ∧ Dp K H y (.tuple ds) ∧ SeqAt.shaped d = true ∧ SeqAt.shaped (.tuple ds) = true ∧ Q (.bl (ds.any fun z => PyData.eqv z d)) H
theorem op_inTD (hu : X.A.units + 65 < cLine) : OpR X (compareOp .In) (rInTD X.K) := by
  intro pins s σ H x y v u Q I rx ry h
  obtain ⟨d, ds, hd, he, sd, se, q⟩ := h
  obtain ⟨as, r1⟩ := Dp.reads I d x v hd rx
  obtain ⟨bs, r2⟩ := Dp.reads I (.tuple ds) y u he ry
  exact SeqAt.in_tuple_reads r2 r1 (SeqAt.canLay_of_shaped se) (SeqAt.canLay_of_shaped sd) (room_in_shaped sd hu) ⟨.bl _, H, I, rfl, q⟩
theorem eqBool_by2 {prog : Program} {w : World} {A : Around} {E : Value → Shared → Prop} {s : Shared} {u v : Value} {Q : Bool → Shared → Prop} (hu : ∃ a, v = .ref a) (hne : (u == v) = false)
    (h : wpAny (model prog w) A (richCompare .Eq u v) (fun r s' => ∃ b, r = .bool b ∧ Q b s') E s) : wpAny (model prog w) A (eqBool u v) Q E s := by
  unfold eqBool
  refine wpAny_holding ?_
  refine wpAny_ite_split (fun hab => by rw [hne] at hab; cases hab) (fun _ => ?_)
  obtain ⟨a, rfl⟩ := hu
  cases u <;> (refine wpAny_bind (wpAny_mono h (fun r s' hv => ?_) fun _ _ x => x); obtain ⟨b, rfl, q⟩ := hv; exact wpAny_truthy_bool q)
variable {CX : CXT} {C f : Addr} {fd : FuncData} {ps : List Str} {R : Addr → V → Bool → Hp → Prop} {E : XK}
/-- a plain thing beside an instance, as == in a list asks it -/
theorem eqB_flip (F : FnOk X.prog X.w X.K X.mg X.base CX n f fd ps (spEqO R)) (hs : PySem.W.findIn X.K (.ref C) "__eq__" = some (some (.ref f))) (hf : PySem.W.isFn X.K (.ref f) = true) (hb : Binds X.K fd ps []) (hx : Passes CX X E)
    (hn : ∀ t, t ∈ ["int", "str", "bool", "NoneType", "list", "tuple"] → PySem.W.subIn X.K (.ref C) (.type t) = some false) : EqB X n (BFlip X.K C R) := by
  intro A pins s σ H x y u v b sb I rx ry d
  have hne : (u == v) = false := by
    obtain ⟨a, dx, fs, rfl, ha, hR, hk⟩ := d
    cases ry
    rw [beq_eq_false_iff_ne]
    rcases hk with ⟨i, rfl⟩ | ⟨z, rfl⟩ | ⟨c, rfl⟩ | rfl | ⟨p, xs, rfl, hp⟩ | ⟨p, xs, rfl, hp⟩
    · obtain ⟨t, rfl⟩ := rx
      exact fun z => by cases z
    · obtain ⟨t, rfl⟩ := rx
      exact fun z => by cases z
    · cases rx
      exact fun z => by cases z
    · cases rx
      exact fun z => by cases z
    · cases rx
      exact fun z => by
        cases z
        rw [ha] at hp
        cases hp
    · cases rx
      exact fun z => by
        cases z
        rw [ha] at hp
        cases hp
  have hv : ∃ a, v = .ref a := by
    obtain ⟨a, dx, fs, rfl, _⟩ := d
    cases ry
    exact ⟨a, rfl⟩
  refine eqBool_by2 hv hne (wpAny_mono (rcB_flip F hs hf hb hx hn A pins s σ H x y u v b sb I rx ry d) (fun r s' q => ?_) fun _ _ x => x)
  obtain ⟨hr, q⟩ := q
  exact ⟨b, by rw [hr, Bool.false_xor], rfl, q⟩
theorem monB_flip {K : PySem.W.Frag} (hR : ∀ a y b H H', Ext H H' → R a y b H → R a y b H') : MonB (BFlip K C R) := fun x y b H H' e d => by
  obtain ⟨a, dx, fs, hy, ha, r, hk⟩ := d
  refine ⟨a, dx, fs, hy, e _ _ ha, hR _ _ _ _ _ e r, ?_⟩
  rcases hk with h | h | h | h | ⟨p, xs, h, hp⟩ | ⟨p, xs, h, hp⟩
  · exact .inl h
  · exact .inr (.inl h)
  · exact .inr (.inr (.inl h))
  · exact .inr (.inr (.inr (.inl h)))
  · exact .inr (.inr (.inr (.inr (.inl ⟨p, xs, h, e _ _ hp⟩))))
  · exact .inr (.inr (.inr (.inr (.inr ⟨p, xs, h, e _ _ hp⟩))))
end
end KA
namespace KA
open PySem PySem.Spec PyProof.Rows L2
section
variable {X : Cx}
/-- a text once, or not at all -/
theorem op_mul01 : OpR X (binaryOp .Mult) (fun x y H Q => ∃ (z : Str) (b : Bool), x = .str z ∧ y = .int (if b then 1 else 0) ∧ z.length ≤ sizeLine ∧ Q (.str (if b then z else Str.empty)) H) := by
  intro pins s σ H x y v u Q I rx ry h
  obtain ⟨z, b, rfl, rfl, hz, q⟩ := h
  obtain ⟨t, rfl⟩ := rx
  obtain ⟨t', rfl⟩ := ry
  cases b with
  | true =>
    refine PySem.P.mul_str (by decide) (fun _ h => by simp at h) (fun _ h => by simp at h) ?_
    rw [if_neg (by decide), if_pos (by simp)]
    exact ⟨.str z, H, I, ⟨_, rfl⟩, q⟩
  | false =>
    refine PySem.P.mul_str (by decide) (fun h _ => absurd (by decide) h) (fun h _ => absurd (by decide) h) ?_
    rw [if_pos (by decide)]
    exact ⟨by decide +kernel, ⟨.str Str.empty, H, I.tok _, ⟨_, rfl⟩, q⟩⟩
end
end KA
namespace KA
open PySem PySem.Spec PyProof.Rows L2
section
variable {X : Cx} {K' : PySem.W.Frag} {o e : Expr} {es : List Expr} {to : TE} {t : TA} {name : Str} {apos cpos : Pos} {T id : String} {r : V → List V → Hp → VK → Prop}
/-! methods and len within a block, the written part by its own name -/
theorem pe_bm0K (hK : X.K = K') (pa : PlainAttrs T) (slot : Slot T name id) (hty : typeOf (.builtin id) = pure (.type "method_descriptor")) (hm : MtR X id r) (ho : PE X o to)
    (hbase : attributeBase o name X.env (eval o X.env) = eval o X.env := by rfl) (hline : (apos.endLine == cpos.line) = true := by rfl) : PE X (.Call (.Attribute o name apos) [] [] cpos) (tBM0 K' T r to) := by
  subst hK
  exact pe_bm0 pa slot hty hm ho hbase hline
theorem pe_bmK (hK : X.K = K') (pa : PlainAttrs T) (slot : Slot T name id) (hty : typeOf (.builtin id) = pure (.type "method_descriptor")) (hm : MtR X id r) (ho : PE X o to) (ha : PA X (e :: es) t)
    (hbase : attributeBase o name X.env (eval o X.env) = eval o X.env := by rfl)
    (hfew : ((backTo cpos (starEach (e :: es) X.env)).all (fun x => !x.1) && (backToKw cpos (keywordEach [] X.env)).all (fun x => x.1.isSome)
      && decide ((e :: es).length + ([] : List Keyword).length + (if ([] : List Keyword).isEmpty then 0 else 1) < 30)) = true := by rfl)
    (hline : (apos.endLine == cpos.line) = true := by rfl) (hs : starEach (e :: es) X.env = (false, eval e X.env) :: starEach es X.env := by rfl) (hplain : (backTo cpos (starEach es X.env)).any (·.1) = false := by rfl) :
    PE X (.Call (.Attribute o name apos) (e :: es) [] cpos) (tBM K' T r to t) := by
  subst hK
  exact pe_bm pa slot hty hm ho ha hbase hfew hline hs hplain
def rLenK (K : PySem.W.Frag) : List V → Hp → VK → Prop := fun xs H Q => ∃ p ys, xs = [.ref p] ∧ (SqL K H p ys ∨ SqT K H p ys) ∧ Q (.int (ys.length : Nat)) H
theorem call_len_seqK (hK : X.K = K') : CallR X (.builtin "len") (rLenK K') := by
  subst hK
  exact call_len_seq
theorem call_list_ofK (hK : X.K = K') : CallR X (.type "list") (fun xs H Q => ∃ p ys, xs = [.ref p] ∧ (SqL K' H p ys ∨ SqT K' H p ys) ∧ ∀ l, H l = none → Q (.ref l) (upd H l (.lst ys))) := by
  subst hK
  exact call_list_of
end
end KA
namespace KA
open PySem PySem.Spec PyProof.Rows L2
/-- keywords of a def that has no defaults -/
theorem fun_kb {K : PySem.W.Frag} {x qual : Str} {st : Stmt} {f : Addr} {fd : FuncData} {ps : List Str} (F : Fun K x qual st f fd) (n : Nat) (ks : List Str) (m : List (Nat × Nat))
    (to : ∀ (kV doc pm : Value) (an : Option Addr) (cdv ct : Value) (us ws : List Value), us.length = n → ws.length = ks.length → bindArgs (PySem.W.fnOf x qual (defArgs st) (defBody st) (defScope st) .none kV doc pm an cdv ct) ⟨us, ks.zip ws⟩ = pure (ps.zip (kw m us [] ws))) :
    KBn K fd ps n ks (fun us ws => kw m us [] ws) (fun vs zs => kw m vs [] zs) := by
  obtain ⟨oc, od, kV, doc, pm, an, cdv, ct, osl, rfl, lk, hcd⟩ := F.ex
  exact ⟨fun s us ws _ l1 l2 => .of_eq (to kV doc pm an cdv ct us ws l1 l2), fun r1 r2 => kw_rel m r1 .nil r2⟩
end KA
namespace KA
open PySem PySem.Spec PyProof.Rows L2
/-- C(e, .., k = v) within a try: what it raises is told with the names as they stand -/
def tMakeNS (C : Addr) (n m : Nat) (sp : Sp) (gV : List V → List V → List V) (E : L2.St → XK) (t tk : TA) : TE := fun σ H Q => tMakeN C n m sp gV (E σ) t tk σ H Q
section
variable {X : Cx} {CX : CXT} {k n : Nat} {f C : Addr} {fd : FuncData} {ps ks : List Str} {sp : Sp} {E : L2.St → XK} {x : Str} {p pos : Pos} {e : Expr} {es : List Expr} {kws : List Keyword} {t tk : TA} {g : List Value → List Value → List Value} {gV : List V → List V → List V}
theorem pe_makeNS (M : Mk X.K C f) (F : FnOk X.prog X.w X.K X.mg X.base CX k f fd ps sp) (hr : Room (k + 1) X.A) (hg : Gl X x) (hm : X.mg x = some (.ref C)) (hb : KBn X.K fd ps (n + 1) ks g gV) (hx : ∀ σ, PassesAt CX X σ (E σ))
    (ha : PA X (e :: es) t) (hkw : PK X kws tk) (hall : (backToKw pos (keywordEach kws X.env)).all (·.1.isSome) = true := by rfl) (hks : (backToKw pos (keywordEach kws X.env)).filterMap (·.1) = ks := by rfl)
    (hdb : (x == ("__debug__" : Str)) = false := by decide) (he : starEach (e :: es) X.env = (false, eval e X.env) :: starEach es X.env := by rfl)
    (hpl : ((backTo pos (starEach (e :: es) X.env)).any (·.1) || (backToKw pos (keywordEach kws X.env)).any (·.1.isNone)) = false := by rfl) :
    PE X (.Call (.Name x p) (e :: es) kws pos) (tMakeNS C n ks.length sp gV E t tk) := by
  refine ⟨fun pins s σ H Q I h => ?_⟩
  refine wpAny_Call_Name_kw (ld_glob I hg hm ?_ hdb)
  refine PySem.W.callWith_KW (h₀ := X.base) I.ok.mod.kin M.kp hall (thn (ha.run pos pins s σ H _ I h) fun us s1 ⟨vs, H1, I1, r, q⟩ => ?_) hpl he
  refine thn (hkw.run pos pins s1 σ H1 _ I1 q) fun ws s2 ⟨zs, H2, I2, rz, l1, l2, q2⟩ => ⟨I2.kIn, ?_⟩
  rw [hks]
  have hq := q2 (s2.heap.objs.size + 1) s2.heap.objs.size (I2.hok.fresh (Nat.le_succ _)) (I2.hok.fresh (Nat.le_refl _)) (Nat.ne_of_lt (Nat.lt_succ_self _))
  have J := Inv.made (C := C) I2
  have r1 : Vals (V.ref (s2.heap.objs.size + 1) :: vs) (Value.ref (s2.heap.objs.size + 1) :: us) := .cons rfl r
  have e1 : (Value.ref (s2.heap.objs.size + 1) :: us).length = n + 1 := r1.length.symm.trans (congrArg Nat.succ l1)
  refine wpAny_call (make_map (f := f) I2.kIn M.makes M.init (beq_iff_eq.mp M.fn) (codeAny_mono (F.run _ X.stack _ _ ⟨Value.ref (s2.heap.objs.size + 1) :: us, ks.zip ws⟩ (g (Value.ref (s2.heap.objs.size + 1) :: us) ws) _ _ (E σ) (hr.make C us (ks.zip ws))
    (J.env0.make C us (ks.zip ws)) (hb.to _ (Value.ref (s2.heap.objs.size + 1) :: us) ws J.kIn e1 (rz.length.symm.trans l2)) (hb.rel r1 rz) hq) fun r s' hq' => ?_))
  match r, hq' with
  | .error er, hq' => exact hx σ pins _ _ er s' J hq'
  | .ok (.ret u), hq' =>
    obtain ⟨v, H', I3, rv, ev, q3⟩ := J.after hq'
    subst ev
    exact ⟨rv, ⟨V.ref (s2.heap.objs.size + 1), H', I3, rfl, q3⟩⟩
end
end KA
namespace KA
open PySem PySem.Spec PyProof.Rows L2
/-- C(e, ..) within a try: what it raises is told with the names as they stand -/
def tMakeT (C : Addr) (sp : Sp) (dvs : List V) (E : L2.St → XK) (t : TA) : TE := fun σ H Q => tMake C sp dvs (E σ) t σ H Q
section
variable {X : Cx} {CX : CXT} {k : Nat} {f C : Addr} {fd : FuncData} {ps : List Str} {ds : List Value} {dvs : List V} {sp : Sp} {E : L2.St → XK} {x : Str} {p pos : Pos} {e : Expr} {es : List Expr} {t : TA}
theorem pe_makeT (M : Mk X.K C f) (F : FnOk X.prog X.w X.K X.mg X.base CX k f fd ps sp) (hr : Room (k + 1) X.A) (hg : Gl X x) (hm : X.mg x = some (.ref C)) (hb : Binds X.K fd ps ds) (hd : Vals dvs ds) (hx : ∀ σ, PassesAt CX X σ (E σ))
    (ha : PA X (e :: es) t) (hdb : (x == ("__debug__" : Str)) = false := by decide) (he : starEach (e :: es) X.env = (false, eval e X.env) :: starEach es X.env := by rfl) (hpl : (backTo pos (starEach es X.env)).any (·.1) = false := by rfl) :
    PE X (.Call (.Name x p) (e :: es) [] pos) (tMakeT C sp dvs E t) := by
  refine ⟨fun pins s σ H Q I h => ?_⟩
  refine wpAny_Call_Name_kw (ld_glob I hg hm ?_ hdb)
  refine PySem.W.callWith_K (h₀ := X.base) I.ok.mod.kin M.kp (thn (ha.run pos pins s σ H _ I h) fun us s1 ⟨vs, H1, I1, r, q⟩ => ⟨I1.kIn, ?_⟩) he hpl
  have hq := q (s1.heap.objs.size + 1) s1.heap.objs.size (I1.hok.fresh (Nat.le_succ _)) (I1.hok.fresh (Nat.le_refl _)) (Nat.ne_of_lt (Nat.lt_succ_self _))
  have I2 := Inv.made (C := C) I1
  have r2 : Vals (V.ref (s1.heap.objs.size + 1) :: (vs ++ dvs)) (Value.ref (s1.heap.objs.size + 1) :: (us ++ ds)) := .cons rfl (r.append hd)
  have hl : (Value.ref (s1.heap.objs.size + 1) :: us ++ ds).length = ps.length := by
    have e := r2.length
    rw [F.len _ _ _ _ hq] at e
    exact e.symm
  refine wpAny_call (make_map (f := f) I1.kIn M.makes M.init (beq_iff_eq.mp M.fn) (codeAny_mono (F.run _ X.stack _ _ ⟨Value.ref (s1.heap.objs.size + 1) :: us, []⟩ (Value.ref (s1.heap.objs.size + 1) :: (us ++ ds)) _ _ (E σ) (hr.make C us [])
    (I2.env0.make C us []) (hb _ (Value.ref (s1.heap.objs.size + 1) :: us) I2.kIn hl) r2 hq) fun r s' hq' => ?_))
  match r, hq' with
  | .error er, hq' => exact hx σ pins _ _ er s' I2 hq'
  | .ok (.ret u), hq' =>
    obtain ⟨v, H', I3, rv, ev, q3⟩ := I2.after hq'
    subst ev
    exact ⟨rv, ⟨V.ref (s1.heap.objs.size + 1), H', I3, rfl, q3⟩⟩
end
end KA
/-! set(xs) of a list of whole numbers -/
namespace KA
open PySem PySem.Spec PyProof.Rows L2
/-- a set without members, as it is made -/
abbrev set0 (w : World) : Obj := { cls := .type "set", dict := none, data := .set #[] 0 (.fresh 0 0 (!w.params.followText "set-order")) }
section
variable {P : Program} {w : World} {A : Around} {E : Value → Shared → Prop} {s : Shared}
/-- the new set has got the numbers ns, all that stood stands -/
def Filled (w : World) (s : Shared) (ns : List Int) (s2 : Shared) : Prop := ∃ h' tk c, s2 = { s with heap := h', toks := tk } ∧ SetR w h' s.heap.objs.size (fun j => decide (j ∈ ns)) c ∧ c ≤ ns.length ∧ ∀ b o, s.heap.get? b = some o → h'.get? b = some o
theorem set_listI {l : Addr} {items : Array Value} {ns : List Int} {Q : Value → Shared → Prop} (hh : A.handled = none) (hl : s.heap.IsList l items) (hit : IntsAre items.toList ns) (hb : ns.length + 1 < scanBound)
    (h : ∀ s2, Filled w s ns s2 → Q (.ref s.heap.objs.size) s2) : wpAny (model P w) A (call (.type "set") [.ref l]) Q E s := by
  have size : items.size = ns.length := by rw [← Array.length_toList]; exact IntsAre.length hit
  obtain ⟨ob, at_l, cls_l, ep, dat_l⟩ := id hl
  have below : l < s.heap.objs.size := Heap.lt_size at_l
  have at_S : (s.heap.push (set0 w)).get? s.heap.objs.size = some (set0 w) := Heap.get?_push_size _ rfl
  have ty_S : Shared.TypeIs { s with heap := s.heap.push (set0 w) } (.ref s.heap.objs.size) "set" := ⟨_, at_S, rfl⟩
  have l1 : (s.heap.push (set0 w)).IsList l items := hl.push _
  have zI : (s.heap.push (set0 w)).objs.size = s.heap.objs.size + 1 := Heap.size_push ..
  have each : ∀ (i : Nat) (v : Value), items[i]? = some v → ∃ k t, ns[i]? = some k ∧ v = .int k t := fun i v hv => by
    have hi : i < ns.length := by rw [← size]; exact (Array.getElem?_eq_some_iff.mp hv).1
    obtain ⟨t, e⟩ := PyProof.Rows.IntsAre.int_at hit i v (by rw [Array.getElem?_toList]; exact hv)
    exact ⟨ns[i], t, List.getElem?_eq_getElem hi, by rw [e, List.getD_eq_getElem?_getD, List.getElem?_eq_getElem hi] <;> rfl⟩
  have init : ∀ {B : Around}, B.handled = none → codeAny (model P w) B (.call (.builtin "set.__init__") ⟨[.ref s.heap.objs.size, .ref l], []⟩) (wants (fun r s2 => r = .none ∧ Filled w s ns s2) E) { s with heap := s.heap.push (set0 w) } := fun {B} hB => by
    refine codeAny_call_builtin F.called_set.init.plain F.entry_set_init (check_set_init_1 ty_S ?_)
    have hB3 : B.in1.in1.handled = none := by simp [hB]
    have nS := F.sub_list_set
    have nF := F.sub_list_frozenset
    have nD : (Value.type "list" == Value.type "dict") = false := by decide
    obtain ⟨ocls, odict, odata, oslots⟩ := ob
    simp only at cls_l dat_l
    subst cls_l dat_l
    have at1 : (s.heap.push (set0 w)).get? l = some { cls := .type "list", dict := odict, data := .seq items ep, slots := oslots } := Heap.get?_push_of_some _ at_l
    unfold Builtin.«set.__init__» noKeywords Builtin.Frozenset.updateFrom
    generalize eI : pyIter = it
    wp_walk
    subst eI
    refine wpAny_pyIter_list l1 (wpAny_bind (wpAny_runValue ?_))
    have far : l ≠ (s.heap.push (set0 w)).objs.size := by rw [zI]; exact Nat.ne_of_lt (Nat.lt_succ_of_lt below)
    have apart : s.heap.objs.size ∉ [(s.heap.push (set0 w)).objs.size, l] := fun z => by
      rw [zI] at z
      rcases List.mem_cons.mp z with z | z
      · exact absurd z (Nat.ne_of_lt (Nat.lt_succ_self _))
      · exact absurd (List.mem_singleton.mp z) (Nat.ne_of_gt below)
    refine set_update_ints ((Walks.list hB3 _ l far items).toS) s.heap.objs.size apart ns size hb each items.size 0 _ (by omega) (Nat.zero_le _) ?stand ?first fun s2 c m hc hS => ?_
    case stand => exact ⟨⟨_, Heap.get?_push_size _ rfl, rfl, rfl⟩, l1.push _⟩
    case first => exact ⟨0, Nat.le_refl 0, setR_new_at (Heap.get?_push_of_some _ at_S)⟩
    · obtain ⟨h2, g2, d2, t2, o2⟩ := s2
      obtain rfl : g2 = s.gens := m.gens
      obtain rfl : d2 = s.drawn := m.drawn
      obtain rfl : o2 = s.os := m.os
      refine wpAny_pure (wpAny_pure ⟨rfl, h2, t2, c, rfl, hS, by omega, fun b o e => ?_⟩)
      have hb0 : @LT.lt Nat _ b s.heap.objs.size := Heap.lt_size e
      refine m.heap b o (fun z => ?_) (Heap.get?_push_of_some _ (Heap.get?_push_of_some _ e))
      rw [zI] at z
      rcases List.mem_cons.mp z with z | z
      · exact absurd z (Nat.ne_of_lt hb0)
      · exact absurd (List.mem_singleton.mp z) (Nat.ne_of_lt (Nat.lt_succ_of_lt hb0))
  obtain ⟨c, tl, mro_⟩ := F.called_set.mro
  have made_ := F.called_set.made
  have sub_ := F.called_set.sub
  have q1 := F.called_set.notType
  have q2 := F.called_set.canCreate
  have q3 := F.typeCall_set_1 (.ref l)
  refine wpAny_call (codeAny_of_tree (show wpAny _ _ (callAny (.type "set") _) _ _ _ from wpAny_pure ⟨Code.quiet_builtin _ (by decide +kernel), codeAny_builtin F.entry_type_call ?_⟩))
  rw [Around.under_plain (weight_type_call_type "set" [.ref l] []) rfl]
  repeat any_goals first | assumption | wp_step
  refine codeAny_mono (code_set_led1 (E := E) (.ref l) (Q₁ := fun z s1 => z = .ref s.heap.objs.size ∧ s1 = { s with heap := s.heap.push (set0 w) }) ⟨rfl, rfl⟩) (fun r s1 hr => ?_)
  cases r with
  | error e => exact hr
  | ok fl =>
    cases fl with
    | ret z =>
      obtain ⟨rfl, rfl⟩ := hr
      have i1 := F.called_set.init.lookup
      have i2 := F.called_set.init.bind (.ref s.heap.objs.size)
      repeat any_goals first | assumption | wp_step
      refine codeAny_mono (init (by simp [hh])) fun r2 s2 hr2 => ?_
      cases r2 with
      | error e => exact hr2
      | ok fl2 =>
        cases fl2 with
        | ret z2 =>
          obtain ⟨rfl, hF⟩ := hr2
          have := h s2 hF
          obtain ⟨h2, t2, c2, rfl, hS, hc, kp⟩ := hF
          repeat any_goals first | assumption | wp_step
        | next => exact hr2.elim
        | brk => exact hr2.elim
        | cont => exact hr2.elim
    | next => exact hr.elim
    | brk => exact hr.elim
    | cont => exact hr.elim
end
section
variable {X : Cx}
/-- set(xs) of a list of whole numbers -/
def rSetL0 (K : PySem.W.Frag) (w : World) : List V → Hp → VK → Prop := fun vs H Q => ∃ (l : Addr) (ns : List Int), vs = [.ref l] ∧ SqL K H l (ns.map V.int) ∧ ns.length ≤ 1000 ∧
  ∀ (p : Addr) (c : Nat), H p = none → c ≤ ns.length → Q (.ref p) (upd H p (SetO w p (fun j => decide (j ∈ ns)) c))
theorem call_setL (hc : X.calm = true) : CallR X (.type "set") (rSetL0 X.K X.w) := by
  intro pins s σ H vs us Q I r h
  obtain ⟨l, ns, rfl, hl, hn, q⟩ := h
  obtain rfl := Vals.ref1 r
  obtain ⟨its, rv, pl, _⟩ := I.list hl
  refine set_listI (I.ok.hd hc) pl.isList (by simpa using ints_of_vals rv) (Nat.lt_of_le_of_lt (Nat.add_le_add_right hn 1) (by decide)) fun s2 hF => ?_
  obtain ⟨h2, t2, c, rfl, hS, hc2, kp⟩ := hF
  exact ⟨.ref _, _, I.laid (t' := t2) (a := s.heap.objs.size) (o := SetO X.w s.heap.objs.size (fun j => decide (j ∈ ns)) c) kp (Nat.le_refl _) (setO_new hS), rfl, q _ c (I.hok.fresh (Nat.le_refl _)) hc2⟩
end
end KA
/-! repr of a list whose items show themselves by an own __repr__ -/
namespace KA
open PySem PySem.Spec PySem.W PyProof.Rows
section
variable {prog : Program} {w : World} {A : Around} {E : Value → Shared → Prop} {s : Shared} {K : Frag} {x C f : Addr} {ox : Obj} {od : Option Obj}
theorem boundBy_K {M : Model} {name : Str} {last : Value → List Value → Sem Value} {Q : Option Value → Shared → Prop} (inK : K.In s.heap) (I : InstAt s.heap x ox C od) (hs : findIn K (.ref C) name = some (some (.ref f))) (hf : isFn K (.ref f) = true)
    (h : wpAny M A (last (.ref f) [.ref x]) (fun v => Q (some v)) E s) : wpAny M A (callSpecialIfBoundBy? last (.ref x) name) Q E s := by
  simp only [callSpecialIfBoundBy?, bindSpecialIfBound?]
  refine wpAny_holding (wpAny_bind (wpAny_bind (wpAny_bind (I.type.here ((looks_findIn inK hs).here ?_)))))
  refine wpAny_bind (wpAny_askSetting (wpAny_ite ?_))
  have done : wpAny M A (last (.ref f) [.ref x] >>= fun v => pure (some v)) Q E s := wpAny_bind (wpAny_mono h (fun _ _ z => wpAny_pure z) fun _ _ z => z)
  split
  · exact wpAny_bind ((bind_fn inK _ (beq_iff_eq.mp hf)).here (wpAny_pure (by exact done)))
  · exact wpAny_tryCatch (wpAny_bind ((bind_fn inK _ (beq_iff_eq.mp hf)).here (wpAny_pure (by exact done))))
theorem under_K {b : Nat} {Q : Str → Shared → Prop} (hb : b ≤ sizeLine) (hu : A.units < cLine) (inK : K.In s.heap) (I : InstAt s.heap x ox C od) (hs : findIn K (.ref C) "__repr__" = some (some (.ref f))) (hf : isFn K (.ref f) = true)
    (h : wpAny (model prog w) A (call (.ref f) [.ref x]) (fun r t => ∃ m tk, r = .str m tk ∧ Q m t) E s) : wpAny (model prog w) A (pyReprUnder b (.ref x)) Q E s := by
  refine wpAny_pyReprUnder_ref hb ?_
  unfold pyReprObjUnder pyReprObjBy
  refine wpAny_bind (wpAny_cRoomFor hu ?_)
  refine wpAny_bind (wpAny_bind (I.type.here ((looks_findIn inK hs).here ?_)))
  show wpAny _ _ (if (some (Value.ref f)).isNone = true then _ else _) _ _ _
  rw [if_neg (by simp)]
  refine wpAny_bind (m := callSpecialIfBoundBy? _ (.ref x) (Str.ofString "__repr__")) (boundBy_K inK I hs hf ?_)
  refine wpAny_mono h (fun r t k => ?_) fun _ _ z => z
  obtain ⟨m, tk, rfl, q⟩ := k
  refine wpAny_bind (wpAny_isInstance (typeIs_str _ _ _) isSubtype_str_str ?_)
  exact wpAny_pure ⟨_, _, rfl, q⟩
end
end KA
namespace KA
open PySem PySem.Spec PyProof.Rows L2
section
variable {X : Cx} {n : Nat}
/-- x is shown as t, by what stands in H, whatever is made meanwhile -/
def Shows (X : Cx) (n : Nat) (x : V) (t : Str) (H : Hp) : Prop := ∀ (A : Around) (pins : List (Addr × Obj)) (σ : L2.St) (H1 : Hp) (s : Shared) (u : Value) (b : Nat) (Q : Str → Shared → Prop), Sub X n A → (∀ c o, H c = some o → H1 c = some o) → L2.Inv X pins σ H1 s → RelV x u → b + t.length ≤ sizeLine →
  (∀ s2 H2, L2.Inv X pins σ H2 s2 → (∀ c o, H1 c = some o → H2 c = some o) → Q t s2) → wpAny (model X.prog X.w) A (pyReprUnder b u) Q X.xe s
theorem shows_non {H : Hp} : Shows X n .non "None" H := fun A pins σ H1 s u b Q _ _ I ru hz fin => by
  cases (show u = Value.none from ru)
  exact ReprIs.none b hz A X.xe s Q fun tk => fin _ H1 (I.tok tk) fun _ _ z => z
theorem shows_own {CX : CXT} {C f p dx : Addr} {fd : FuncData} {ps : List Str} {sp : Sp} {E : XK} {fs : List (Str × V)} {t : Str} {H : Hp} (F : FnOk X.prog X.w X.K X.mg X.base CX n f fd ps sp) (hs : PySem.W.findIn X.K (.ref C) "__repr__" = some (some (.ref f))) (hf : PySem.W.isFn X.K (.ref f) = true) (hb : Binds X.K fd ps []) (hx : Passes CX X E)
    (hp : H p = some (.ins C dx fs)) (hsp : ∀ (H1 : Hp) (Q : VK), (∀ c o, H c = some o → H1 c = some o) → (∀ H2, (∀ c o, H1 c = some o → H2 c = some o) → Q (.str t) H2) → sp [.ref p] H1 Q E) : Shows X n (.ref p) t H := fun A pins σ H1 s u b Q sb s01 I ru hz fin => by
  cases (show u = Value.ref p from ru)
  obtain ⟨mA, J, _⟩ := ins_get I.hok (s01 _ _ hp)
  obtain ⟨od, J, _⟩ := J.look
  refine under_K (Nat.le_trans (Nat.le_add_right _ _) hz) sb.room.units0 I.kIn J hs hf (wpAny_mono (run_self (Q := fun v H2 => v = .str t ∧ ∀ c o, H1 c = some o → H2 c = some o) F hb hx sb.room sb.fr I (hsp H1 _ s01 fun H2 s12 => ⟨⟨t, rfl⟩, rfl, s12⟩)) (fun r s2 k => ?_) fun _ _ z => z)
  obtain ⟨m, tk, rfl, v, H2, I2, rv, ev, s12⟩ := k
  subst ev
  obtain ⟨tk2, e⟩ := (show ∃ y, Value.str m tk = Value.str t y from rv)
  cases e
  exact ⟨t, tk, rfl, fin s2 H2 I2 s12⟩
theorem sub_loop {A : Around} {args : Args} (sb : Sub X (n + 1) A) : Sub X n (A.under (.builtin "list.__repr__.loop" args)) := by
  have r := sb.room
  refine ⟨⟨?_, ?_, ?_⟩, ?_⟩
  · exact r.hd
  · have := r.dp
    have e : (A.under (.builtin "list.__repr__.loop" args)).depth = A.depth + 1 := by
      first | rfl | simp [Around.under, Code.weight, Code.isCreation, Code.isGuard, Code.isCaller, Code.frames, Code.isFrame, guardIds]
    rw [e]
    omega
  · have := r.un
    rw [units_under_list_loop]
    omega
  · exact sb.fr
theorem strs_of : ∀ {l : List Str} {us : List Value}, Vals (l.map V.str) us → ∃ d, us = strValues d ∧ d.map (·.1) = l
  | [], _, .nil => ⟨[], rfl, rfl⟩
  | x :: l, _, .cons h r => by
    obtain ⟨tk, rfl⟩ := (show ∃ t, _ = Value.str x t from h)
    obtain ⟨d, rfl, e⟩ := strs_of r
    exact ⟨(x, tk) :: d, rfl, by rw [List.map_cons, e]⟩
theorem repr_loopI {pins : List (Addr × Obj)} {σ : L2.St} {A : Around} {R : Result → Shared → Prop} {a P : Addr} {xs : List V} {ts : List Str} {H : Hp} {base : Nat} (sb : Sub X (n + 1) A) (fP : H P = none) (hlen : ts.length = xs.length) (hT : ∀ (i : Nat) x t, xs[i]? = some x → ts[i]? = some t → Shows X n x t H)
    (hsz : base + (listText ts).length ≤ sizeLine) (ha0 : H a = some (.lst xs)) (fin : ∀ s2 H2 u, L2.Inv X pins σ H2 s2 → (∀ c o, H c = some o → H2 c = some o) → R (.ok (.ret (.str (listText ts) u))) s2) (err : ∀ e s2, X.xe e s2 → R (.error e) s2) :
    ∀ (k i : Nat) (s : Shared) (H1 : Hp), ts.length - i = k → i ≤ ts.length → (∀ c o, H c = some o → H1 c = some o) → L2.Inv X pins σ H1 s → H1 P = some (.lst ((ts.take i).map V.str)) →
      codeAny (model X.prog X.w) A (.builtin "list.__repr__.loop" ⟨[.ref a, rawInt i, .ref P, rawInt ((base + piled (ts.take i) : Nat) : Int)], []⟩) R s := by
  have hp3 := piled_le_listText ts
  have big : ∀ t ∈ ts, t.length ≤ sizeLine := fun t ht => by
    have h2 := (textFrom_len ts 0 "[").2.1 t ht
    have e : (listText ts).length = (textFrom 0 "[" ts).length + 1 := by
      show (textFrom 0 "[" ts ++ "]").length = _
      rw [strLen_append]
      rfl
    omega
  intro k
  induction k with
  | zero =>
    intro i s H1 hk hi s01 I eP
    have hin : i = ts.length := by omega
    obtain ⟨its, m, r, e, _⟩ := I.lst (s01 _ _ ha0)
    obtain ⟨ps, m2, r2, e2, z2⟩ := I.lst eP
    refine codeAny_builtin F.entry_list_repr_loop ?_
    show wpAny _ _ (Builtin.«list.__repr__.loop» ⟨[.ref a, .int i 0, .ref P, .int ((base + piled (ts.take i) : Nat) : Int) 0], []⟩) _ _ s
    rw [repr_loop_tree]
    refine wpAny_bind (wpAny_listItems e rfl ?_)
    have no : its.toArray[(i : Int).toNat]? = none := by
      have := r.length
      simp
      omega
    simp only [no]
    unfold reprEnd
    refine wpAny_bind (wpAny_listItems e2 rfl ?_)
    obtain ⟨d, rfl, ed⟩ := strs_of r2
    rw [show (strValues d).toArray.toList = strValues d by simp, repr_fold]
    refine wpAny_bind (wpAny_pure ?_)
    rw [ed, hin, List.take_length]
    refine wpAny_bind (wpAny_mkStr (wpAny_pure ?_) (by show (listText ts).length ≤ sizeLine; omega))
    exact fin _ H1 _ (I.tok _) s01
  | succ k ih =>
    intro i s H1 hk hi s01 I eP
    have hlt : i < ts.length := by omega
    obtain ⟨t, ht⟩ : ∃ t, ts[i]? = some t := ⟨_, List.getElem?_eq_getElem hlt⟩
    obtain ⟨x, hx⟩ : ∃ x, xs[i]? = some x := ⟨_, List.getElem?_eq_getElem (by omega)⟩
    obtain ⟨its, m, r, e, _⟩ := I.lst (s01 _ _ ha0)
    obtain ⟨u, hu, ru⟩ := r.get hx
    have hp1 := piled_take_succ ht
    have hp2 := piled_take_le ts (i + 1)
    refine codeAny_builtin F.entry_list_repr_loop ?_
    show wpAny _ _ (Builtin.«list.__repr__.loop» ⟨[.ref a, .int i 0, .ref P, .int ((base + piled (ts.take i) : Nat) : Int) 0], []⟩) _ _ s
    rw [repr_loop_tree]
    refine wpAny_bind (wpAny_listItems e rfl ?_)
    have yes : its.toArray[(i : Int).toNat]? = some u := by simpa using hu
    simp only [yes]
    rw [Int.toNat_natCast]
    refine wpAny_bind (wpAny_holding (wpAny_mono (hT i x t hx ht _ pins σ H1 s u (base + piled (ts.take i) + 1) (fun r s2 => r = t ∧ ∃ H2, L2.Inv X pins σ H2 s2 ∧ ∀ c o, H1 c = some o → H2 c = some o) (sub_loop sb) s01 I ru (by omega) fun s2 H2 I2 s12 => ⟨rfl, H2, I2, s12⟩) (fun r s2 k2 => ?_) fun e s2 z => err e s2 z))
    obtain ⟨rfl, H2, I2, s12⟩ := k2
    refine wpAny_bind (wpAny_mkStr ?_ (big r (List.mem_of_getElem? ht)))
    refine wpAny_bind ?_
    show wpAny _ _ (updateSeq P _) _ _ _
    obtain ⟨ps, m2, r2, e2, z2⟩ := (I2.tok (s2.toks + 1)).lst (s12 _ _ eP)
    have small : ((ts.take i).map V.str).length ≤ i := by rw [List.length_map, List.length_take]; omega
    have few : i < sizeLine := by
      have h1 := (textFrom_len ts 0 "[").1
      rw [if_neg (Nat.lt_irrefl 0)] at h1
      have e : (listText ts).length = (textFrom 0 "[" ts).length + 1 := by
        show (textFrom 0 "[" ts ++ "]").length = _
        rw [strLen_append]
        rfl
      omega
    have hps : ps.length ≤ i := by rw [← r2.length]; exact small
    refine wpAny_updateSeq e2 rfl (wpAny_pure ⟨F.quiet_list_repr_loop _, ?_⟩) (by simp; omega) (by simp; omega)
    have n1 : ((i : Int) + 1) = ((i + 1 : Nat) : Int) := by omega
    have n2 : base + piled (ts.take i) + (r.length + 2) = base + piled (ts.take (i + 1)) := by omega
    rw [n1, n2]
    have I3 := (I2.tok (s2.toks + 1)).lstUpd (p := P) (ys := (ts.take (i + 1)).map V.str) (its' := ps ++ [.str r s2.toks]) (n' := m2 + 1) (f := Obj.mapSeq (·.push (.str r s2.toks))) (s12 _ _ eP) e2 (by simp [Obj.mapSeq]) (by
      rw [List.take_add_one, ht, List.map_append]
      exact r2.append (.cons ⟨_, rfl⟩ .nil)) (by rw [List.length_map, List.length_take]; omega) (s2.toks + 1)
    refine ih (i + 1) _ _ (by omega) hlt (fun c o z => ?_) I3 upd_same
    rw [upd_ne (fun y => by rw [y, fP] at z; cases z)]
    exact s12 _ _ (s01 _ _ z)
/-- list.__repr__, where nothing is being shown -/
theorem call_listI {pins : List (Addr × Obj)} {σ : L2.St} {A : Around} {Q : Value → Shared → Prop} {s : Shared} {H : Hp} {a : Addr} {xs : List V} {ts : List Str} (sb : Sub X (n + 3) A) (gd : A.guards = some []) (I : L2.Inv X pins σ H s) (ha : H a = some (.lst xs)) (hlen : ts.length = xs.length)
    (hT : ∀ (i : Nat) x t, xs[i]? = some x → ts[i]? = some t → Shows X n x t H) (hsz : (listText ts).length ≤ sizeLine) (fin : ∀ s2 H2 u, L2.Inv X pins σ H2 s2 → (∀ c o, H c = some o → H2 c = some o) → Q (.str (listText ts) u) s2) :
    wpAny (model X.prog X.w) A (call (.builtin "list.__repr__") [.ref a]) Q X.xe s := by
  obtain ⟨its, m, r, e, z⟩ := I.lst ha
  have ty : s.TypeIs (.ref a) "list" := ⟨_, e, rfl⟩
  refine wpAny_call (codeAny_call_builtin F.slot_list_repr.plain F.entry_list_repr (F.slot_list_repr.check _ _ _ _ _ _ _ _ ty (F.args_list_repr_1 _) ?_))
  cases its with
  | nil =>
    have e0 : xs = [] := List.length_eq_zero_iff.mp r.length
    have e1 : ts = [] := List.length_eq_zero_iff.mp (by rw [hlen, e0]; rfl)
    subst e1
    exact wpAny_list_repr_empty (b := 0) e rfl (fin _ H _ (I.tok _) fun _ _ z => z)
  | cons v vs =>
    refine wpAny_list_repr_head (A := A.in1) (b := 0) gd (fun _ _ _ z => nomatch z) e rfl ?_
    refine wpAny_bind (m := newList []) (wpAny_newObj_type ?_)
    refine wpAny_pure ⟨F.quiet_list_repr_loop _, ?_⟩
    have fP : H s.heap.objs.size = none := I.hok.fresh (Nat.le_refl _)
    have I3 : L2.Inv X pins σ (upd H s.heap.objs.size (.lst [])) { s with heap := s.heap.push { cls := .type "list", data := .seq ([] : List Value).toArray } } :=
      I.laid (t' := s.toks) (fun b o z => Heap.get?_push_of_some _ z) (Nat.le_refl _) ⟨Nat.zero_le _, [], 0, .nil, Heap.get?_push_size _ rfl⟩
    have up : ∀ c o, H c = some o → upd H s.heap.objs.size (.lst []) c = some o := fun c o z => by
      rw [upd_ne (fun y => by rw [y, fP] at z; cases z)]
      exact z
    exact repr_loopI (base := 0) (sb.mono (by omega)) fP hlen hT (by omega) ha (fun s2 H2 u I2 s12 => fin s2 H2 u I2 s12) (fun _ _ z => z) ts.length 0 _ _ rfl (Nat.zero_le _) up I3 upd_same
/-- repr of a list, where nothing is being shown -/
theorem repr_listI {pins : List (Addr × Obj)} {σ : L2.St} {A : Around} {Q : Value → Shared → Prop} {s : Shared} {H : Hp} {a : Addr} {xs : List V} {ts : List Str} (sb : Sub X (n + 3) A) (gd : A.guards = some []) (I : L2.Inv X pins σ H s) (ha : H a = some (.lst xs)) (hlen : ts.length = xs.length)
    (hT : ∀ (i : Nat) x t, xs[i]? = some x → ts[i]? = some t → Shows X n x t H) (hsz : (listText ts).length ≤ sizeLine) (fin : ∀ s2 H2 u, L2.Inv X pins σ H2 s2 → (∀ c o, H c = some o → H2 c = some o) → Q (.str (listText ts) u) s2) :
    wpAny (model X.prog X.w) A (pyReprObj (.ref a)) Q X.xe s := by
  obtain ⟨its, m, r, e, z⟩ := I.lst ha
  have ty : s.TypeIs (.ref a) "list" := ⟨_, e, rfl⟩
  unfold pyReprObj
  refine wpAny_bind (wpAny_cRoomFor (by have := sb.room.un; omega) ?_)
  refine wpAny_bind (wpAny_specialOf (name := Str.ofString "__repr__") ty F.slot_list_repr.lookup ?_)
  refine wpAny_bind (m := callSpecialIfBound? (.ref a) (Str.ofString "__repr__")) (wpAny_callSpecialIfBound?_slot (name := Str.ofString "__repr__") ty F.slot_list_repr (call_listI sb gd I ha hlen hT hsz fun s2 H2 u I2 s12 => ?_))
  exact wpAny_bind (wpAny_isInstance (T := "str") (b := true) rfl isSubtype_str_str (wpAny_pure (fin s2 H2 u I2 s12)))
end
end KA
/-! repr of a tuple that holds lists of own things, and data -/
namespace KA
open PySem PySem.Spec PyProof.Rows L2
section
variable {X : Cx} {n : Nat}
/-- x is shown as t, where nothing but t0 is being shown -/
def ShowsG (X : Cx) (n : Nat) (t0 : Addr) (x : V) (t : Str) (H : Hp) : Prop := ∀ (A : Around) (g : List Code) (pins : List (Addr × Obj)) (σ : L2.St) (H1 : Hp) (s : Shared) (u : Value) (b : Nat) (Q : Str → Shared → Prop), Sub X n A → A.guards = some g → (∀ c, c ≠ t0 → Clear g c) → (∀ c o, H c = some o → H1 c = some o) → L2.Inv X pins σ H1 s → RelV x u → b + t.length ≤ sizeLine →
  (∀ s2 H2, L2.Inv X pins σ H2 s2 → (∀ c o, H1 c = some o → H2 c = some o) → Q t s2) → wpAny (model X.prog X.w) A (pyReprUnder b u) Q X.xe s
theorem Shows.g {t0 : Addr} {x : V} {t : Str} {H : Hp} (h : Shows X n x t H) : ShowsG X n t0 x t H := fun A _ pins σ H1 s u b Q sb _ _ s01 I ru hz fin => h A pins σ H1 s u b Q sb s01 I ru hz fin
theorem shows_listG {H : Hp} {a t0 : Addr} {xs : List V} {ts : List Str} (ne : a ≠ t0) (ha : H a = some (.lst xs)) (hlen : ts.length = xs.length) (hT : ∀ (i : Nat) x t, xs[i]? = some x → ts[i]? = some t → Shows X n x t H) : ShowsG X (n + 3) t0 (.ref a) (listText ts) H := by
  intro A g pins σ H1 s u b Q sb gd hcl s01 I ru hz fin
  cases (show u = Value.ref a from ru)
  obtain ⟨its, m, r, e, z⟩ := I.lst (s01 _ _ ha)
  have ty : s.TypeIs (.ref a) "list" := ⟨_, e, rfl⟩
  have uu : A.units < cLine := sb.room.units0
  refine wpAny_pyReprUnder_ref (by omega) (wpAny_pyReprObjUnder_twin (twin := "list.__repr__.under") ty F.slot_list_repr.toG rfl uu ?_)
  refine call_twin_plain F.plain_list_repr_under F.entry_list_repr_under F.check_list_repr_under ty F.slot_list_repr.toG (F.args_list_repr_1 _) ?_
  have hTs : ∀ (i : Nat) x t, xs[i]? = some x → ts[i]? = some t → Shows X n x t H1 := fun i x t h1 h2 A pins σ H2 s u b Q sb s12 I ru hz fin => hT i x t h1 h2 A pins σ H2 s u b Q sb (fun c o k => s12 _ _ (s01 _ _ k)) I ru hz fin
  cases its with
  | nil =>
    have e0 : xs = [] := List.length_eq_zero_iff.mp r.length
    have e1 : ts = [] := List.length_eq_zero_iff.mp (by rw [hlen, e0]; rfl)
    subst e1
    exact wpAny_list_repr_empty (b := b) e rfl ⟨⟨_, _, rfl⟩, _, _, rfl, fin _ H1 (I.tok _) fun _ _ z => z⟩
  | cons v vs =>
    refine wpAny_list_repr_head (A := A.in1) (b := b) gd (fun v rest kw hm => listSameRef_of_ne (hcl a ne _ _ _ _ hm)) e rfl ?_
    refine wpAny_bind (m := newList []) (wpAny_newObj_type ?_)
    refine wpAny_pure ⟨F.quiet_list_repr_loop _, ?_⟩
    have fP : H1 s.heap.objs.size = none := I.hok.fresh (Nat.le_refl _)
    have I3 : L2.Inv X pins σ (upd H1 s.heap.objs.size (.lst [])) { s with heap := s.heap.push { cls := .type "list", data := .seq ([] : List Value).toArray } } :=
      I.laid (t' := s.toks) (fun b o z => Heap.get?_push_of_some _ z) (Nat.le_refl _) ⟨Nat.zero_le _, [], 0, .nil, Heap.get?_push_size _ rfl⟩
    have up : ∀ c o, H1 c = some o → upd H1 s.heap.objs.size (.lst []) c = some o := fun c o z => by
      rw [upd_ne (fun y => by rw [y, fP] at z; cases z)]
      exact z
    exact repr_loopI (base := b) (sb.mono (by omega)) fP hlen hTs hz (s01 _ _ ha) (fun s2 H2 u I2 s12 => ⟨⟨_, _, rfl⟩, _, _, rfl, fin s2 H2 I2 s12⟩) (fun _ _ z => z) ts.length 0 _ _ rfl (Nat.zero_le _) up I3 upd_same
theorem sub_tup {A : Around} {args : Args} (sb : Sub X (n + 1) A) : Sub X n (A.under (.builtin "tuple.__repr__" args)) := by
  have r := sb.room
  refine ⟨⟨r.hd, ?_, ?_⟩, sb.fr⟩
  · have := r.dp
    have e : (A.under (.builtin "tuple.__repr__" args)).depth ≤ A.depth + 1 := by
      first
        | exact Nat.le_refl _
        | (show A.depth ≤ A.depth + 1; omega)
        | simp [Around.under, Code.weight, Code.isCreation, Code.isGuard, Code.isCaller, Code.frames, Code.isFrame, guardIds]
    omega
  · have := r.un
    rw [units_under_tuple_repr]
    omega
/-- the items of a tuple, one behind another -/
inductive ShowsAll (X : Cx) (n : Nat) (t0 : Addr) (H : Hp) : List V → List Str → Prop
  | nil : ShowsAll X n t0 H [] []
  | cons {x : V} {xs : List V} {t : Str} {ts : List Str} : ShowsG X n t0 x t H → ShowsAll X n t0 H xs ts → ShowsAll X n t0 H (x :: xs) (t :: ts)
theorem ShowsAll.len {t0 : Addr} {H : Hp} : ∀ {xs : List V} {ts : List Str}, ShowsAll X n t0 H xs ts → ts.length = xs.length
  | _, _, .nil => rfl
  | _, _, .cons _ r => by rw [List.length_cons, List.length_cons, r.len]
theorem tup_foldI {A : Around} {g : List Code} {pins : List (Addr × Obj)} {σ : L2.St} {t0 : Addr} {H : Hp} (sb : Sub X n A) (gd : A.guards = some g) (hcl : ∀ c, c ≠ t0 → Clear g c) {xs : List V} {ts : List Str} (all : ShowsAll X n t0 H xs ts) : ∀ (us : List Value) (acc : Array Str) (k : Nat) (s : Shared) (H1 : Hp) (Q : (Array Str × Nat) → Shared → Prop),
    Vals xs us → k + piled ts ≤ sizeLine → (∀ c o, H c = some o → H1 c = some o) → L2.Inv X pins σ H1 s → (∀ s2 H2, L2.Inv X pins σ H2 s2 → (∀ c o, H1 c = some o → H2 c = some o) → Q ⟨acc ++ ts.toArray, k + piled ts⟩ s2) →
      wpAny (model X.prog X.w) A (forIn us (⟨acc, k⟩ : (Array Str × Nat)) tupBody) Q X.xe s := by
  induction all with
  | nil =>
    intro us acc k s H1 Q vl _ _ I fin
    cases vl
    simp only [List.forIn_nil]
    exact wpAny_pure (by simpa [piled] using fin s H1 I fun _ _ z => z)
  | @cons x xs t ts hx _ ih =>
    intro us acc k s H1 Q vl hk s01 I fin
    cases vl with
    | cons rx rr =>
      rename_i u us
      rw [piled_cons] at hk
      rw [List.forIn_cons]
      refine wpAny_bind (wpAny_bind (wpAny_mono (hx A g pins σ H1 s u (k + 1) (fun r s2 => r = t ∧ ∃ H2, L2.Inv X pins σ H2 s2 ∧ ∀ c o, H1 c = some o → H2 c = some o) sb gd hcl s01 I rx (by omega) fun s2 H2 I2 s12 => ⟨rfl, H2, I2, s12⟩) (fun r s2 k2 => ?_) fun _ _ z => z))
      obtain ⟨rfl, H2, I2, s12⟩ := k2
      refine wpAny_pure ?_
      refine ih us (acc.push r) (k + (r.length + 2)) s2 H2 Q rr (by omega) (fun c o z => s12 _ _ (s01 _ _ z)) I2 fun s3 H3 I3 s23 => ?_
      have h1 := fin s3 H3 I3 fun c o z => s23 _ _ (s12 _ _ z)
      rw [show k + piled (r :: ts) = k + (r.length + 2) + piled ts by rw [piled_cons]; omega] at h1
      simpa using h1
/-- tuple.__repr__, where nothing is being shown -/
theorem call_tupI {pins : List (Addr × Obj)} {σ : L2.St} {A : Around} {Q : Value → Shared → Prop} {s : Shared} {H : Hp} {a : Addr} {xs : List V} {ts : List Str} (sb : Sub X (n + 1) A) (gd : A.guards = some []) (I : L2.Inv X pins σ H s) (ha : H a = some (.tup xs)) (all : ShowsAll X n a H xs ts)
    (hsz : (tupleText ts).length ≤ sizeLine) (fin : ∀ s2 H2 u, L2.Inv X pins σ H2 s2 → (∀ c o, H c = some o → H2 c = some o) → Q (.str (tupleText ts) u) s2) : wpAny (model X.prog X.w) A (call (.builtin "tuple.__repr__") [.ref a]) Q X.xe s := by
  obtain ⟨z, its, r, o, e, cl, m, hd⟩ := I.hok a _ ha
  have ty : s.TypeIs (.ref a) "tuple" := ⟨o, e, cl⟩
  have hlen : ts.length = its.toArray.size := by rw [all.len, r.length]; simp
  have hp := piled_le_tupleText ts
  refine wpAny_call (codeAny_call_builtin_own (Code.quiet_builtin _ (by decide +kernel)) F.entry_tuple_repr (F.slot_tuple_repr.check _ _ _ _ _ _ _ _ ty (F.args_tuple_repr_1 _) ?_))
  show wpOwn _ _ _ (Builtin.tupleReprAt 0 ⟨[.ref a], []⟩) _ _ s
  rw [tuple_repr_tree, tupleReprUnderWay_eq]
  refine wpOwn_bind (wpOwn_stackTailAny gd (tupGuardF_off _) (tupGuardF_pos _) ?_)
  refine wpOwn_of_wpAny ?_
  show wpAny _ _ (tupleReprRest 0 (.ref a)) _ _ s
  unfold tupleReprRest Builtin.Tuple.tupleItemsOf
  refine wpAny_bind (wpAny_bind (wpAny_seqItems e hd (wpAny_pure ?_)))
  rw [← Array.forIn_toList]
  refine wpAny_bind (wpAny_mono (tup_foldI (pins := pins) (σ := σ) (sub_tup sb) (guards_under_guard (isGuard_tuple_repr _) gd) (fun b hb => (Clear.nil b).cons (a := a) (Ne.symm hb)) all its.toArray.toList _ _ s H (fun q s2 => q = ⟨ts.toArray, 0 + piled ts⟩ ∧ ∃ H2, L2.Inv X pins σ H2 s2 ∧ ∀ c o, H c = some o → H2 c = some o) (by simpa using r) (by omega) (fun _ _ z => z) I fun s2 H2 I2 s12 => ⟨by simp, H2, I2, s12⟩) (fun q s2 k2 => ?_) fun _ _ z => z)
  obtain ⟨rfl, H2, I2, s12⟩ := k2
  refine wpAny_bind (wpAny_mkStr (wpAny_pure ?_) (by simpa [tupleText, hlen] using hsz))
  have h1 := fin _ H2 s2.toks (I2.tok (s2.toks + 1)) s12
  simpa [tupleText, hlen] using h1
def rReprT (X : Cx) (n : Nat) : List V → Hp → VK → Prop := fun vs H Q => ∃ (a : Addr) (xs : List V) (ts : List Str), vs = [.ref a] ∧ H a = some (.tup xs) ∧ ShowsAll X n a H xs ts ∧ (tupleText ts).length ≤ sizeLine ∧ ∀ H2, (∀ c o, H c = some o → H2 c = some o) → Q (.str (tupleText ts)) H2
theorem call_reprT (gd : X.A.guards = some []) (hr : Room (n + 2) X.A) : CallR X (.builtin "repr") (rReprT X n) := by
  intro pins s σ H vs us Q I r h
  obtain ⟨a, xs, ts, rfl, ha, all, hsz, q⟩ := h
  obtain rfl := Vals.ref1 r
  refine Calls.call_function_entry F.kind_repr F.plain_repr F.entry_repr (F.args_repr1 _) ?_
  unfold Builtin.«repr»
  refine wpAny_bind (m := oneArg "repr" _) (wpAny_pure ?_)
  have sb : Sub X (n + 1) X.A.in1 := ⟨hr.in1, rfl⟩
  obtain ⟨z, its, rr, o, e, cl, m, hd⟩ := I.hok a _ ha
  have ty : s.TypeIs (.ref a) "tuple" := ⟨o, e, cl⟩
  refine wpAny_bind (wpAny_cRoomFor sb.room.units0 ?_)
  refine wpAny_bind (wpAny_specialOf (name := Str.ofString "__repr__") ty F.slot_tuple_repr.lookup ?_)
  refine wpAny_bind (m := callSpecialIfBound? (.ref a) (Str.ofString "__repr__")) (wpAny_callSpecialIfBound?_slotG (name := Str.ofString "__repr__") ty F.slot_tuple_repr (call_tupI sb gd I ha all hsz fun s2 H2 u I2 s12 => ?_))
  exact wpAny_bind (wpAny_isInstance (T := "str") (b := true) rfl isSubtype_str_str (wpAny_pure ⟨_, rfl, .str (tupleText ts), H2, I2, ⟨u, rfl⟩, q H2 s12⟩))
def rReprLst (X : Cx) (n : Nat) : List V → Hp → VK → Prop := fun vs H Q => ∃ (a : Addr) (xs : List V) (ts : List Str), vs = [.ref a] ∧ H a = some (.lst xs) ∧ ts.length = xs.length ∧ (∀ (i : Nat) x t, xs[i]? = some x → ts[i]? = some t → Shows X n x t H) ∧ (listText ts).length ≤ sizeLine ∧ ∀ H2, (∀ c o, H c = some o → H2 c = some o) → Q (.str (listText ts)) H2
theorem call_reprLst (gd : X.A.guards = some []) (hr : Room (n + 4) X.A) : CallR X (.builtin "repr") (rReprLst X n) := by
  intro pins s σ H vs us Q I r h
  obtain ⟨a, xs, ts, rfl, ha, hlen, hT, hsz, q⟩ := h
  obtain rfl := Vals.ref1 r
  refine Calls.call_function_entry F.kind_repr F.plain_repr F.entry_repr (F.args_repr1 _) ?_
  unfold Builtin.«repr»
  refine wpAny_bind (m := oneArg "repr" _) (wpAny_pure ?_)
  have sb : Sub X (n + 3) X.A.in1 := ⟨hr.in1, rfl⟩
  obtain ⟨its, m, rr, e, z⟩ := I.lst ha
  have ty : s.TypeIs (.ref a) "list" := ⟨_, e, rfl⟩
  refine wpAny_bind (wpAny_cRoomFor sb.room.units0 ?_)
  refine wpAny_bind (wpAny_specialOf (name := Str.ofString "__repr__") ty F.slot_list_repr.lookup ?_)
  refine wpAny_bind (m := callSpecialIfBound? (.ref a) (Str.ofString "__repr__")) (wpAny_callSpecialIfBound?_slot (name := Str.ofString "__repr__") ty F.slot_list_repr (call_listI sb gd I ha hlen hT hsz fun s2 H2 u I2 s12 => ?_))
  exact wpAny_bind (wpAny_isInstance (T := "str") (b := true) rfl isSubtype_str_str (wpAny_pure ⟨_, rfl, .str (listText ts), H2, I2, ⟨u, rfl⟩, q H2 s12⟩))
/-- {x!r}, x a list -/
def tFmtRL (X : Cx) (n : Nat) (te : TE) : TE := fun σ H Q => te σ H fun x H1 => rReprLst X n [x] H1 Q
theorem pe_fmtRL {e : Expr} {te : TE} {pos : Pos} (gd : X.A.guards = some []) (hr : Room (n + 3) X.A) (he : PE X e te) : PE X (.FormattedValue e 114 none pos) (tFmtRL X n te) := by
  refine ⟨fun pins s σ H Q I h => ?_⟩
  refine wpAny_FormattedValue_repr (thn (he.run pins s σ H _ I h) fun v s1 ⟨x, H1, I1, r1, k⟩ => ?_)
  obtain ⟨a, xs, ts, ex, ha, hlen, hT, hsz, q⟩ := k
  cases ex
  cases (show v = Value.ref a from r1)
  refine repr_listI ⟨hr, rfl⟩ gd I1 ha hlen hT hsz fun s2 H2 u I2 s12 => ?_
  exact wpAny_formatField_str ⟨.str (listText ts), H2, I2, ⟨_, rfl⟩, q H2 s12⟩ ⟨.str (listText ts), H2, I2.tok _, ⟨_, rfl⟩, q H2 s12⟩ hsz
/-- a dict whose keys are tuples of texts, its values ints -/
def keyText (ks : List Str) : Str := tupleText (ks.map reprText)
def entText (p : List Str × Int) : Str := keyText p.1 ++ ": " ++ Str.ofString (toString p.2)
def dictV (kvs : List (List Str × Int)) : List (List Key × V) := kvs.map fun p => (p.1.map Sum.inr, V.int p.2)
theorem reprAll_strs {as : List Addr} {h0 : Heap} {d : Nat} : ∀ {ks : List Str} {us : List Value}, Vals (ks.map V.str) us → (∀ k ∈ ks, (reprText k).length ≤ sizeLine) → ReprAllK X.prog X.w as h0 d us (ks.map reprText)
  | [], _, .nil, _ => .nil
  | k :: ks, _, .cons h r, hz => by
    obtain ⟨tk, rfl⟩ := (show ∃ t, _ = Value.str k t from h)
    exact .cons (.of_is (ReprIs.str k tk (hz k (List.mem_cons_self ..))) _ _ _) (reprAll_strs r fun y hy => hz y (List.mem_cons_of_mem _ hy))
theorem keys_strs (ks : List Str) : (ks.map (Sum.inr : Str → Key)).map kV = ks.map V.str := by
  rw [List.map_map]
  rfl
theorem entries_dT {pins : List (Addr × Obj)} {σ : L2.St} {H1 : Hp} {s : Shared} (I : L2.Inv X pins σ H1 s) (as : List Addr) {P : Program} {w : World} : ∀ {kvs : List (List Str × Int)} {xs : List (List Key × Addr × Value)}, (∀ q ∈ xs, q.2.1 ∈ as) → (∀ p ∈ kvs, (∀ k ∈ p.1, (reprText k).length ≤ sizeLine) ∧ p.2.natAbs.log2 < 1920) →
    Paired (fun (p : List Key × V) (q : List Key × Addr × Value) => p.1 = q.1 ∧ H1 q.2.1 = some (.tup (p.1.map kV)) ∧ RelV p.2 q.2.2) (dictV kvs) xs → ReprEntriesK X.prog X.w as s.heap 1 (xs.map (entryOfKey (tupleKind (mixKind P w)))) (kvs.map entText)
  | [], _, _, _, .nil => .nil
  | (ks, i) :: kvs, _, hin, hk, .cons h r => by
    rename_i q xs
    obtain ⟨h1, h2, h3⟩ := h
    have h2 : H1 q.2.1 = some (.tup (ks.map V.str)) := by
      rw [← keys_strs ks]
      exact h2
    obtain ⟨tk, h3⟩ := (show ∃ t, q.2.2 = Value.int i t from h3)
    obtain ⟨k1, k2⟩ := hk (ks, i) (List.mem_cons_self ..)
    obtain ⟨_, its, rv, ok, e, cl, m, hd⟩ := I.hok _ _ h2
    have key : ReprK X.prog X.w [q.2.1] s.heap 1 (.ref q.2.1) (keyText ks) := ReprK.tuple (as := []) e cl hd (by simp) (by simpa using reprAll_strs rv k1)
    refine .cons (key.more fun b hb => ?_) ?_ (entries_dT I as (fun q hq => hin q (List.mem_cons_of_mem _ hq)) (fun p hp => hk p (List.mem_cons_of_mem _ hp)) r)
    · rw [List.mem_singleton.mp hb]
      exact hin q (List.mem_cons_self ..)
    · show ReprK X.prog X.w as s.heap 1 q.2.2 _
      rw [h3]
      exact .of_is (ReprIs.int tk k2) _ _ _
theorem shows_dT {H : Hp} {a t0 : Addr} {xs0 : List V} {kvs : List (List Str × Int)} (ht0 : H t0 = some (.tup xs0)) (hx0 : ∀ ks : List Str, xs0 ≠ ks.map V.str) (ha : H a = some (.dT (dictV kvs))) (hk : ∀ p ∈ kvs, (∀ k ∈ p.1, (reprText k).length ≤ sizeLine) ∧ p.2.natAbs.log2 < 1920) :
    ShowsG X n t0 (.ref a) (dictText (kvs.map entText)) H := by
  intro A g pins σ H1 s u b Q sb gd hcl s01 I ru hz fin
  cases (show u = Value.ref a from ru)
  have ha1 := s01 _ _ ha
  obtain ⟨_, hsys, xs, pr, o, es, ep, e, ex, hd, hes, _⟩ := I.hok a _ ha1
  have tup : ∀ c ∈ xs.map (·.2.1), ∃ ks : List Str, H1 c = some (.tup (ks.map V.str)) := by
    intro c hc
    obtain ⟨q, hq, rfl⟩ := List.mem_map.mp hc
    have : ∀ {l : List (List Str × Int)} {ys : List (List Key × Addr × Value)}, Paired (fun (p : List Key × V) (q : List Key × Addr × Value) => p.1 = q.1 ∧ H1 q.2.1 = some (.tup (p.1.map kV)) ∧ RelV p.2 q.2.2) (dictV l) ys → ∀ q ∈ ys, ∃ ks : List Str, H1 q.2.1 = some (.tup (ks.map V.str)) := by
      intro l
      induction l with
      | nil =>
        intro ys h q hq
        cases h
        cases hq
      | cons p l ih =>
        intro ys h q hq
        cases h with
        | cons h r =>
          rcases List.mem_cons.mp hq with rfl | hq
          · exact ⟨p.1, by rw [← keys_strs]; exact h.2.1⟩
          · exact ih r q hq
    exact this pr q hq
  have ent := entries_dT (P := X.prog) (w := X.w) I (xs.map (·.2.1)) (fun q hq => List.mem_map.mpr ⟨q, hq, rfl⟩) hk pr
  rw [← hes] at ent
  have na : a ∉ xs.map (·.2.1) := fun z => by
    obtain ⟨ks, k⟩ := tup a z
    rw [ha1] at k
    cases k
  have all := ReprK.dict (prog := X.prog) (w := X.w) e ex.1 hd hsys na ent
  refine all b hz A g X.xe s Q gd (fun c hc => hcl c fun z => ?_) (by have := sb.room.un; omega) (fun _ _ z => z) fun h' tk kp => fin _ H1 (I.kept kp) fun _ _ z => z
  have t1 := s01 _ _ ht0
  rcases List.mem_cons.mp hc with hc | hc
  · rw [← z, hc, ha1] at t1
    cases t1
  · obtain ⟨ks, k⟩ := tup c hc
    rw [z, t1] at k
    cases k
    exact hx0 ks rfl
end
end KA
/-! len(set(xs)) of a tuple of texts; len(range(n)); sorted of a tuple of texts; a tuple of texts shown -/
namespace KA
open PySem PySem.Spec PyProof.Rows L2
/-- the texts of the first i -/
def seenS (xs : List Str) (i : Nat) : Str → Bool := fun z => (xs.take i).any (· == z)
/-- how many unlike ones are among the first i -/
def unlikeN (xs : List Str) : Nat → Nat
  | 0 => 0
  | i + 1 => if seenS xs i (xs.getD i Str.empty) = true then unlikeN xs i else unlikeN xs i + 1
theorem unlikeN_le (xs : List Str) : ∀ i, unlikeN xs i ≤ i
  | 0 => Nat.le_refl _
  | i + 1 => by
    have := unlikeN_le xs i
    have e : unlikeN xs (i + 1) = if seenS xs i (xs.getD i Str.empty) = true then unlikeN xs i else unlikeN xs i + 1 := rfl
    rw [e]
    split <;> omega
theorem seenS_iff {xs : List Str} {i : Nat} {z : Str} : seenS xs i z = true ↔ z ∈ xs.take i := by
  unfold seenS
  rw [List.any_eq_true]
  constructor
  · rintro ⟨y, h, e⟩
    rw [beq_iff_eq] at e
    rw [← e]
    exact h
  · intro h
    exact ⟨z, h, beq_self_eq_true z⟩
theorem take_snoc {xs : List Str} {i : Nat} (h : i < xs.length) : xs.take (i + 1) = xs.take i ++ [xs.getD i Str.empty] := by
  rw [List.take_add_one, List.getElem?_eq_getElem h, List.getD_eq_getElem?_getD, List.getElem?_eq_getElem h]
  rfl
theorem unlikeN_all (xs : List Str) : ∀ i, i ≤ xs.length → (unlikeN xs i = i ↔ (xs.take i).Nodup)
  | 0, _ => by simp [unlikeN]
  | i + 1, h => by
    have ih := unlikeN_all xs i (by omega)
    have le := unlikeN_le xs i
    rw [take_snoc (by omega), List.nodup_append]
    show (if seenS xs i (xs.getD i Str.empty) = true then unlikeN xs i else unlikeN xs i + 1) = i + 1 ↔ _
    by_cases hs : seenS xs i (xs.getD i Str.empty) = true
    · rw [if_pos hs]
      refine ⟨fun e => by omega, fun ⟨_, _, h3⟩ => absurd rfl (h3 _ (seenS_iff.mp hs) _ (List.mem_singleton.mpr rfl))⟩
    · rw [if_neg hs]
      constructor
      · intro e
        refine ⟨ih.mp (by omega), by simp, fun a ha b hb e2 => hs (seenS_iff.mpr ?_)⟩
        rw [← List.mem_singleton.mp hb, ← e2]
        exact ha
      · rintro ⟨h1, _, _⟩
        have := ih.mpr h1
        omega
section
variable {P : Program} {w : World} {A : Around} {R : Result → Shared → Prop} {I : Addr} {fp wr : List Addr} {G : Array GenState → Array GenState → Prop} {n : Nat} {Pv : Nat → Value → Prop} {St : Nat → Shared → Prop}
theorem upd_texts (W : WalksS P w A.in1 I fp wr G n Pv St) (S : Addr) (far : S ∉ fp) (xs : List Str) (len : xs.length = n) (few : n + 1 < scanBound) (each : ∀ i v, Pv i v → ∃ t, v = .str (xs.getD i Str.empty) t) :
    ∀ (k i : Nat) (s : Shared), n - i = k → i ≤ n → St i s → s.heap.SetOf (PySem.strKind P w) S (seenS xs i) (unlikeN xs i) →
      (∀ s2, Moved (S :: wr) G s s2 → s2.heap.SetOf (PySem.strKind P w) S (seenS xs n) (unlikeN xs n) → R (.ok (.ret .none)) s2) → codeAny (model P w) A (.builtin "set.update.loop" ⟨[.ref S, .ref I], []⟩) R s
  | 0, i, s, hk, hi, hst, hS, done => by
    obtain rfl : i = n := by omega
    refine codeAny_builtin F.entry_set_update_loop ?_
    rw [Around.under_plainId F.plain_set_update_loop _]
    refine wpAny_bind (m := pyNext (.ref I)) (W.done s _ _ hst fun s2 m => ?_)
    have far2 : S ∉ wr := fun z => far (W.sub _ z)
    refine wpAny_pure (done s2 (m.mono fun b hb => List.mem_cons_of_mem _ hb) ?_)
    obtain ⟨o, es, ep, t, ho, rest⟩ := hS
    exact ⟨o, es, ep, t, m.heap S _ far2 ho, rest⟩
  | k + 1, i, s, hk, hi, hst, hS, done => by
    have lt : i < n := by omega
    have far2 : S ∉ wr := fun z => far (W.sub _ z)
    refine codeAny_builtin F.entry_set_update_loop ?_
    rw [Around.under_plainId F.plain_set_update_loop _]
    refine wpAny_bind (m := pyNext (.ref I)) (W.item i s _ _ lt hst fun v s2 hP hst2 m => ?_)
    obtain ⟨t, rfl⟩ := each i v hP
    have hS2 : s2.heap.SetOf (PySem.strKind P w) S (seenS xs i) (unlikeN xs i) := by
      obtain ⟨o, es, ep, t, ho, rest⟩ := hS
      exact ⟨o, es, ep, t, m.heap S _ far2 ho, rest⟩
    refine wpAny_bind (m := holding [Value.str (xs.getD i Str.empty) t] (setAdd S (.str (xs.getD i Str.empty) t))) (wpAny_holding ?_)
    unfold setAdd
    refine wpAny_holding (wpAny_bind ((PySem.strKind P w).pyHash (k := xs.getD i Str.empty) (strKind_is _ _ _ _) ?_))
    have le := unlikeN_le xs i
    refine wpAny_setAddHashed_of (knd := PySem.strKind P w) (s := { s2 with toks := s2.toks + 1 }) (strKind_is _ _ _ _) rfl hS2 (by omega) fun h3 same hS3 => ?_
    have hS4 : h3.SetOf (PySem.strKind P w) S (seenS xs (i + 1)) (unlikeN xs (i + 1)) := SetOf_congr hS3 (fun z => by
      rw [Bool.eq_iff_iff, Bool.or_eq_true, seenS_iff, seenS_iff, take_snoc (by omega), List.mem_append, List.mem_singleton, decide_eq_true_eq]) rfl
    refine wpAny_pure ⟨plainId_quiet F.plain_set_update_loop _, upd_texts W S far xs len few each k (i + 1) _ (by omega) lt (W.frame _ s2 _ _ hst2 (Nat.le_succ _) fun b hb o e => ?_) hS4 fun s4 m4 hS5 => ?_⟩
    · rw [same.2 b fun z => far (by rw [← z]; exact hb)]
      exact e
    · refine done s4 (Moved.trans W.gtrans ((m.mono fun b hb => List.mem_cons_of_mem _ hb).then_heap (Nat.le_succ _) fun b o hb e => ?_) m4) hS5
      rw [same.2 b fun z => hb (by rw [z]; exact List.mem_cons_self)]
      exact e
end
section
variable {P : Program} {w : World} {A : Around} {E : Value → Shared → Prop} {s : Shared}
/-- the new set has got the texts xs, all that stood stands -/
def FilledT (P : Program) (w : World) (s : Shared) (xs : List Str) (s2 : Shared) : Prop := ∃ h' tk, s2 = { s with heap := h', toks := tk } ∧ h'.SetOf (PySem.strKind P w) s.heap.objs.size (seenS xs xs.length) (unlikeN xs xs.length) ∧ ∀ b o, s.heap.get? b = some o → h'.get? b = some o
theorem set_tupT {l : Addr} {items : Array Value} {xs : List Str} {Q : Value → Shared → Prop} (hh : A.handled = none) (hl : s.heap.IsTuple l items) (hit : StrsAre items.toList xs) (hb : xs.length + 1 < scanBound)
    (h : ∀ s2, FilledT P w s xs s2 → Q (.ref s.heap.objs.size) s2) : wpAny (model P w) A (call (.type "set") [.ref l]) Q E s := by
  have size : xs.length = items.size := by rw [← StrsAre.len_eq hit, Array.length_toList]
  obtain ⟨ob, at_l, cls_l, ep, dat_l⟩ := id hl
  have below : l < s.heap.objs.size := Heap.lt_size at_l
  have at_S : (s.heap.push (set0 w)).get? s.heap.objs.size = some (set0 w) := Heap.get?_push_size _ rfl
  have ty_S : Shared.TypeIs { s with heap := s.heap.push (set0 w) } (.ref s.heap.objs.size) "set" := ⟨_, at_S, rfl⟩
  have l1 : (s.heap.push (set0 w)).IsTuple l items := hl.push _
  have zI : (s.heap.push (set0 w)).objs.size = s.heap.objs.size + 1 := Heap.size_push ..
  have each : ∀ (i : Nat) (v : Value), items[i]? = some v → ∃ t, v = .str (xs.getD i Str.empty) t := fun i v hv => SS.strs_at hit i v (by rw [Array.getElem?_toList]; exact hv)
  have init : ∀ {B : Around}, B.handled = none → codeAny (model P w) B (.call (.builtin "set.__init__") ⟨[.ref s.heap.objs.size, .ref l], []⟩) (wants (fun r s2 => r = .none ∧ FilledT P w s xs s2) E) { s with heap := s.heap.push (set0 w) } := fun {B} hB => by
    refine codeAny_call_builtin F.called_set.init.plain F.entry_set_init (check_set_init_1 ty_S ?_)
    have hB3 : B.in1.in1.handled = none := by simp [hB]
    have nS := F.sub_tuple_set
    have nF := F.sub_tuple_frozenset
    have nD : (Value.type "tuple" == Value.type "dict") = false := by decide
    obtain ⟨ocls, odict, odata, oslots⟩ := ob
    simp only at cls_l dat_l
    subst cls_l dat_l
    have at1 : (s.heap.push (set0 w)).get? l = some { cls := .type "tuple", dict := odict, data := .seq items ep, slots := oslots } := Heap.get?_push_of_some _ at_l
    unfold Builtin.«set.__init__» noKeywords Builtin.Frozenset.updateFrom
    generalize eI : pyIter = it
    wp_walk
    subst eI
    refine wpAny_pyIter_tuple l1 (wpAny_bind (wpAny_runValue ?_))
    have far : l ≠ (s.heap.push (set0 w)).objs.size := by rw [zI]; exact Nat.ne_of_lt (Nat.lt_succ_of_lt below)
    have apart : s.heap.objs.size ∉ [(s.heap.push (set0 w)).objs.size, l] := fun z => by
      rw [zI] at z
      rcases List.mem_cons.mp z with z | z
      · exact absurd z (Nat.ne_of_lt (Nat.lt_succ_self _))
      · exact absurd (List.mem_singleton.mp z) (Nat.ne_of_gt below)
    refine upd_texts ((Walks.tuple hB3 _ l far items).toS) s.heap.objs.size apart xs size (by omega) each items.size 0 _ (by omega) (Nat.zero_le _) ?stand ?first fun s2 m hS => ?_
    case stand => exact ⟨⟨_, Heap.get?_push_size _ rfl, rfl, rfl⟩, l1.push _⟩
    case first => exact SetOf_congr ((PyProof.Rows.setObjOf_fresh (knd := PySem.strKind P w) _).setOf (Heap.get?_push_of_some _ at_S) (by unfold scanBound; omega)) (fun _ => rfl) rfl
    · obtain ⟨h2, g2, d2, t2, o2⟩ := s2
      obtain rfl : g2 = s.gens := m.gens
      obtain rfl : d2 = s.drawn := m.drawn
      obtain rfl : o2 = s.os := m.os
      rw [← size] at hS
      refine wpAny_pure (wpAny_pure ⟨rfl, h2, t2, rfl, hS, fun b o e => ?_⟩)
      have hb0 : @LT.lt Nat _ b s.heap.objs.size := Heap.lt_size e
      refine m.heap b o (fun z => ?_) (Heap.get?_push_of_some _ (Heap.get?_push_of_some _ e))
      rw [zI] at z
      rcases List.mem_cons.mp z with z | z
      · exact absurd z (Nat.ne_of_lt hb0)
      · exact absurd (List.mem_singleton.mp z) (Nat.ne_of_lt (Nat.lt_succ_of_lt hb0))
  obtain ⟨c, tl, mro_⟩ := F.called_set.mro
  have made_ := F.called_set.made
  have sub_ := F.called_set.sub
  have q1 := F.called_set.notType
  have q2 := F.called_set.canCreate
  have q3 := F.typeCall_set_1 (.ref l)
  refine wpAny_call (codeAny_of_tree (show wpAny _ _ (callAny (.type "set") _) _ _ _ from wpAny_pure ⟨Code.quiet_builtin _ (by decide +kernel), codeAny_builtin F.entry_type_call ?_⟩))
  rw [Around.under_plain (weight_type_call_type "set" [.ref l] []) rfl]
  repeat any_goals first | assumption | wp_step
  refine codeAny_mono (code_set_led1 (E := E) (.ref l) (Q₁ := fun z s1 => z = .ref s.heap.objs.size ∧ s1 = { s with heap := s.heap.push (set0 w) }) ⟨rfl, rfl⟩) (fun r s1 hr => ?_)
  cases r with
  | error e => exact hr
  | ok fl =>
    cases fl with
    | ret z =>
      obtain ⟨rfl, rfl⟩ := hr
      have i1 := F.called_set.init.lookup
      have i2 := F.called_set.init.bind (.ref s.heap.objs.size)
      repeat any_goals first | assumption | wp_step
      refine codeAny_mono (init (by simp [hh])) fun r2 s2 hr2 => ?_
      cases r2 with
      | error e => exact hr2
      | ok fl2 =>
        cases fl2 with
        | ret z2 =>
          obtain ⟨rfl, hF⟩ := hr2
          have := h s2 hF
          obtain ⟨h2, t2, rfl, hS, kp⟩ := hF
          repeat any_goals first | assumption | wp_step
        | next => exact hr2.elim
        | brk => exact hr2.elim
        | cont => exact hr2.elim
    | next => exact hr.elim
    | brk => exact hr.elim
    | cont => exact hr.elim
end
section
variable {X : Cx} {a e : Expr} {ta : TE} {te : L2.St → Hp → (Int → Int → Hp → Prop) → Prop} {pos : Pos} {n : Nat}
/-- len(set(xs)), xs a tuple of texts -/
def tLenSetT (ta : TE) : TE := fun σ H Q => ta σ H fun x H1 => ∃ (l : Addr) (xs : List Str), x = .ref l ∧ H1 l = some (.tup (xs.map V.str)) ∧ xs.length ≤ 1000 ∧ ∀ c : Nat, c ≤ xs.length → (c = xs.length ↔ xs.Nodup) → Q (.int c) H1
theorem pe_lenSetT {p p2 q : Pos} (hc : X.calm = true) (hg : Gl X "len") (hm : X.mg "len" = none) (hg2 : Gl X "set") (hm2 : X.mg "set" = none) (ha : PE X a ta)
    (na : starEach [a] X.env = (false, eval a X.env) :: starEach [] X.env := by rfl) : PE X (.Call (.Name "len" p) [.Call (.Name "set" p2) [a] [] q] [] pos) (tLenSetT ta) := by
  refine ⟨fun pins s σ H Q I h => Call_ (ld_blt I hg hm boot_len (PyProof.Rows.callWith_builtin1 (PyProof.Rows.args_cons ?_ rfl) rfl rfl))⟩
  refine Call_ (ld_blt I hg2 hm2 boot_set (PyProof.Rows.callWith_type1 (PyProof.Rows.args_cons (thn (ha.run pins s σ H _ I h) fun v s1 ⟨x, H1, I1, r1, q1⟩ => PyProof.Rows.args_nil ?_) na) na rfl))
  obtain ⟨l, xs, rfl, hl, h1, q1⟩ := q1
  cases r1
  obtain ⟨its, r, pl, hz⟩ := I1.tuple (.inl (.inl hl))
  refine set_tupT (I1.ok.hd hc) pl (by simpa using strsAre_of r) (Nat.lt_of_le_of_lt (Nat.add_le_add_right h1 1) (by decide)) fun s2 hF => PyProof.Rows.args_nil ?_
  obtain ⟨h2, t2, rfl, hS, kp⟩ := hF
  obtain ⟨o, es, ep, t, ho, hex, hd, _, _, _, hf, hn⟩ := hS
  have I2 : L2.Inv X pins σ H1 { s1 with heap := h2, toks := t2 } := I1.kept kp
  have le := unlikeN_le xs xs.length
  have all := unlikeN_all xs xs.length (Nat.le_refl _)
  rw [List.take_length] at all
  exact call_len_set ho hex hd hf (by rw [hn]; omega) ⟨.int (unlikeN xs xs.length), H1, I2.tok _, ⟨_, by rw [hn]⟩, q1 _ le all⟩
/-- len(range(..)) -/
def tLenRg (te : L2.St → Hp → (Int → Int → Hp → Prop) → Prop) : TE := fun σ H Q => te σ H fun a b H1 => (b - a).toNat ≤ 100000 ∧ Q (.int ((b - a).toNat : Nat)) H1
theorem pe_lenRg {p : Pos} (hg : Gl X "len") (hm : X.mg "len" = none) (he : PRg X e te) (na : starEach [e] X.env = (false, eval e X.env) :: starEach [] X.env := by rfl) : PE X (.Call (.Name "len" p) [e] [] pos) (tLenRg te) := by
  refine ⟨fun pins s σ H Q I h => Call_ (ld_blt I hg hm boot_len (PyProof.Rows.callWith_builtin1 (PyProof.Rows.args_cons (thn (he pins s σ H _ I h) fun x s1 ⟨r, a, b, t, u, v, H1, ex, hr, I1, ok, q⟩ => PyProof.Rows.args_nil ?_) na) na))⟩
  subst ex
  exact call_len_range (n := (b - a).toNat) hr (rangeSize_nat a b) (by omega) ⟨.int ((b - a).toNat : Nat), H1, (I1.tok _), ⟨_, rfl⟩, q⟩
/-- sorted of a tuple of texts -/
theorem collect_tup {prog : Program} {w : World} {A : Around} {E : Value → Shared → Prop} {s : Shared} {l : Addr} {vs : List Value} {Q : List Value → Shared → Prop} (hl : s.heap.IsTuple l vs.toArray) (hsz : vs.length ≤ sizeLine)
    (h : Q vs { s with heap := (s.heap.push (seqObj "list" #[] 0)).update s.heap.objs.size (Obj.mapSeq (· ++ vs.toArray)) }) : wpAny (model prog w) A (collect (.ref l)) Q E s := by
  obtain ⟨o, ho, hc, n, hd⟩ := id hl
  have at0 : (s.heap.push (seqObj "list" #[] 0)).get? s.heap.objs.size = some (seqObj "list" #[] 0) := Heap.get?_push_size _ rfl
  have at1 : (s.heap.push (seqObj "list" #[] 0)).get? l = some o := Heap.get?_push_of_some _ ho
  unfold collect
  refine wpAny_bind (wpAny_runValue (codeAny_builtin entry_proto_collect' ?_))
  refine wpAny_bind (m := newList []) (wpAny_newList (wpAny_pure ⟨Code.quiet_builtin _ (by decide +kernel), codeAny_builtin entry_list_iadd' ?_⟩))
  show wpAny _ _ (Builtin.List.listExtendWith (.ref s.heap.objs.size) (.ref l) (.ref s.heap.objs.size)) _ _ _
  unfold Builtin.List.listExtendWith
  refine wpAny_bind (wpAny_typeOf (T := "tuple") ⟨o, at1, hc⟩ (PySem.W.KFB.if_so (by simp) ?_))
  refine wpAny_bind (listItems_at at1 hd (wpAny_bind (listItems_at (xs := #[]) (n := 0) at0 rfl (PySem.W.KFB.if_not (by simp) ?_))))
  refine wpAny_bind (listUpdate_at (xs := #[]) (n := 0) at0 rfl (wpAny_pure ?_) (Nat.zero_le _) (by simp only [Array.size_append, List.size_toArray, List.length_nil]; omega))
  refine wpAny_bind (m := load s.heap.objs.size) (wpAny_load (get?_update_seq at0 _) ?_)
  have e : ((#[] : Array Value) ++ vs.toArray).toList = vs := by simp
  show wpAny _ _ (pure ((#[] : Array Value) ++ vs.toArray).toList) Q E _
  rw [e]
  exact wpAny_pure h
theorem sorted_tupT {prog : Program} {w : World} {A : Around} {E : Value → Shared → Prop} {s : Shared} {l : Addr} {vs : List Value} {ss : List Str} {Q : Value → Shared → Prop} (hl : s.heap.IsTuple l vs.toArray) (hS : StrsAre vs ss) (h64 : vs.length < 64)
    (h : ∀ (out : Array Value) (ys : List Str), StrsAre out.toList ys → ys.Perm ss → sortedS ys = true → Q (.ref (s.heap.objs.size + 1)) { s with heap := sortedAll s.heap vs out }) : wpAny (model prog w) A (call (.builtin "sorted") [.ref l]) Q E s := by
  refine Calls.call_function_entry kind_sorted plain_sorted entry_sorted (args_sorted1 _) ?_
  unfold Builtin.«sorted»
  refine wpAny_bind (m := checkCount "sorted" 1 1 _) (wpAny_pure (wpAny_bind (collect_tup hl (by rw [sizeLine_eq]; omega) (wpAny_bind (wpAny_newList ?_)))))
  have z : ((s.heap.push (seqObj "list" #[] 0)).update s.heap.objs.size (Obj.mapSeq (· ++ vs.toArray))).objs.size = s.heap.objs.size + 1 := by rw [Heap.size_update, size_push']
  have at2 : (((s.heap.push (seqObj "list" #[] 0)).update s.heap.objs.size (Obj.mapSeq (· ++ vs.toArray))).push (seqObj "list" vs.toArray 0)).get? (s.heap.objs.size + 1) = some (seqObj "list" vs.toArray 0) := by
    rw [← z]
    exact Heap.get?_push_size _ rfl
  show wpAny _ _ _ _ _ { s with heap := ((s.heap.push (seqObj "list" #[] 0)).update s.heap.objs.size (Obj.mapSeq (· ++ vs.toArray))).push (seqObj "list" vs.toArray 0) }
  rw [z]
  refine wpAny_bind (wpAny_holding (wpAny_call_entry slot_list_sort ⟨_, at2, rfl⟩ entry_list_sort (list_sort_treeK strKind_oneLt at2 hS.keysOf (fun v₁ v₂ rest e => keyKind_strs (by rw [← e]; exact hS)) h64 fun st a1 a2 => ⟨_, rfl, ?_⟩) (args_list_sort _)))
  obtain ⟨ys, h1, h2, h3⟩ := sorted_out_str hS a1 a2
  exact wpAny_pure ⟨_, rfl, h _ ys h1 h2 h3⟩
def rSortedT : List V → Hp → VK → Prop := fun vs H Q => ∃ (l : Addr) (xs : List Str), vs = [V.ref l] ∧ H l = some (.tup (xs.map V.str)) ∧ xs.length < 64 ∧
  ∀ (ys : List Str) (p : Addr), ys.Perm xs → sortedS ys = true → H p = none → Q (.ref p) (upd H p (.lst (ys.map V.str)))
theorem cr_sortedT : CallR X (.builtin "sorted") rSortedT := by
  intro pins s σ H vs us Q I r h
  obtain ⟨l, xs, rfl, hl, h64, q⟩ := h
  obtain rfl := Vals.ref1 r
  obtain ⟨its, rv, pl, _⟩ := I.tuple (.inl (.inl hl))
  have len := rv.length
  rw [List.length_map] at len
  refine sorted_tupT pl (strsAre_of rv) (by omega) fun out ys h1 h2 h3 => ?_
  obtain ⟨ep, he⟩ := PyProof.Rows.sortedAll_at s.heap its out
  have hz : (ys.map V.str).length ≤ sizeLine := by
    rw [List.length_map, h2.length_eq, sizeLine_eq]
    omega
  exact ⟨.ref _, upd H (s.heap.objs.size + 1) (.lst (ys.map V.str)), I.laid (t' := s.toks) (fun _ _ => PyProof.Rows.sortedAll_old) (Nat.le_succ _) ⟨hz, out.toList, ep, vals_of_strs h1, he⟩, rfl, q ys _ h2 h3 (I.hok.fresh (Nat.le_succ _))⟩
/-- a tuple of texts shown in a text -/
theorem shows_str {H : Hp} {z : Str} (hl : (reprText z).length ≤ sizeLine) : Shows X n (.str z) (reprText z) H := fun A pins σ H1 s u b Q _ _ I ru hz fin => by
  obtain ⟨t, rfl⟩ := ru
  exact ReprIs.str z t hl b hz A X.xe s Q fun tk => fin _ H1 (I.tok tk) fun _ _ z => z
theorem shows_strs {H : Hp} {t0 : Addr} : ∀ {zs : List Str}, (∀ z ∈ zs, (reprText z).length ≤ sizeLine) → ShowsAll X n t0 H (zs.map V.str) (zs.map reprText)
  | [], _ => .nil
  | z :: zs, h => .cons (shows_str (h z (List.mem_cons_self ..))).g (shows_strs fun y hy => h y (List.mem_cons_of_mem _ hy))
def tFmtRT (X : Cx) (te : TE) : TE := fun σ H Q => te σ H fun x H1 => ∃ (a : Addr) (zs : List Str), x = .ref a ∧ H1 a = some (.tup (zs.map V.str)) ∧ (∀ z ∈ zs, (reprText z).length ≤ sizeLine) ∧ (tupleText (zs.map reprText)).length ≤ sizeLine ∧ ∀ H2, Same H1 H2 → Q (.str (tupleText (zs.map reprText))) H2
theorem pe_fmtRT {te : TE} (gd : X.A.guards = some []) (hr : Room 1 X.A) (he : PE X e te) : PE X (.FormattedValue e 114 none pos) (tFmtRT X te) := by
  refine ⟨fun pins s σ H Q I h => wpAny_FormattedValue_repr (thn (he.run pins s σ H _ I h) fun v s1 ⟨x, H1, I1, r1, k⟩ => ?_)⟩
  obtain ⟨a, zs, ex, ha, hT, hsz, q⟩ := k
  cases ex
  cases (show v = Value.ref a from r1)
  have sb : Sub X (0 + 1) X.A := ⟨hr, rfl⟩
  obtain ⟨z, its, rr, o, e, cl, m, hd⟩ := I1.hok a _ ha
  have ty : s1.TypeIs (.ref a) "tuple" := ⟨o, e, cl⟩
  unfold pyReprObj
  refine wpAny_bind (wpAny_cRoomFor sb.room.units0 ?_)
  refine wpAny_bind (wpAny_specialOf (name := Str.ofString "__repr__") ty F.slot_tuple_repr.lookup ?_)
  refine wpAny_bind (m := callSpecialIfBound? (.ref a) (Str.ofString "__repr__")) (wpAny_callSpecialIfBound?_slotG (name := Str.ofString "__repr__") ty F.slot_tuple_repr (call_tupI sb gd I1 ha (shows_strs hT) hsz fun s2 H2 u I2 s12 => ?_))
  refine wpAny_bind (wpAny_isInstance (T := "str") (b := true) rfl isSubtype_str_str (wpAny_pure ?_))
  exact wpAny_formatField_str ⟨.str (tupleText (zs.map reprText)), H2, I2, ⟨_, rfl⟩, q H2 s12⟩ ⟨.str (tupleText (zs.map reprText)), H2, I2.tok _, ⟨_, rfl⟩, q H2 s12⟩ hsz
end
end KA
namespace KA
open PySem PySem.Spec PySem.W PyProof.Rows
section
variable {prog : Program} {w : World} {A : Around} {E : Value → Shared → Prop} {s : Shared} {K : Frag} {x C f : Addr} {ox : Obj} {od : Option Obj}
theorem special_K {M : Model} {name : Str} {args : List Value} {Q : Option Value → Shared → Prop} (X : K.In s.heap) (I : InstAt s.heap x ox C od) (hs : findIn K (.ref C) name = some (some (.ref f))) (hf : isFn K (.ref f) = true)
    (h : wpAny M A (call (.ref f) (.ref x :: args)) (fun v => Q (some v)) E s) : wpAny M A (callSpecial? (.ref x) name args) Q E s := by
  unfold callSpecial? specialOf
  refine wpAny_bind (wpAny_bind (I.type.here ((looks_findIn X hs).here ?_)))
  refine wpAny_holding ?_
  have fin : wpAny M A (call (.ref f) ([.ref x] ++ args) >>= fun v => pure (some v)) Q E s := wpAny_bind (wpAny_mono h (fun v s' h' => wpAny_pure h') fun _ _ h' => h')
  exact wpAny_bind ((bind_fn X _ (beq_iff_eq.mp hf)).here (by exact fin))
theorem len_K {Q : Value → Shared → Prop} (X : K.In s.heap) (I : InstAt s.heap x ox C od) (hs : findIn K (.ref C) "__len__" = some (some (.ref f))) (hf : isFn K (.ref f) = true)
    (hcall : wpAny (model prog w) A.in1 (call (.ref f) [.ref x]) (fun r s' => ∃ n u, r = .int n u ∧ 0 ≤ n ∧ n < 2 ^ 63 ∧ Q (.int n s'.toks) { s' with toks := s'.toks + 1 }) E s) :
    wpAny (model prog w) A (call (.builtin "len") [.ref x]) Q E s := by
  refine Calls.call_function_entry kind_len plain_len entry_len (args_len1 _) ?_
  unfold Builtin.«len»
  refine wpAny_bind (m := oneArg "len" _) (wpAny_pure ?_)
  refine wpAny_bind (m := callSpecial? (.ref x) (Str.ofString "__len__")) (special_K X I hs hf (wpAny_mono hcall (fun r s' hr => ?_) fun _ _ y => y))
  obtain ⟨n, u, rfl, h0, h1, hq⟩ := hr
  refine wpAny_bind (wpAny_holding (wpAny_pure ?_))
  refine wpAny_bind (wpAny_letGo ?_)
  show wpAny _ _ (if n < 0 then _ else _) _ _ _
  rw [if_neg (by omega)]
  show wpAny _ _ (if n ≥ 2 ^ 63 then _ else _) _ _ _
  rw [if_neg (by omega)]
  exact wpAny_bind (wpAny_mkInt (wpAny_pure ⟨_, rfl, hq⟩))
end
end KA
namespace KA
open PySem PySem.Spec PyProof.Rows L2
section
variable {X : Cx} {n : Nat} {CX : CXT} {C f : Addr} {fd : FuncData} {ps : List Str} {sp : Sp} {E : XK}
theorem run_selfI {A : Around} {pins : List (Addr × Obj)} {σ : L2.St} {H : Hp} {s : Shared} {a : Addr} {Q : Int → Hp → Prop} (F : FnOk X.prog X.w X.K X.mg X.base CX n f fd ps sp) (hb : Binds X.K fd ps []) (hx : Passes CX X E) (hr : Room n A) (hA : A.frames = X.A.frames) (I : L2.Inv X pins σ H s)
    (hsp : sp [.ref a] H (fun v H' => ∃ i : Int, v = .int i ∧ 0 ≤ i ∧ i < 2 ^ 63 ∧ Q i H') E) : wpAny (model X.prog X.w) A (call (.ref f) [.ref a]) (fun r s' => ∃ i u, r = .int i u ∧ 0 ≤ i ∧ i < 2 ^ 63 ∧ ∃ H', L2.Inv X pins σ H' s' ∧ Q i H') X.xe s := by
  have e0 : Env0 X.prog X.w X.K X.mg X.base A X.stack s H := by
    have e := I.env0
    exact ⟨by rw [hA]; exact e.frames, e.mod, e.bs, e.bsz, e.funs, e.frf, e.hok, e.bare⟩
  have hl := F.len _ _ _ _ hsp
  have r2 : Vals [V.ref a] [Value.ref a] := .cons rfl .nil
  refine wpAny_call (codeAny_mono (F.run A X.stack s H ⟨[.ref a], []⟩ [.ref a] [.ref a] _ E hr e0 (by
    have := hb s [.ref a] I.kIn (by simpa using hl)
    simpa using this) r2 hsp) fun r s' hq => ?_)
  cases r with
  | error e => exact hx pins σ H s e s' I hq
  | ok fl =>
    cases fl with
    | ret w =>
      obtain ⟨z, H', I', rz, i, ez, h0, h1, q⟩ := I.after hq
      subst ez
      obtain ⟨tk, rfl⟩ := (show ∃ t, w = Value.int i t from rz)
      exact ⟨i, tk, rfl, h0, h1, H', I', q⟩
    | next => exact False.elim hq
    | brk => exact False.elim hq
    | cont => exact False.elim hq
/-- len(x): x an instance of the class at C, whose own __len__ keeps sp -/
def rLenO (C : Addr) (sp : Sp) (E : XK) : List V → Hp → VK → Prop := fun xs H Q => ∃ (a dx : Addr) (fs : List (Str × V)), xs = [.ref a] ∧ H a = some (.ins C dx fs) ∧ sp [.ref a] H (fun v H' => ∃ i : Int, v = .int i ∧ 0 ≤ i ∧ i < 2 ^ 63 ∧ Q (.int i) H') E
theorem call_lenO (F : FnOk X.prog X.w X.K X.mg X.base CX n f fd ps sp) (hs : PySem.W.findIn X.K (.ref C) "__len__" = some (some (.ref f))) (hf : PySem.W.isFn X.K (.ref f) = true) (hb : Binds X.K fd ps []) (hx : Passes CX X E) (hr : Room (n + 1) X.A) :
    CallR X (.builtin "len") (rLenO C sp E) := by
  intro pins s σ H xs us Q I r h
  obtain ⟨a, dx, fs, rfl, ha, hsp⟩ := h
  obtain ⟨u, rfl, r1⟩ := vals1 r
  cases (show u = Value.ref a from r1)
  obtain ⟨mA, J, _⟩ := ins_get I.hok ha
  obtain ⟨od, J, _⟩ := J.look
  refine len_K I.kIn J hs hf (wpAny_mono (run_selfI (Q := fun i H' => Q (.int i) H') F hb hx hr.in1 rfl I hsp) (fun r s' hr => ?_) fun _ _ y => y)
  obtain ⟨i, tk, rfl, h0, h1, H', I', q⟩ := hr
  exact ⟨i, tk, rfl, h0, h1, .int i, H', I'.tok _, ⟨_, rfl⟩, q⟩
end
end KA
namespace KA
open PySem PySem.Spec PySem.W PyProof.Rows
section
variable {prog : Program} {w : World} {A : Around} {E : Value → Shared → Prop} {s : Shared} {K : Frag} {x C f : Addr} {ox : Obj} {od : Option Obj}
theorem len_bodyK {Q : Value → Shared → Prop} (X : K.In s.heap) (I : InstAt s.heap x ox C od) (hs : findIn K (.ref C) "__len__" = some (some (.ref f))) (hf : isFn K (.ref f) = true)
    (hcall : wpAny (model prog w) A (call (.ref f) [.ref x]) (fun r s' => ∃ n u, r = .int n u ∧ 0 ≤ n ∧ n < 2 ^ 63 ∧ Q (.int n s'.toks) { s' with toks := s'.toks + 1 }) E s) :
    wpAny (model prog w) A (Builtin.«len» ⟨[.ref x], []⟩) (fun fin s' => ∃ v, fin = .done (.ret v) ∧ Q v s') E s := by
  unfold Builtin.«len»
  refine wpAny_bind (m := oneArg "len" _) (wpAny_pure ?_)
  refine wpAny_bind (m := callSpecial? (.ref x) (Str.ofString "__len__")) (special_K X I hs hf (wpAny_mono hcall (fun r s' hr => ?_) fun _ _ y => y))
  obtain ⟨n, u, rfl, h0, h1, hq⟩ := hr
  refine wpAny_bind (wpAny_holding (wpAny_pure ?_))
  refine wpAny_bind (wpAny_letGo ?_)
  show wpAny _ _ (if n < 0 then _ else _) _ _ _
  rw [if_neg (by omega)]
  show wpAny _ _ (if n ≥ 2 ^ 63 then _ else _) _ _ _
  rw [if_neg (by omega)]
  exact wpAny_bind (wpAny_mkInt (wpAny_pure ⟨_, rfl, hq⟩))
theorem truth_K {Q : Bool → Shared → Prop} (X : K.In s.heap) (I : InstAt s.heap x ox C od) (hb : findIn K (.ref C) "__bool__" = some none) (hs : findIn K (.ref C) "__len__" = some (some (.ref f))) (hf : isFn K (.ref f) = true)
    (hcall : wpAny (model prog w) A.in1 (call (.ref f) [.ref x]) (fun r s' => ∃ n u, r = .int n u ∧ 0 ≤ n ∧ n < 2 ^ 63 ∧ Q (n != 0) { s' with toks := s'.toks + 1 }) E s) :
    wpAny (model prog w) A (truthy (.ref x)) Q E s := by
  have key : wpAny (model prog w) A (runValue (.builtin "len" ⟨[.ref x], []⟩)) (fun r s' => ∃ n u, r = .int n u ∧ Q (n != 0) s') E s := by
    refine wpAny_runValue (codeAny_builtin entry_len ?_)
    rw [Around.under_plainId plain_len _]
    refine wpAny_mono (len_bodyK (Q := fun r s' => ∃ n u, r = .int n u ∧ Q (n != 0) s') X I hs hf (wpAny_mono hcall (fun r s' hr => ?_) fun _ _ y => y)) (fun fin s' h' => ?_) fun _ _ e => e
    · obtain ⟨n, u, rfl, h0, h1, hq⟩ := hr
      exact ⟨n, u, rfl, h0, h1, n, _, rfl, hq⟩
    · obtain ⟨r, rfl, hq⟩ := h'
      exact hq
  unfold truthy
  first
    | refine wpAny_bind (DSub.special_no X I hb ?_)
    | refine wpAny_bind (wpAny_pure (wpAny_bind (DSub.special_no X I hb ?_)))
  first
    | refine wpAny_bind (wpAny_bind (I.type.here ((looks_findIn X hs).here ?_)))
    | refine wpAny_bind (wpAny_pure (wpAny_bind (wpAny_bind (I.type.here ((looks_findIn X hs).here ?_)))))
  first
    | exact wpAny_bind (wpAny_mono key (fun r s' h' => by obtain ⟨n, u, rfl, hq⟩ := h'; exact wpAny_pure hq) fun _ _ e => e)
    | exact wpAny_bind (wpAny_pure (wpAny_bind (wpAny_mono key (fun r s' h' => by obtain ⟨n, u, rfl, hq⟩ := h'; exact wpAny_pure hq) fun _ _ e => e)))
    | exact (0 : Nat)
theorem bool_K {Q : Value → Shared → Prop} (X : K.In s.heap) (I : InstAt s.heap x ox C od) (hb : findIn K (.ref C) "__bool__" = some none) (hs : findIn K (.ref C) "__len__" = some (some (.ref f))) (hf : isFn K (.ref f) = true)
    (hcall : wpAny (model prog w) A.in1.in1.in1 (call (.ref f) [.ref x]) (fun r s' => ∃ n u, r = .int n u ∧ 0 ≤ n ∧ n < 2 ^ 63 ∧ Q (.bool (n != 0)) { s' with toks := s'.toks + 1 }) E s) :
    wpAny (model prog w) A (call (.type "bool") [.ref x]) Q E s := by
  refine callType_codes (T := "bool") (Bi := Builtin.«object.__init__») (Q₁ := fun r s₁ => ∃ b, r = .bool b ∧ Q r s₁) PySem.F.called_bool (PySem.F.typeCall_bool_1 _) PySem.F.entry_object_init ?_ ?_
  · refine codeAny_of_tree ?_
    show wpAny _ A.in1.in1 (do checkBuiltinCall "bool.__new__" ⟨[.type "bool", .ref x], []⟩; again (.builtin "bool.__new__" ⟨[.type "bool", .ref x], []⟩)) _ _ s
    refine wpAny_bind (wpAny_of_eq (PySem.F.newCall_bool_1 _) (wpAny_pure ⟨plainId_quiet (by decide +kernel) _, codeAny_builtin PySem.F.entry_bool_new ?_⟩))
    rw [Around.under_plainId (by decide +kernel) _]
    unfold Builtin.«bool.__new__»
    dsimp only
    refine wpAny_bind (wpAny_of_eq (show isType (.type "bool") = pure true by first | rfl | kernel_rfl) ?_)
    simp only [Bool.not_true, Bool.false_eq_true, if_false]
    refine wpAny_bind (wpAny_of_eq PySem.F.conv_sub_bool ?_)
    simp only [Bool.not_true, Bool.false_eq_true, if_false]
    refine wpAny_bind (wpAny_of_eq (show someArgs "bool" 0 1 ⟨[.ref x], []⟩ = pure [.ref x] by first | rfl | kernel_rfl) ?_)
    dsimp only
    refine wpAny_bind (truth_K X I hb hs hf (wpAny_mono hcall (fun r s' hr => ?_) fun _ _ y => y))
    obtain ⟨n, u, rfl, h0, h1, hq⟩ := hr
    exact ⟨n, u, rfl, h0, h1, wpAny_pure ⟨_, rfl, hq⟩⟩
  · rintro obj s₁ ⟨b, rfl, hq⟩
    exact ⟨rfl, PySem.F.args_object_init_2 _ _, object_init_meets PySem.F.called_bool.init.lookup PySem.F.called_bool.made (by decide) prog w A.in1 _ s₁ ⟨rfl, rfl, hq⟩⟩
end
end KA
namespace KA
open PySem PySem.Spec PyProof.Rows L2
section
variable {X : Cx} {n : Nat} {CX : CXT} {C f : Addr} {fd : FuncData} {ps : List Str} {sp : Sp} {E : XK}
/-- bool(x): x an instance of the class at C without __bool__, whose own __len__ keeps sp -/
def rBoolO (C : Addr) (sp : Sp) (E : XK) : List V → Hp → VK → Prop := fun xs H Q => ∃ (a dx : Addr) (fs : List (Str × V)), xs = [.ref a] ∧ H a = some (.ins C dx fs) ∧ sp [.ref a] H (fun v H' => ∃ i : Int, v = .int i ∧ 0 ≤ i ∧ i < 2 ^ 63 ∧ Q (.bl (i != 0)) H') E
theorem call_boolO (F : FnOk X.prog X.w X.K X.mg X.base CX n f fd ps sp) (hb0 : PySem.W.findIn X.K (.ref C) "__bool__" = some none) (hs : PySem.W.findIn X.K (.ref C) "__len__" = some (some (.ref f))) (hf : PySem.W.isFn X.K (.ref f) = true) (hb : Binds X.K fd ps []) (hx : Passes CX X E) (hr : Room (n + 3) X.A) :
    CallR X (.type "bool") (rBoolO C sp E) := by
  intro pins s σ H xs us Q I r h
  obtain ⟨a, dx, fs, rfl, ha, hsp⟩ := h
  obtain ⟨u, rfl, r1⟩ := vals1 r
  cases (show u = Value.ref a from r1)
  obtain ⟨mA, J, _⟩ := ins_get I.hok ha
  obtain ⟨od, J, _⟩ := J.look
  refine bool_K I.kIn J hb0 hs hf (wpAny_mono (run_selfI (Q := fun i H' => Q (.bl (i != 0)) H') F hb hx hr.in1.in1.in1 rfl I hsp) (fun r s' hr => ?_) fun _ _ y => y)
  obtain ⟨i, tk, rfl, h0, h1, H', I', q⟩ := hr
  exact ⟨i, tk, rfl, h0, h1, .bl (i != 0), H', I'.tok _, rfl, q⟩
end
end KA
namespace KA
open PySem PySem.Spec PySem.W PyProof.Rows
section
variable {prog : Program} {w : World} {A : Around} {E : Value → Shared → Prop} {s : Shared} {K : Frag} {x C f : Addr} {ox : Obj} {od : Option Obj}
theorem robj_K {Q : Value → Shared → Prop} (hu : A.units < cLine) (X : K.In s.heap) (I : InstAt s.heap x ox C od) (hs : findIn K (.ref C) "__repr__" = some (some (.ref f))) (hf : isFn K (.ref f) = true)
    (hcall : wpAny (model prog w) A (call (.ref f) [.ref x]) (fun r s' => ∃ m tk, r = .str m tk ∧ Q (.str m tk) s') E s) :
    wpAny (model prog w) A (pyReprObj (.ref x)) Q E s := by
  unfold pyReprObj
  refine wpAny_bind (wpAny_cRoomFor hu ?_)
  refine wpAny_bind (wpAny_bind (I.type.here ((looks_findIn X hs).here ?_)))
  show wpAny _ _ (if (some (Value.ref f)).isNone = true then _ else _) _ _ _
  rw [if_neg (by simp)]
  refine wpAny_bind (m := callSpecialIfBound? (.ref x) (Str.ofString "__repr__") _) (ifBound_K X I hs hf (wpAny_mono hcall (fun r s' hr => ?_) fun _ _ y => y))
  obtain ⟨m, tk, rfl, hq⟩ := hr
  refine wpAny_bind (wpAny_isInstance (typeIs_str _ _ _) isSubtype_str_str ?_)
  first
    | exact wpAny_pure hq
    | (rw [if_pos rfl]; exact wpAny_pure hq)
    | (simp only [if_true]; exact wpAny_pure hq)
end
end KA
namespace KA
open PySem PySem.Spec PyProof.Rows L2
section
variable {X : Cx} {n : Nat} {CX : CXT} {C f : Addr} {fd : FuncData} {ps : List Str} {sp : Sp} {E : XK}
/-- {x!r}, x an instance of the class at C, whose own __repr__ keeps sp -/
def tFmtRO (C : Addr) (sp : Sp) (E : XK) (te : TE) : TE := fun σ H Q => te σ H fun x H1 => ∃ (a dx : Addr) (fs : List (Str × V)), x = .ref a ∧ H1 a = some (.ins C dx fs) ∧ sp [.ref a] H1 (fun v H' => (∃ m, v = .str m) ∧ (∃ m : Str, v = .str m ∧ m.length ≤ sizeLine) ∧ Q v H') E
theorem pe_fmtRO {e : Expr} {te : TE} {pos : Pos} (F : FnOk X.prog X.w X.K X.mg X.base CX n f fd ps sp) (hs : PySem.W.findIn X.K (.ref C) "__repr__" = some (some (.ref f))) (hf : PySem.W.isFn X.K (.ref f) = true) (hb : Binds X.K fd ps []) (hx : Passes CX X E) (hr : Room n X.A) (he : PE X e te) :
    PE X (.FormattedValue e 114 none pos) (tFmtRO C sp E te) := by
  refine ⟨fun pins s σ H Q I h => ?_⟩
  refine wpAny_FormattedValue_repr (thn (he.run pins s σ H _ I h) fun v s1 ⟨x, H1, I1, r1, k⟩ => ?_)
  obtain ⟨a, dx, fs, ex, ha, hsp⟩ := k
  cases ex
  cases (show v = Value.ref a from r1)
  obtain ⟨mA, J, _⟩ := ins_get I1.hok ha
  obtain ⟨od, J, _⟩ := J.look
  refine robj_K hr.units0 I1.kIn J hs hf (wpAny_mono (run_self F hb hx hr rfl I1 hsp) (fun r s' hr => ?_) fun _ _ y => y)
  obtain ⟨m, tk, rfl, v, H', I', rv, ⟨m', ev, hz⟩, q⟩ := hr
  subst ev
  obtain ⟨tk2, e⟩ := (show ∃ y, Value.str m tk = Value.str m' y from rv)
  cases e
  exact ⟨m, tk, rfl, wpAny_formatField_str ⟨.str m, H', I', ⟨_, rfl⟩, q⟩ ⟨.str m, H', I'.tok _, ⟨_, rfl⟩, q⟩ hz⟩
end
end KA
namespace KA
open PySem PySem.Spec PyProof.Rows L2
/-! defs that are called where nothing is being shown (no guard stands): within them lists and tuples are shown in full -/
structure FnG (P : Program) (w : World) (K : PySem.W.Frag) (mg : Str → Option Value) (base : Heap) (CX : CXT) (k : Nat) (f : Addr) (fd : FuncData) (ps : List Str) (sp : Sp) : Prop where
  ln : ∀ vs H Q E, sp vs H Q E → vs.length = ps.length
  go : ∀ (A : Around) (st : List Env) (s : Shared) (H : Hp) (gs : Args) (us : List Value) (vs : List V) (Q : VK) (E : XK), Room k A → A.guards = some [] → Env0 P w K mg base A st s H → BindsTo s fd gs (ps.zip us) → Vals vs us → sp vs H Q E →
    codeAny (model P w) A (.call (.ref f) gs) (CR CX st P w H s Q E) s
section
variable {P : Program} {w : World} {K : PySem.W.Frag} {mg : Str → Option Value} {base : Heap} {CX : CXT} {k : Nat} {f : Addr} {fd : FuncData} {ps : List Str} {sp : Sp}
theorem fng_any (F : FnOk P w K mg base CX k f fd ps sp) : FnG P w K mg base CX k f fd ps sp := ⟨F.len, fun A st s H gs us vs Q E rm _ en bd vl hs => F.run A st s H gs us vs Q E rm en bd vl hs⟩
theorem FnG.mono {j : Nat} (F : FnG P w K mg base CX j f fd ps sp) (h : j ≤ k) : FnG P w K mg base CX k f fd ps sp := ⟨F.ln, fun A st s H gs us vs Q E rm => F.go A st s H gs us vs Q E (rm.mono h)⟩
/-- a def by its body, where no guard stands -/
theorem fng_of {name qual : Str} {params : Arguments} {body : List Stmt} {scope : Scope} {dV kV doc pm cdv ct oc : Value} {an od : Option Addr} {osl : Array (Option Value)} {N : List Str}
    (at_ : K.lookup f = some ⟨oc, od, .func (PySem.W.fnOf name qual params body scope dV kV doc pm an cdv ct), osl⟩) (cd : PySem.W.codeIn K cdv qual = true) (sc : FnScope N ps scope) (ln : ∀ vs H Q E, sp vs H Q E → vs.length = ps.length)
    (bd : ∀ (A : Around) (st : List Env) (s : Shared) (H : Hp) (vs : List V) (Q : VK) (E : XK), Room k (A.deeper (envOfC qual scope s.heap.objs.size f cdv)) → (A.deeper (envOfC qual scope s.heap.objs.size f cdv)).guards = some [] → sp vs H Q E →
      ∃ t, PSs (cxOf CX P w K mg base N qual scope f cdv A st s H E) body t ∧ t { nx := fun _ G => Q .non G, rt := Q } (L2.start N vs) H) :
    FnG P w K mg base CX (k + 1) f (PySem.W.fnOf name qual params body scope dV kV doc pm an cdv ct) ps sp := by
  refine ⟨ln, fun A st s H gs us vs Q E rm gd en bi vl hs => ?_⟩
  have inK : K.In s.heap := en.mod.kin.keeps fun b o z => (en.bs b o z).1
  have noL : s.heap.NoLimit := en.mod.nolimit.keeps fun b o z => (en.bs b o z).1
  have kd : ∀ y ∈ ps.zip us, scope.names.lookup y.1 = some .local ∨ (scope.names.lookup y.1 = some .cell ∧ ((cellsFrom (s.heap.objs.size + 1) scope.names []).lookup y.1).isSome = true) := by
    rintro ⟨n, v⟩ hy
    exact (sc.par n (List.of_mem_zip hy).1).imp id fun z => ⟨z, PySem.W.cellsFrom_some _ _ _ (.inl z)⟩
  refine codeAny_call_function rm.depth (inK _ _ at_) rfl sc.co sc.gen rfl (PySem.W.codeRec_of inK cd) (bi _ _ _ _ (wpAny_newFunctionEnv_cells sc.kind kd ?_))
  rintro env rfl s1 x
  refine ⟨noL.keeps x.toInCall.keep, codeAny_func ?_⟩
  obtain ⟨t, pt, rd⟩ := bd A st s H vs Q E (rm.deeper _) gd hs
  refine wpAny_mono (pt.run [] s1 (L2.start N vs) H _ (inv_start sc rm.hd en (ln _ _ _ _ hs) vl x) rd) (fun fl s2 z => ?_) fun _ _ z => z
  cases fl with
  | ret u =>
    obtain ⟨v, σ2, G, J, rv, q⟩ := z
    exact ⟨v, G, J.os, J.bare, J.base, J.hok, rv, q⟩
  | next =>
    obtain ⟨σ2, G, J, q⟩ := z
    exact ⟨.non, G, J.os, J.bare, J.base, J.hok, rfl, q⟩
  | brk =>
    obtain ⟨_, _, _, q⟩ := z
    exact q.elim
  | cont =>
    obtain ⟨_, _, _, q⟩ := z
    exact q.elim
end
theorem fun_okG {P : Program} {w : World} {K : PySem.W.Frag} {mg : Str → Option Value} {base : Heap} {x qual : Str} {st : Stmt} {f : Addr} {fd : FuncData} {N ps : List Str} {k : Nat} {sp : Sp} (F : Fun K x qual st f fd) (sc : FnScope N ps (defScope st)) (ln : ∀ vs H Q E, sp vs H Q E → vs.length = ps.length)
    (bd : ∀ (cdv : Value) (A : Around) (outer : List Env) (s : Shared) (H : Hp) (vs : List V) (Q : VK) (E : XK), Room k (A.deeper (envOfC qual (defScope st) s.heap.objs.size f cdv)) → (A.deeper (envOfC qual (defScope st) s.heap.objs.size f cdv)).guards = some [] → sp vs H Q E →
      ∃ t, PSs (cxOf CX0 P w K mg base N qual (defScope st) f cdv A outer s H E).nox (defBody st) t ∧ t { nx := fun _ G => Q .non G, rt := Q } (L2.start N vs) H) : FnG P w K mg base CX0 (k + 1) f fd ps sp := by
  obtain ⟨oc, od, kV, doc, pm, an, cdv, ct, osl, rfl, lk, hcd⟩ := F.ex
  refine fng_of lk hcd sc ln fun A outer s H vs Q E rm gd hs => ?_
  obtain ⟨t, h, q⟩ := bd cdv A outer s H vs Q E rm gd hs
  exact ⟨t, h.nox, q⟩
section
variable {X : Cx} {CX : CXT} {k : Nat} {f C : Addr} {fd : FuncData} {ps : List Str} {ds : List Value} {dvs : List V} {sp : Sp} {E : XK} {x m : Str} {p pos apos : Pos} {e o : Expr} {es : List Expr} {t : TA} {ta : TE}
theorem run_G {pins : List (Addr × Obj)} {σ : L2.St} {H : Hp} {s : Shared} {Q : VK} {us : List Value} {vs : List V} (F : FnG X.prog X.w X.K X.mg X.base CX k f fd ps sp) (rm : Room k X.A) (gd : X.A.guards = some []) (hb : Binds X.K fd ps ds) (hd : Vals dvs ds) (hx : Passes CX X E)
    (I : Inv X pins σ H s) (r : Vals vs us) (h : sp (vs ++ dvs) H Q E) : wpAny (model X.prog X.w) X.A (call (.ref f) us) (EP X pins σ Q) X.xe s := by
  have all := r.append hd
  refine wpAny_call (codeAny_mono (F.go X.A X.stack s H ⟨us, []⟩ (us ++ ds) (vs ++ dvs) Q E rm gd I.env0 (hb s us I.kIn (all.length.symm.trans (F.ln _ _ _ _ h))) all h) fun r s2 z => ?_)
  match r, z with
  | .error er, z => exact hx pins σ H s er s2 I z
  | .ok (.ret u), z => exact I.after z
  | .ok .next, z => exact z.elim
  | .ok .brk, z => exact z.elim
  | .ok .cont, z => exact z.elim
theorem pe_callG (F : FnG X.prog X.w X.K X.mg X.base CX k f fd ps sp) (rm : Room k X.A) (gd : X.A.guards = some []) (hg : Gl X x) (hm : X.mg x = some (.ref f)) (hk : PySem.W.keepIn X.K (.ref f) = true) (hb : Binds X.K fd ps ds) (hd : Vals dvs ds) (hx : Passes CX X E)
    (ha : PA X (e :: es) t) (db : (x == ("__debug__" : Str)) = false := by decide) (he : starEach (e :: es) X.env = (false, eval e X.env) :: starEach es X.env := by rfl) (hpl : (backTo pos (starEach es X.env)).any (·.1) = false := by rfl) :
    PE X (.Call (.Name x p) (e :: es) [] pos) (tCall sp dvs E t) :=
  ⟨fun pins s σ H Q I h => wpAny_Call_Name_kw (ld_glob I hg hm (PySem.W.callWith_K (h₀ := X.base) I.ok.mod.kin hk (thn (ha.run pos pins s σ H _ I h) fun _ _ ⟨_, _, I1, r, q⟩ => ⟨I1.kIn, run_G F rm gd hb hd hx I1 r q⟩) he hpl) db)⟩
theorem pe_meth0G {pl : Sem Bool} (he : PE X o ta) (c : Cls X.K C) (hm : Meth X.K C m f) (F : FnG X.prog X.w X.K X.mg X.base CX k f fd ps sp) (rm : Room k X.A) (gd : X.A.guards = some []) (hb : Binds X.K fd ps ds) (hd : Vals dvs ds) (hx : Passes CX X E)
    (ht : eval (.Call (.Attribute o m apos) [] [] pos) X.env = (do
      let w ← eval o X.env
      standAt apos.atName
      let (g, fst) ← holding [w] (getMethod w m pl)
      callWith pos g fst (backTo pos (starEach [] X.env)) (backToKw pos (keywordEach [] X.env))) := by rfl) :
    PE X (.Call (.Attribute o m apos) [] [] pos) (tMeth C m sp dvs E ta tNil) := by
  constructor
  intro pins s σ H Q I h
  refine PySem.W.methodCall_KW (pl := pl) (thn (he.run pins s σ H _ I h) fun u s1 ⟨x, H1, I1, rx, a, dx, fs, ex, ea, lk, q⟩ => ?_) ht
  subst ex
  cases rx
  exact getmeth_ok I1 ea c hm lk (PySem.W.callWith_K0 (first := [.ref a]) I1.kIn hm.kp (run_G (us := [.ref a]) (vs := [.ref a]) F rm gd hb hd hx I1 (.cons rfl .nil) q))
end
/-! repr of data -/
section
variable {X : Cx}
def rReprD (K : PySem.W.Frag) : List V → Hp → VK → Prop := fun xs H Q => ∃ (a : Addr) (d : PyData), xs = [.ref a] ∧ Dp K H (.ref a) d ∧ PyData.showable d = true ∧ d.hasDict = false ∧ d.depth ≤ 32 ∧ d.shown.length ≤ sizeLine ∧ Q (.str d.shown) H
theorem call_reprD (gd : X.A.guards = some []) (hu : X.A.units + 64 < cLine) : CallR X (.builtin "repr") (rReprD X.K) := by
  intro pins s σ H xs us Q I r h
  obtain ⟨a, d, ex, hd, hs, hn, hde, hz, q⟩ := h
  subst ex
  cases r with
  | cons r1 r2 =>
    cases r2
    cases r1
    obtain ⟨as, rd⟩ := Dp.reads I d _ _ hd rfl
    exact repr_of_reads' rd hs (fun z => by rw [hn] at z; cases z) gd (by omega) (fun _ _ z => z) (fun g u tk kp => ⟨.str d.shown, H, I.kept (t' := tk) kp, ⟨u, rfl⟩, q⟩) hz
end
/-! the law itself: it is called where no guard stands -/
section
variable {P : Program} {w : World} {K : PySem.W.Frag} {mg mb : Str → Option Value} {CX : CXT} {k : Nat} {fa a : Addr} {fd : FuncData} {x : Str} {sp : Sp} {s1 : Shared} {vs : List Value} {ns : List Int}
/-- .. from a heap of which the script alone may be told -/
theorem law_from {H : Hp} (inK : K.In s1.heap) (gl : s1.heap.Ns mainGlobals mg) (bl : s1.heap.Ns builtinsNs mb) (bb : ∀ y : Str, y ≠ "__name__" → mb y = bootBuiltins y) (nolim : s1.heap.NoLimit) (nog : s1.gens = #[])
    (isl : ∀ b u, H b = some u → (∃ vs' n, ∀ o, s1.heap.get? b = some o → o.data = .seq vs' n) ∧ K.lookup b = none) (frz : ∀ b u, H b = some u → ∃ o ys, u = .frz o (.lst ys)) (rm : Room k callerA)
    (F : ∀ base : Heap, K.In base → base.Ns mainGlobals mg → FnG P w K mg base CX k fa fd [x] sp) (bi : ∀ (s : Shared) (u : Value), BindsTo s fd ⟨[u], []⟩ [(x, u)]) (ok : HOk P w H s1.heap)
    (pr : sp [.ref a] H (fun v _ => v = .bl true) fun _ _ _ => False) (nox : ∀ e s2, CX [] H s1 (fun _ _ _ => False) e s2 → False) :
    codeAny (model P w) callerA (.call (.ref fa) ⟨[.ref a], []⟩) (fun r s2 => r = .ok (.ret (.bool true)) ∧ OldK s1.heap s2.heap ∧ s2.os = s1.os ∧ AllBare s2.gens) s1 := by
  have sees : ∀ {b : Addr} {o : Obj}, s1.heap.get? b = some o → H b = none → (hidT s1.heap H).get? b = some o := fun z n => hidT_get z n
  have dicts : ∀ {b : Addr} {mm : Str → Option Value}, s1.heap.Ns b mm → (hidT s1.heap H).Ns b mm := by
    rintro b mm ⟨o, es, ep, z, dt, rest⟩
    refine ⟨o, es, ep, sees z ?_, dt, rest⟩
    cases hb : H b with
    | none => rfl
    | some u =>
      obtain ⟨⟨vs', n, is⟩, _⟩ := isl b u hb
      have := (is o z).symm.trans dt
      cases this
  have inB : K.In (hidT s1.heap H) := fun b o z => sees (inK b o z) (by
    cases hb : H b with
    | none => rfl
    | some u =>
      rw [(isl b u hb).2] at z
      cases z)
  have md : Mod K mg (hidT s1.heap H) := by
    obtain ⟨mc, n1, n2⟩ := nolim
    exact ⟨inB, dicts gl, ⟨mb, dicts bl, bb⟩, mc, dicts n1, n2⟩
  have en : Env0 P w K mg (hidT s1.heap H) callerA [] s1 H := ⟨rfl, md, fun b o z => of_hidT z, Nat.le_of_eq (hidT_size _ _), trivial, fun b z => (nomatch (show b ∈ ([] : List Addr) from z)), ok, .of_eq nog⟩
  refine codeAny_mono ((F _ inB (dicts gl)).go callerA [] s1 H ⟨[.ref a], []⟩ [.ref a] [.ref a] _ _ rm rfl en (bi s1 (.ref a)) (.cons rfl .nil) pr) fun r s2 z => ?_
  match r, z with
  | .error er, z => exact (nox er s2 z).elim
  | .ok .next, z => exact z.elim
  | .ok .brk, z => exact z.elim
  | .ok .cont, z => exact z.elim
  | .ok (.ret u), z =>
    obtain ⟨v, G, eos, bare, un, ok2, rel, ev⟩ := z
    have ev : v = .bl true := ev
    subst ev
    obtain rfl : u = Value.bool true := rel
    refine ⟨rfl, OldK.of_keep fun b o hb => ?_, eos, bare⟩
    cases hH : H b with
    | none => exact un.keep b o hb hH (fun z => (nomatch (show b ∈ ([] : List Addr) from z))) (by simp)
    | some u =>
      obtain ⟨ob, ys, rfl⟩ := frz b u hH
      have now := (ok2 b _ (un.frzs b ob _ hH)).1
      have was := (ok b _ hH).1
      exact (Option.some.inj (hb.symm.trans was)) ▸ now
theorem law_callG (inK : K.In s1.heap) (gl : s1.heap.Ns mainGlobals mg) (bl : s1.heap.Ns builtinsNs mb) (bb : ∀ y : Str, y ≠ "__name__" → mb y = bootBuiltins y) (nolim : s1.heap.NoLimit) (nog : s1.gens = #[])
    (ha : s1.heap.get? a = some { cls := .type "list", data := .seq vs.toArray }) (hi : IntsAre vs ns) (hl : ns.length ≤ sizeLine) (rm : Room k callerA)
    (F : ∀ base : Heap, K.In base → base.Ns mainGlobals mg → FnG P w K mg base CX k fa fd [x] sp) (bi : ∀ (s : Shared) (u : Value), BindsTo s fd ⟨[u], []⟩ [(x, u)])
    (pr : ∀ H : Hp, Only H → SqL K H a (ns.map V.int) → sp [.ref a] H (fun v _ => v = .bl true) fun _ _ _ => False) (nox : ∀ H e s2, CX [] H s1 (fun _ _ _ => False) e s2 → False) :
    codeAny (model P w) callerA (.call (.ref fa) ⟨[.ref a], []⟩) (fun r s2 => r = .ok (.ret (.bool true)) ∧ OldK s1.heap s2.heap ∧ s2.os = s1.os ∧ AllBare s2.gens) s1 := by
  have rel := vals_ints hi
  cases own : K.lookup a with
  | some o =>
    obtain rfl := Option.some.inj (ha.symm.trans (inK a o own))
    have no : ∀ {p : Prop} {u : HO}, (none : Option HO) = some u → p := fun z => nomatch z
    exact law_from (H := fun _ => none) inK gl bl bb nolim nog (fun b u z => no z) (fun b u z => no z) rm F bi (fun b u z => no z) (pr _ (fun _ => .inl rfl) (.inr ⟨_, vs.toArray, _, own, rfl, rfl, rfl, by rw [List.size_toArray, hi.length]; exact hl, by simpa using rel⟩)) (nox _)
  | none =>
    have one : ∀ {b : Addr} {u : HO}, (fun b => if b = a then some (.frz { cls := .type "list", data := .seq vs.toArray } (.lst (ns.map V.int))) else none : Hp) b = some u → b = a ∧ u = .frz { cls := .type "list", data := .seq vs.toArray } (.lst (ns.map V.int)) := fun {b u} z => by
      by_cases hb : b = a
      · exact ⟨hb, (Option.some.inj ((if_pos hb).symm.trans z)).symm⟩
      · exact nomatch (if_neg hb).symm.trans z
    refine law_from (H := fun b => if b = a then some (.frz { cls := .type "list", data := .seq vs.toArray } (.lst (ns.map V.int))) else none) inK gl bl bb nolim nog (fun b u z => ?_) (fun b u z => ⟨_, _, (one z).2⟩) rm F bi (fun b u z => ?_) (pr _ (fun b => ?_) (.inl (.inr ⟨_, if_pos rfl⟩))) (nox _)
    · obtain ⟨rfl, _⟩ := one z
      exact ⟨⟨_, _, fun o ho => by rw [← Option.some.inj (ha.symm.trans ho)]⟩, own⟩
    · obtain ⟨rfl, rfl⟩ := one z
      exact ⟨ha, by rw [List.length_map]; exact hl, vs, _, rel, ha⟩
    · by_cases hb : b = a
      · exact .inr ⟨_, _, if_pos hb⟩
      · exact .inl (if_neg hb)
end
theorem walk_G {l : PySem.W.OpenLaw} {n k : Nat} {q : Program} {loose : List Str} {XP : (Str → Option Value) → Heap → Prop} {YP : World → Heap → Prop} {d : DefRec} {K : Params → PySem.W.Frag} {CX : World → CXT} {sp : World → Sp} {x : Str}
    (hn : l.most = some n) (hn2 : n ≤ sizeLine) (hdf : d.params.defaults = []) (rm : Room k callerA) (hY : ∀ (w : World) (h : Heap), YP w h → (K w.params).In h)
    (F : ∀ (w : World) (mg : Str → Option Value) (fa : Addr) (h : Heap), (K w.params).In h → h.Ns mainGlobals mg → mg d.name = some (.ref fa) → ∃ fd : FuncData, (∀ (s : Shared) (u : Value), BindsTo s fd ⟨[u], []⟩ [(x, u)]) ∧ ∀ base : Heap, (K w.params).In base → base.Ns mainGlobals mg → FnG l.prog w (K w.params) mg base (CX w) k fa fd [x] (sp w))
    (pr : ∀ (w : World) (H : Hp) (a : Addr) (ns : List Int), ns.length ≤ n → Only H → SqL (K w.params) H a (ns.map V.int) → sp w [.ref a] H (fun v _ => v = .bl true) fun _ _ _ => False)
    (nox : ∀ (w : World) (H : Hp) (s : Shared) (e : Value) (s2 : Shared), CX w [] H s (fun _ _ _ => False) e s2 → False) : PySem.W.WalkO q loose XP YP l.row.toRowW d [] (fun f vs => PySem.call f vs) :=
  Att.attach_call hn hdf fun w _ s1 mg _ fa _ _ _ _ a _ ns G Y _ _ _ hmg hobj hints hlen hg => by
    obtain ⟨fd, hb, hF⟩ := F w mg fa _ (hY w _ Y) G.T.g hmg
    exact law_callG (hY w _ Y) G.T.g G.T.b G.T.builtins G.T.nolimit hg hobj hints (Nat.le_trans hlen hn2) rm hF hb (fun H hO hS => pr w H a ns hlen hO hS) fun H e s2 => nox w H s1 e s2
end KA
namespace KA
open PySem PySem.Spec PyProof.Rows L2
section
variable {X : Cx} {n : Nat} {CX : CXT} {C f : Addr} {fd : FuncData} {ps : List Str} {sp : Sp} {E : XK}
theorem run_selfG {A : Around} {pins : List (Addr × Obj)} {σ : L2.St} {H : Hp} {s : Shared} {a : Addr} {Q : VK} (F : FnG X.prog X.w X.K X.mg X.base CX n f fd ps sp) (hb : Binds X.K fd ps []) (hx : Passes CX X E) (hr : Room n A) (gd : A.guards = some []) (hA : A.frames = X.A.frames) (I : L2.Inv X pins σ H s)
    (hsp : sp [.ref a] H (fun v H' => (∃ m, v = .str m) ∧ Q v H') E) : wpAny (model X.prog X.w) A (call (.ref f) [.ref a]) (fun r s' => ∃ m tk, r = .str m tk ∧ EP X pins σ Q (.str m tk) s') X.xe s := by
  have e0 : Env0 X.prog X.w X.K X.mg X.base A X.stack s H := by
    have e := I.env0
    exact ⟨by rw [hA]; exact e.frames, e.mod, e.bs, e.bsz, e.funs, e.frf, e.hok, e.bare⟩
  have hl := F.ln _ _ _ _ hsp
  have r2 : Vals [V.ref a] [Value.ref a] := .cons rfl .nil
  refine wpAny_call (codeAny_mono (F.go A X.stack s H ⟨[.ref a], []⟩ [.ref a] [.ref a] _ E hr gd e0 (by
    have := hb s [.ref a] I.kIn (by simpa using hl)
    simpa using this) r2 hsp) fun r s' hq => ?_)
  cases r with
  | error e => exact hx pins σ H s e s' I hq
  | ok fl =>
    cases fl with
    | ret w =>
      obtain ⟨z, H', I', rz, ⟨m, ez⟩, q⟩ := I.after hq
      subst ez
      obtain ⟨tk, rfl⟩ := (show ∃ t, w = Value.str m t from rz)
      exact ⟨m, tk, rfl, .str m, H', I', ⟨tk, rfl⟩, q⟩
    | next => exact False.elim hq
    | brk => exact False.elim hq
    | cont => exact False.elim hq
/-- repr(x), x of an own class whose __repr__ wants that nothing is being shown -/
theorem call_reprOG (F : FnG X.prog X.w X.K X.mg X.base CX n f fd ps sp) (hs : PySem.W.findIn X.K (.ref C) "__repr__" = some (some (.ref f))) (hf : PySem.W.isFn X.K (.ref f) = true) (hb : Binds X.K fd ps []) (hx : Passes CX X E) (hr : Room (n + 1) X.A) (gd : X.A.guards = some []) :
    CallR X (.builtin "repr") (rShow C sp E) := by
  intro pins s σ H xs us Q I r h
  obtain ⟨a, dx, fs, rfl, ha, hsp⟩ := h
  obtain ⟨u, rfl, r1⟩ := vals1 r
  cases (show u = Value.ref a from r1)
  obtain ⟨mA, J, _⟩ := ins_get I.hok ha
  obtain ⟨od, J, _⟩ := J.look
  exact repr_K hr.in1.units0 I.kIn J hs hf (run_selfG F hb hx hr.in1 gd rfl I hsp)
end
end KA
namespace KA
open PySem PySem.Spec PyProof.Rows L2
theorem cut_full {xs : List V} {lo hi : Option Int} (h : HT.sIx xs.length 0 lo = 0 ∧ HT.sIx xs.length xs.length hi = xs.length) : cutV xs lo hi = xs := by
  unfold cutV
  rw [h.1, h.2, List.drop_zero, Nat.sub_zero, List.take_of_length_le (Nat.le_refl _)]
/-- a part of a tuple, whichever -/
theorem sla_of {K : PySem.W.Frag} {a : Addr} {xs : List V} {lo hi : Option Int} {H : Hp} {Q : VK} (ha : H a = some (.tup xs)) (q : ∀ (H' : Hp) (p : Addr), Same H H' → H' p = some (.tup (cutV xs lo hi)) → Q (.ref p) H') : rSlA K (.ref a) lo hi H Q := by
  refine ⟨a, xs, rfl, .inl (.inl ha), fun h => q H a (Same.refl _) (by rw [cut_full h]; exact ha), fun _ p hp => q _ p (same_upd hp) upd_same⟩
/-- two tuples put together, whichever -/
theorem cata_of {K : PySem.W.Frag} {a b : Addr} {xs ys : List V} {H : Hp} {Q : VK} (ha : H a = some (.tup xs)) (hb : H b = some (.tup ys)) (hl : xs.length + ys.length ≤ sizeLine) (q : ∀ (H' : Hp) (p : Addr), Same H H' → H' p = some (.tup (xs ++ ys)) → Q (.ref p) H') : rCatA K (.ref a) (.ref b) H Q := by
  refine ⟨a, b, xs, ys, rfl, rfl, .inl (.inl ha), .inl (.inl hb), hl, fun h => ?_, fun _ h => ?_, fun _ _ p hp => q _ p (same_upd hp) upd_same⟩
  · subst h
    exact q H b (Same.refl _) hb
  · subst h
    exact q H a (Same.refl _) (by rw [List.append_nil]; exact ha)
/-- .. of a tuple wherever it stands -/
theorem sla_T {K : PySem.W.Frag} {a : Addr} {xs : List V} {lo hi : Option Int} {H : Hp} {Q : VK} (ha : SqT K H a xs) (q : ∀ (H' : Hp) (p : Addr), Same H H' → SqT K H' p (cutV xs lo hi) → Q (.ref p) H') : rSlA K (.ref a) lo hi H Q := by
  refine ⟨a, xs, rfl, ha, fun h => q H a (Same.refl _) (by rw [cut_full h]; exact ha), fun _ p hp => q _ p (same_upd hp) (.inl (.inl upd_same))⟩
theorem cata_T {K : PySem.W.Frag} {a b : Addr} {xs ys : List V} {H : Hp} {Q : VK} (ha : SqT K H a xs) (hb : SqT K H b ys) (hl : xs.length + ys.length ≤ sizeLine) (q : ∀ (H' : Hp) (p : Addr), Same H H' → SqT K H' p (xs ++ ys) → Q (.ref p) H') : rCatA K (.ref a) (.ref b) H Q := by
  refine ⟨a, b, xs, ys, rfl, rfl, ha, hb, hl, fun h => ?_, fun _ h => ?_, fun _ _ p hp => q _ p (same_upd hp) (.inl (.inl upd_same))⟩
  · subst h
    exact q H b (Same.refl _) hb
  · subst h
    exact q H a (Same.refl _) (by rw [List.append_nil]; exact ha)
end KA
namespace KA
open PySem PySem.Spec PyProof.Rows L2
/-! enumerate over a tuple -/
theorem meets_enumT {v : Value} {o1 : Obj} {P1 : Heap → Prop} (Bg : Begins v o1 P1) :
    Meets (Builtin.«enumerate.__new__» ⟨[.type "enumerate", v], []⟩) (fun _ R s0 => P1 s0.heap ∧
      R (.ok (.ret (.ref (s0.heap.push o1).objs.size))) { s0 with heap := (s0.heap.push o1).push { cls := .type "enumerate", data := .fields #[.none, .bool false, .ref s0.heap.objs.size, rawInt 0, .none, .none] } }) :=
  .of_wp fun prog w A R s0 hyp => by
    obtain ⟨hp, gg, dd, tk, os⟩ := s0
    obtain ⟨hb, fin⟩ := hyp
    have hsub := sub_enumerate
    have go : ∀ {A' : Around} {E : Value → Shared → Prop} {Q : Value → Shared → Prop}, Q (.ref hp.objs.size) ⟨hp.push o1, gg, dd, tk, os⟩ → wpAny (model prog w) A' (pyIter v) Q E ⟨hp, gg, dd, tk, os⟩ := fun z => Bg.iter prog w _ _ ⟨hp, gg, dd, tk, os⟩ _ hb z
    wp_walk using go
    refine wpAny_stack_any fun _ => wpAny_pure ?_
    split
    · rename_i c _ _ _ _ _
      cases (c == Value.type "enumerate") <;> (wp_walk using go; exact ⟨_, rfl, fin⟩)
    · wp_walk using go
      exact ⟨_, rfl, fin⟩
section
variable {prog : Program} {w : World} {A : Around} {E : Value → Shared → Prop} {s : Shared}
theorem call_enumT {v : Value} {o1 : Obj} {P1 : Heap → Prop} {Q : Value → Shared → Prop} (Bg : Begins v o1 P1) (hb : P1 s.heap)
    (fin : ∀ g, IsEnum g (s.heap.objs.size + 1) s.heap.objs.size 0 .none → g.get? s.heap.objs.size = some o1 → (∀ b ob, s.heap.get? b = some ob → g.get? b = some ob) → Q (.ref (s.heap.objs.size + 1)) { s with heap := g }) :
    wpAny (model prog w) A (call (.type "enumerate") [v]) Q E s := by
  refine callType_new F.called_enumerate (by decide) (F.typeCall_enumerate_1 _) (F.newCall_enumerate_1 _) (fun ob => F.args_object_init_2 ob _) F.entry_enumerate_new (meets_enumT Bg) ⟨hb, ?_⟩
  have sz1 : (s.heap.push o1).objs.size = s.heap.objs.size + 1 := Heap.size_push ..
  show _ ∧ _
  rw [sz1]
  have isE : IsEnum ((s.heap.push o1).push { cls := .type "enumerate", data := .fields #[.none, .bool false, .ref s.heap.objs.size, rawInt 0, .none, .none] }) (s.heap.objs.size + 1) s.heap.objs.size 0 .none := by
    have z := Heap.get?_push_size (s.heap.push o1) (o := { cls := .type "enumerate", data := .fields #[.none, .bool false, .ref s.heap.objs.size, rawInt 0, .none, .none] }) rfl
    rwa [sz1] at z
  exact ⟨⟨_, isE, rfl⟩, fin _ isE (Heap.get?_push_of_some _ (Heap.get?_push_size _ Bg.free)) fun b ob z => Heap.get?_push_of_some _ (Heap.get?_push_of_some _ z)⟩
theorem enumT_end {en it a : Addr} {i : Nat} {its : List Value} {old : Value} {Q : Option Value → Shared → Prop} (nh : A.handled = none) (isE : IsEnum s.heap en it i old) (isT : s.heap.IsTupleIter it a i) (tp : s.heap.IsTuple a its.toArray) (le : its.length ≤ i)
    (fin : ∀ g, Heap.ExtBut it s.heap g → Q none { s with heap := g }) : wpAny (model prog w) A (pyNext (.ref en)) Q E s := by
  have ty : s.TypeIs (.ref en) "enumerate" := ⟨_, isE, rfl⟩
  unfold pyNext
  refine wpAny_bind (wpAny_attempt (wpAny_callSpecial?_slot (name := Str.ofString "__next__") ty F.slot_enumerate_next (wpAny_call_entry F.slot_enumerate_next ty F.entry_enumerate_next ?_ (F.args_enumerate_next_1 _))))
  show wpAny _ _ (field (.ref en) 2 >>= _) _ _ _
  refine wpAny_bind (wpAny_field isE rfl (x := .ref it) rfl (wpAny_bind (wpAny_nextOf_tuple_end nh isT tp (by simp; omega) fun g z eb ⟨o, ho, co⟩ => ?_)))
  exact wpAny_bind (wpAny_isInstance (T := "StopIteration") (b := true) ⟨o, ho, co⟩ isSubtype_stop (wpAny_pure (fin _ eb)))
end
/-- the tuple at a, each item in a new pair -/
def IteT (K : PySem.W.Frag) (a : Addr) : It :=
  ⟨fun i H => ∃ (xs : List V) (x : V), SqT K H a xs ∧ xs[i]? = some x, fun i H v G => ∃ T x, v = .ref T ∧ H T = none ∧ G = upd H T (.tup [.int (i : Nat), x]) ∧ ∀ xs, SqT K H a xs → xs[i]? = some x, fun i H => ∃ xs : List V, SqT K H a xs ∧ xs.length ≤ i⟩
theorem tup_no_iter {h : Heap} {a it : Addr} {i : Nat} {b : Addr} {its : Array Value} (hi : h.IsTupleIter it b i) (ht : h.IsTuple a its) : a ≠ it := fun e => by
  obtain ⟨o, h1, c1, _⟩ := hi
  obtain ⟨o', h2, c2, _⟩ := ht
  rw [e] at h2
  rw [Option.some.inj (h1.symm.trans h2)] at c1
  exact absurd (c1.symm.trans c2) (by decide)
theorem tup_no_enum {h : Heap} {a en it : Addr} {i : Int} {old : Value} {its : Array Value} (hi : IsEnum h en it i old) (ht : h.IsTuple a its) : en ≠ a := fun e => by
  obtain ⟨o', h2, c2, _⟩ := ht
  have h1 : h.get? en = _ := hi
  rw [← e] at h2
  rw [← Option.some.inj (h1.symm.trans h2)] at c2
  exact absurd (show Value.type "enumerate" = Value.type "tuple" from c2) (by decide)
theorem turn_enumT {P : Program} {w : World} {K : PySem.W.Frag} {elts : List Expr} {kk : Nat} {tp : Pos} (a en it : Addr) :
    Turn P w K (.Tuple elts kk tp) (IteT K a) [en, it] en (fun i h => (∃ old, IsEnum h en it ((i : Nat) : Int) old) ∧ h.IsTupleIter it a i ∧ en ≠ it) where
  mem := by simp
  obj := fun i h st b hb => by
    obtain ⟨⟨old, isE⟩, ⟨o, ho, _, dt⟩, _⟩ := st
    rcases (show b = en ∨ b = it by simpa using hb) with rfl | rfl
    · exact ⟨_, isE, fun v z => nomatch z⟩
    · exact ⟨o, ho, fun v z => by rw [dt] at z; cases z⟩
  keep := fun i h g st k => by
    obtain ⟨⟨old, isE⟩, isT, ne⟩ := st
    exact ⟨⟨old, k en (by simp) _ isE⟩, isT.at fun o z => k it (by simp) o z, ne⟩
  item := by
    intro X eP ew eK cm i pins s σ H E I fp st go
    subst eP ew eK
    obtain ⟨⟨old, isE⟩, isT, ne⟩ := st
    obtain ⟨xs, x, sq, hx⟩ := go
    obtain ⟨its, rv, tp', hz⟩ := I.tuple sq
    have tp' : s.heap.IsTuple a its.toArray := tp'
    obtain ⟨u, hu, ru⟩ := rv.get hx
    have lte : en < s.heap.objs.size := Heap.lt_size isE
    have lti : it < s.heap.objs.size := by
      obtain ⟨_, z, _⟩ := isT
      exact Heap.lt_size z
    have dr := Draws.tuple (prog := X.prog) (w := X.w) (A := X.A.in1) (show X.A.in1.handled = none from I.ok.hd cm) it a (tup_no_iter isT tp') its.toArray
    have iLt : i < its.toArray.size := by
      have := (List.getElem?_eq_some_iff.mp hu).1
      simpa using this
    refine wpAny_pyNext_enum_itemD dr isE ⟨isT, tp'⟩ iLt ne (by simp [ne, tup_no_enum isE tp']) fun y g tk py isO st' newT szg kp => ?_
    have ey : y = u := by
      have py : its.toArray[i]? = some y := py
      have : its[i]? = some y := by simpa using py
      exact Option.some.inj (this.symm.trans hu)
    subst ey
    refine ⟨_, rfl, wpAny_letOwnedTupleGo_enum (s := { s with heap := g, toks := tk + 1 }) isO fun g2 isE2 sb => ?_⟩
    have newT2 : g2.get? s.heap.objs.size = some { cls := .type "tuple", data := .seq #[.int i tk, y] } := (sb.2 _ (Nat.ne_of_gt lte)).trans newT
    have okT : ObjOk X.prog X.w (upd H s.heap.objs.size (.tup [.int (i : Nat), x])) g2 s.heap.objs.size (.tup [.int (i : Nat), x]) :=
      ⟨by show 2 ≤ sizeLine; decide, [.int i tk, y], .cons ⟨_, rfl⟩ (.cons ru .nil), ⟨_, newT2, rfl, _, rfl⟩⟩
    have J : Inv X pins σ (upd H s.heap.objs.size (.tup [.int (i : Nat), x])) { s with heap := g2, toks := tk + 1 } :=
      I.turnedNew (ch := [en, it]) (fun b ob nb z => (sb.2 b (fun q => nb (by simp [q]))).trans (kp b ob (fun q => nb (by simp [q])) (fun q => nb (by simp [q])) z)) fp (Nat.le_refl _) okT
    refine ⟨.ref s.heap.objs.size, _, J, rfl, ⟨_, x, rfl, I.hok.fresh (Nat.le_refl _), rfl, fun ys hy => by rw [I.tuple_inj hy sq]; exact hx⟩, ⟨⟨y, ?_⟩, st'.1.at fun o z => (sb.2 it (Ne.symm ne)).trans z, ne⟩, fun b hb => ?_⟩
    · rw [show ((i + 1 : Nat) : Int) = (i : Int) + 1 by omega]
      exact isE2
    · have ltb : b < s.heap.objs.size := by
        rcases (show b = en ∨ b = it by simpa using hb) with q | q
        · rw [q]; exact lte
        · rw [q]; exact lti
      rw [upd_ne (Nat.ne_of_lt ltb)]
      exact (fp b hb).1
  done := by
    intro X eP ew eK cm i pins s σ H E I fp st go
    subst eP ew eK
    obtain ⟨⟨old, isE⟩, isT, ne⟩ := st
    obtain ⟨xs, sq, hx⟩ := go
    obtain ⟨its, rv, tp', hz⟩ := I.tuple sq
    have tp' : s.heap.IsTuple a its.toArray := tp'
    obtain ⟨f0, f1, f2, f3, f4, f5⟩ := fp it (by simp)
    have ll := rv.length
    exact enumT_end (I.ok.hd cm) isE isT tp' (by omega) fun g eb => ⟨rfl, I.turned (t' := s.toks) (fun b o nb z => eb b o nb z) f0 f1 f3 f4 f5⟩
  self := fun A i s Q E st fin => by
    obtain ⟨⟨_, isE⟩, _⟩ := st
    exact wpAny_pyIter_enum isE fin
def iEnumT (K : PySem.W.Frag) (ta : TA) : TI := fun σ H R => ta σ H fun vs G => ∃ a xs, vs = [.ref a] ∧ SqT K G a xs ∧ R (IteT K a) G
theorem pi_enumT {X : Cx} {e : Expr} {ta : TA} {p pos tp : Pos} {elts : List Expr} {kk : Nat} (gl : Gl X "enumerate") (mn : X.mg "enumerate" = none) (ha : PA X [e] ta) (st : starEach [e] X.env = [(false, eval e X.env)] := by rfl) :
    PI X (.Tuple elts kk tp) (.Call (.Name "enumerate" p) [e] [] pos) (iEnumT X.K ta) := by
  refine ⟨fun pins s σ H R I h => ?_⟩
  refine Call_ (ld_blt I gl mn boot_enumerate (PyProof.Rows.callWith_type1 (thn (ha.run pos pins s σ H _ I h) fun us s1 ⟨vs, H1, I1, r1, a, xs, ex, sq, q⟩ => ?_) st rfl))
  subst ex
  obtain ⟨u, rfl, r⟩ : ∃ u, us = [u] ∧ RelV (.ref a) u := by
    cases r1 with
    | cons r rr => cases rr; exact ⟨_, rfl, r⟩
  cases r
  obtain ⟨its, rv, tp', hz⟩ := I1.tuple sq
  refine call_enumT (begins_tuple a its.toArray) tp' fun g isE isT kp => wpAny_pyIter_enum isE ?_
  have I2 : Inv X pins σ H1 { s1 with heap := g } := I1.kept (t' := s1.toks) kp
  refine ⟨s1.heap.objs.size + 1, [s1.heap.objs.size + 1, s1.heap.objs.size], _, _, H1, rfl, I2, turn_enumT a (s1.heap.objs.size + 1) s1.heap.objs.size, ⟨⟨.none, isE⟩, ⟨_, isT, rfl, rfl⟩, Nat.succ_ne_self _⟩, fun b hb => ?_, q⟩
  have le : s1.heap.objs.size ≤ b := by
    rcases (show b = s1.heap.objs.size + 1 ∨ b = s1.heap.objs.size by simpa using hb) with z | z
    · rw [z]; exact Nat.le_add_right _ _
    · rw [z]; exact Nat.le_refl _
  exact I1.fpOk le (I1.hok.fresh le)
/-- a comprehension over enumerate(tuple) that leaves places out; the heap stays but for the pairs -/
theorem lc_enumT {K : PySem.W.Frag} {a : Addr} {xs : List V} {H : Hp} {D : Addr} (hD : H D = none) (hS : H a = some (.tup xs)) (hl : xs.length ≤ 10000) (p : Nat → Bool) (f : Nat → V)
    {g : TG} {tt : TT} {te : TE} {vs : List Nat} {σ : L2.St} {Qd : Hp → Prop}
    (turn : ∀ (i : Nat) (x : V) (T : Addr) (H2 : Hp) (R : V → Hp → Prop) (C : Hp → Prop), xs[i]? = some x → Same H H2 → H2 T = some (.tup [.int (i : Nat), x]) → (p i = true → R (f i) H2) → (p i = false → C H2) → g (.ref T) (wipe σ vs) H2 fun σ2 H3 => wipe σ2 vs = wipe σ vs ∧ tt σ2 H3 fun b H4 => if b = true then te σ2 H4 R else C H4)
    (fin : ∀ H', Same H H' → H' D = some (.lst (((List.range xs.length).filter p).map f)) → Qd H') :
    ∃ W : Nat → Nat → Hp → Prop, (∃ m, W 0 m (upd H D (.lst []))) ∧ ∀ i m H, W i m H →
      ((IteT K a).stop i H ∧ Qd H) ∨ ((IteT K a).go i H ∧ ∃ Nx : Hp → Prop, (∀ H', Nx H' → ∃ m', m' < m ∧ W (i + 1) m' H') ∧ ∀ x H', (IteT K a).yld i H x H' → g x (wipe σ vs) H' fun σ2 H2 => wipe σ2 vs = wipe σ vs ∧ tt σ2 H2 fun b H3 =>
        if b = true then te σ2 H3 fun y H4 => ∃ acc, H4 D = some (.lst acc) ∧ acc.length < sizeLine ∧ Nx (upd H4 D (.lst (acc ++ [y]))) else Nx H3) := by
  refine ⟨fun i m H' => i ≤ xs.length ∧ m = xs.length - i ∧ Same H H' ∧ H' D = some (.lst (((List.range i).filter p).map f)), ⟨_, Nat.zero_le _, rfl, same_upd hD, upd_same⟩, ?_⟩
  rintro i m H1 ⟨hi, rfl, s1, e1⟩
  have ea := s1 _ _ hS
  by_cases he : i = xs.length
  · subst he
    exact .inl ⟨⟨xs, .inl (.inl ea), Nat.le_refl _⟩, fin H1 s1 e1⟩
  have hlt : i < xs.length := by omega
  refine .inr ⟨⟨xs, xs[i], .inl (.inl ea), List.getElem?_eq_getElem hlt⟩, fun H' => Same H H' ∧ H' D = some (.lst (((List.range (i + 1)).filter p).map f)), fun H' ⟨z1, z2⟩ => ⟨xs.length - (i + 1), by omega, by omega, rfl, z1, z2⟩, ?_⟩
  rintro _ _ ⟨T, x, rfl, hT, rfl, hx⟩
  have nT := ne_of_none e1 hT
  have z := same_upd hT (o := .tup [.int (i : Nat), x])
  have s2 := s1.trans z
  have e2 := z _ _ e1
  refine turn i x T _ _ _ (hx xs (.inl (.inl ea))) s2 upd_same (fun hp => ?_) (fun hp => ?_)
  · refine ⟨_, e2, ?_, fun b o h => ?_, ?_⟩
    · rw [List.length_map]
      refine Nat.lt_of_le_of_lt (List.length_filter_le _ _) ?_
      rw [List.length_range]
      exact Nat.lt_of_lt_of_le (show i < 10000 by omega) (by decide)
    · rw [upd_ne (ne_of_none h hD)]
      exact s2 _ _ h
    · rw [upd_same, List.range_succ, List.filter_append, List.map_append, List.filter_cons_of_pos hp]
      rfl
  · refine ⟨s2, ?_⟩
    rw [e2, List.range_succ, List.filter_append, List.map_append, List.filter_cons_of_neg (by rw [hp]; exact Bool.false_ne_true)]
    show _ = some (HO.lst (_ ++ []))
    rw [List.append_nil]
end KA
namespace KA
open PySem PySem.Spec PyProof.Rows L2
/-- [.. for x in a tuple] -/
theorem lc_genT {K : PySem.W.Frag} {a : Addr} {xs : List V} {H : Hp} {D : Addr} (hD : H D = none) (hS : H a = some (.tup xs)) (hl : xs.length ≤ 10000) (G : Nat → V → Hp → Prop) (hG : ∀ j v H1 H2, NL H1 H2 → G j v H1 → G j v H2)
    {g : TG} {tt : TT} {te : TE} {vs : List Nat} {σ : L2.St} {Qd : Hp → Prop}
    (turn : ∀ (i : Nat) (x : V) (H2 : Hp) (R : V → Hp → Prop) (C : Hp → Prop), xs[i]? = some x → Same H H2 → (∀ v H3, Same H2 H3 → G i v H3 → R v H3) → g x (wipe σ vs) H2 fun σ2 H2 => wipe σ2 vs = wipe σ vs ∧ tt σ2 H2 fun b H3 => if b = true then te σ2 H3 R else C H3)
    (fin : ∀ H' acc, Same H H' → H' D = some (.lst acc) → acc.length = xs.length → (∀ j v, acc[j]? = some v → G j v H') → Qd H') :
    ∃ W : Nat → Nat → Hp → Prop, (∃ m, W 0 m (upd H D (.lst []))) ∧ ∀ i m H, W i m H →
      ((Itt K a).stop i H ∧ Qd H) ∨ ((Itt K a).go i H ∧ ∃ Nx : Hp → Prop, (∀ H', Nx H' → ∃ m', m' < m ∧ W (i + 1) m' H') ∧ ∀ x H', (Itt K a).yld i H x H' → g x (wipe σ vs) H' fun σ2 H2 => wipe σ2 vs = wipe σ vs ∧ tt σ2 H2 fun b H3 =>
        if b = true then te σ2 H3 fun y H4 => ∃ acc, H4 D = some (.lst acc) ∧ acc.length < sizeLine ∧ Nx (upd H4 D (.lst (acc ++ [y]))) else Nx H3) := by
  refine lc_tup (K := K) (a := a) (xs := xs) (fun i H' => Same H H' ∧ ∃ acc, H' D = some (.lst acc) ∧ acc.length = i ∧ ∀ j v, acc[j]? = some v → G j v H') ⟨same_upd hD, [], upd_same, rfl, fun j v h => by simp at h⟩ (fun i H' _ h => .inl (.inl (h.1 _ _ hS))) ?_ ?_
  · rintro i x H2 hi ⟨s2, acc, e2, l2, g2⟩
    have hil : i < xs.length := (List.getElem?_eq_some_iff.mp hi).1
    refine turn i x H2 _ _ hi s2 fun v H3 s3 hv => ?_
    have e3 := s3 _ _ e2
    refine ⟨acc, e3, ?_, fun b o h => ?_, acc ++ [v], upd_same, ?_, fun j w hj => ?_⟩
    · rw [l2]
      exact Nat.lt_of_lt_of_le (show i < 10000 by omega) (by decide)
    · rw [upd_ne (ne_of_none h hD)]
      exact s3 _ _ (s2 _ _ h)
    · rw [List.length_append, l2]
      rfl
    · refine hG j w H3 _ (NL.at_ e3) ?_
      by_cases h : j < acc.length
      · rw [List.getElem?_append_left h] at hj
        exact hG j w H2 H3 (NL.of s3) (g2 j w hj)
      · rw [List.getElem?_append_right (by omega)] at hj
        have : j = i := by
          have := (List.getElem?_eq_some_iff.mp hj).1
          rw [List.length_singleton] at this
          omega
        subst this
        rw [l2, Nat.sub_self] at hj
        have : v = w := Option.some.inj hj
        subst this
        exact hv
  · rintro H' ⟨s, acc, e, l, g⟩
    exact fin H' acc s e l g
theorem op_notIn_seqK {X : Cx} {K' : PySem.W.Frag} (hK : X.K = K') : OpR X (compareOp .NotIn) (rIn K' true) := by
  subst hK
  exact op_notIn_seq
end KA
namespace KB
open PySem PySem.Spec PyProof.Rows L2 KA
def topS (i : Nat) : Stmt := PySem.Challenge.pw_pearlrise_k45_lots_made_and_shown.main.body.getD i (.Pass ⟨0, 0, 0, 0⟩)
abbrev s__wall : Stmt := topS 0
theorem sc__wall : FnScope ["k"] ["k"] (defScope s__wall) := ⟨rfl, rfl, rfl, by decide +kernel, rfl, by decide +kernel, by decide +kernel⟩
abbrev s_PearlError_init : Stmt := inClass (topS 2) 0
theorem sc_PearlError_init : FnScope ["self", "why"] ["self", "why"] (defScope s_PearlError_init) := ⟨rfl, rfl, rfl, by decide +kernel, rfl, by decide +kernel, by decide +kernel⟩
abbrev s_NotLet_init : Stmt := inClass (topS 8) 0
theorem sc_NotLet_init : FnScope ["self", "at", "why"] ["self", "at", "why"] (defScope s_NotLet_init) := ⟨rfl, rfl, rfl, by decide +kernel, rfl, by decide +kernel, by decide +kernel⟩
abbrev s_TooLate_init : Stmt := inClass (topS 9) 0
theorem sc_TooLate_init : FnScope ["self", "at"] ["self", "at"] (defScope s_TooLate_init) := ⟨rfl, rfl, rfl, by decide +kernel, rfl, by decide +kernel, by decide +kernel⟩
abbrev s_BadText_init : Stmt := inClass (topS 10) 0
theorem sc_BadText_init : FnScope ["self", "line"] ["self", "line"] (defScope s_BadText_init) := ⟨rfl, rfl, rfl, by decide +kernel, rfl, by decide +kernel, by decide +kernel⟩
abbrev s_is_int : Stmt := topS 14
theorem sc_is_int : FnScope ["thing"] ["thing"] (defScope s_is_int) := ⟨rfl, rfl, rfl, by decide +kernel, rfl, by decide +kernel, by decide +kernel⟩
abbrev s_is_whole : Stmt := topS 15
theorem sc_is_whole : FnScope ["thing", "least", "most"] ["thing", "least", "most"] (defScope s_is_whole) := ⟨rfl, rfl, rfl, by decide +kernel, rfl, by decide +kernel, by decide +kernel⟩
abbrev s_is_name : Stmt := topS 16
theorem sc_is_name : FnScope ["thing", "sign"] ["thing"] (defScope s_is_name) := ⟨rfl, rfl, rfl, by decide +kernel, rfl, by decide +kernel, by decide +kernel⟩
abbrev s_is_number : Stmt := topS 17
theorem sc_is_number : FnScope ["thing"] ["thing"] (defScope s_is_number) := ⟨rfl, rfl, rfl, by decide +kernel, rfl, by decide +kernel, by decide +kernel⟩
abbrev s_is_measure : Stmt := topS 20
theorem sc_is_measure : FnScope ["thing"] ["thing"] (defScope s_is_measure) := ⟨rfl, rfl, rfl, by decide +kernel, rfl, by decide +kernel, by decide +kernel⟩
abbrev s_Bead_init : Stmt := inClass (topS 21) 0
theorem sc_Bead_init : FnScope ["self", "number", "across", "weight", "shade", "form", "drilled"] ["self", "number", "across", "weight", "shade", "form", "drilled"] (defScope s_Bead_init) := ⟨rfl, rfl, rfl, by decide +kernel, rfl, by decide +kernel, by decide +kernel⟩
abbrev s_Bead_row : Stmt := inClass (topS 21) 1
theorem sc_Bead_row : FnScope ["self"] ["self"] (defScope s_Bead_row) := ⟨rfl, rfl, rfl, by decide +kernel, rfl, by decide +kernel, by decide +kernel⟩
abbrev s_Bead_key : Stmt := inClass (topS 21) 2
theorem sc_Bead_key : FnScope ["self"] ["self"] (defScope s_Bead_key) := ⟨rfl, rfl, rfl, by decide +kernel, rfl, by decide +kernel, by decide +kernel⟩
abbrev s_Bead_eq : Stmt := inClass (topS 21) 3
theorem sc_Bead_eq : FnScope ["self", "other"] ["self", "other"] (defScope s_Bead_eq) := ⟨rfl, rfl, rfl, by decide +kernel, rfl, by decide +kernel, by decide +kernel⟩
abbrev s_Bead_repr : Stmt := inClass (topS 21) 4
theorem sc_Bead_repr : FnScope ["self", "parts"] ["self"] (defScope s_Bead_repr) := ⟨rfl, rfl, rfl, by decide +kernel, rfl, by decide +kernel, by decide +kernel⟩
abbrev s_Bead_str : Stmt := inClass (topS 21) 5
theorem sc_Bead_str : FnScope ["self"] ["self"] (defScope s_Bead_str) := ⟨rfl, rfl, rfl, by decide +kernel, rfl, by decide +kernel, by decide +kernel⟩
abbrev s_are_shades : Stmt := topS 24
theorem sc_are_shades : FnScope ["thing", "shade"] ["thing"] (defScope s_are_shades) := ⟨rfl, rfl, rfl, by decide +kernel, rfl, by decide +kernel, by decide +kernel⟩
abbrev s_Lot_init : Stmt := inClass (topS 25) 0
theorem sc_Lot_init : FnScope ["self", "name", "room", "least", "most", "shades"] ["self", "name", "room", "least", "most", "shades"] (defScope s_Lot_init) := ⟨rfl, rfl, rfl, by decide +kernel, rfl, by decide +kernel, by decide +kernel⟩
abbrev s_Lot_fits : Stmt := inClass (topS 25) 1
theorem sc_Lot_fits : FnScope ["self", "bead"] ["self", "bead"] (defScope s_Lot_fits) := ⟨rfl, rfl, rfl, by decide +kernel, rfl, by decide +kernel, by decide +kernel⟩
abbrev s_Lot_len : Stmt := inClass (topS 25) 2
theorem sc_Lot_len : FnScope ["self"] ["self"] (defScope s_Lot_len) := ⟨rfl, rfl, rfl, by decide +kernel, rfl, by decide +kernel, by decide +kernel⟩
abbrev s_Lot_eq : Stmt := inClass (topS 25) 3
theorem sc_Lot_eq : FnScope ["self", "other"] ["self", "other"] (defScope s_Lot_eq) := ⟨rfl, rfl, rfl, by decide +kernel, rfl, by decide +kernel, by decide +kernel⟩
abbrev s_Lot_repr : Stmt := inClass (topS 25) 4
theorem sc_Lot_repr : FnScope ["self", "parts"] ["self"] (defScope s_Lot_repr) := ⟨rfl, rfl, rfl, by decide +kernel, rfl, by decide +kernel, by decide +kernel⟩
abbrev s_Lot_str : Stmt := inClass (topS 25) 5
theorem sc_Lot_str : FnScope ["self"] ["self"] (defScope s_Lot_str) := ⟨rfl, rfl, rfl, by decide +kernel, rfl, by decide +kernel, by decide +kernel⟩
abbrev s_cell_at : Stmt := topS 27
theorem sc_cell_at : FnScope ["_law_script", "_law_k"] ["_law_script", "_law_k"] (defScope s_cell_at) := ⟨rfl, rfl, rfl, by decide +kernel, rfl, by decide +kernel, by decide +kernel⟩
abbrev s_begin : Stmt := topS 28
theorem sc_begin : FnScope ["_law_cell"] ["_law_cell"] (defScope s_begin) := ⟨rfl, rfl, rfl, by decide +kernel, rfl, by decide +kernel, by decide +kernel⟩
abbrev s_draw : Stmt := topS 29
theorem sc_draw : FnScope ["_law_source", "_law_many", "_law_digit", "_law_number"] ["_law_source", "_law_many"] (defScope s_draw) := ⟨rfl, rfl, rfl, by decide +kernel, rfl, by decide +kernel, by decide +kernel⟩
abbrev s_one : Stmt := topS 30
theorem sc_one : FnScope ["_law_source", "_law_some"] ["_law_source", "_law_some"] (defScope s_one) := ⟨rfl, rfl, rfl, by decide +kernel, rfl, by decide +kernel, by decide +kernel⟩
abbrev s_names : Stmt := topS 31
theorem sc_names : FnScope ["_law_source", "_law_many", "_law_letters", "_law_first", "_law_found", "_law_k", "_law_called", "_law_j"] ["_law_source", "_law_many"] (defScope s_names) := ⟨rfl, rfl, rfl, by decide +kernel, rfl, by decide +kernel, by decide +kernel⟩
abbrev s_parts : Stmt := topS 32
theorem sc_parts : FnScope ["_law_source", "_law_hues", "_law_bottom", "_law_top", "_law_space"] ["_law_source"] (defScope s_parts) := ⟨rfl, rfl, rfl, by decide +kernel, rfl, by decide +kernel, by decide +kernel⟩
abbrev s_made : Stmt := topS 33
theorem sc_made : FnScope ["_law_source", "_law_parts_here", "_law_called", "_law_space", "_law_bottom", "_law_top", "_law_hues", "_law_way"] ["_law_source", "_law_parts_here"] (defScope s_made) := ⟨rfl, rfl, rfl, by decide +kernel, rfl, by decide +kernel, by decide +kernel⟩
abbrev s_repr : Stmt := topS 34
theorem sc_repr : FnScope ["_law_parts_here", "_law_called", "_law_space", "_law_bottom", "_law_top", "_law_hues", "_law_found", "_law_words", "_law_shade"] ["_law_parts_here"] (defScope s_repr) := ⟨rfl, rfl, rfl, by decide +kernel, rfl, by decide +kernel, by decide +kernel⟩
abbrev s_str : Stmt := topS 35
theorem sc_str : FnScope ["_law_parts_here", "_law_called", "_law_space", "_law_bottom", "_law_top", "_law_hues"] ["_law_parts_here"] (defScope s_str) := ⟨rfl, rfl, rfl, by decide +kernel, rfl, by decide +kernel, by decide +kernel⟩
abbrev s_odd_name : Stmt := topS 36
theorem sc_odd_name : FnScope ["_law_source", "_law_called", "_law_at", "_law_some", "_law_sign"] ["_law_source", "_law_called"] (defScope s_odd_name) := ⟨rfl, rfl, rfl, by decide +kernel, rfl, by decide +kernel, by decide +kernel⟩
abbrev s_odd_number : Stmt := topS 37
theorem sc_odd_number : FnScope ["_law_source", "_law_low", "_law_high", "_law_far"] ["_law_source", "_law_low", "_law_high"] (defScope s_odd_number) := ⟨rfl, rfl, rfl, by decide +kernel, rfl, by decide +kernel, by decide +kernel⟩
abbrev s_odd_parts : Stmt := topS 38
theorem sc_odd_parts : FnScope ["_law_source", "_law_parts_here", "_law_called", "_law_space", "_law_bottom", "_law_top", "_law_hues", "_law_at", "_law_odd", "_law_some"] ["_law_source", "_law_parts_here"] (defScope s_odd_parts) := ⟨rfl, rfl, rfl, by decide +kernel, rfl, by decide +kernel, by decide +kernel⟩
abbrev s_is_refused : Stmt := topS 39
theorem sc_is_refused : FnScope ["_law_parts_here", "_law_called", "_law_space", "_law_bottom", "_law_top", "_law_hues", "_law_told", "e", "_law_others"] ["_law_parts_here"] (defScope s_is_refused) := ⟨rfl, rfl, rfl, by decide +kernel, rfl, by decide +kernel, by decide +kernel⟩
abbrev s_other_parts : Stmt := topS 40
theorem sc_other_parts : FnScope ["_law_source", "_law_parts_here", "_law_called", "_law_space", "_law_bottom", "_law_top", "_law_hues", "_law_way", "_law_other", "_law_one_here"] ["_law_source", "_law_parts_here"] (defScope s_other_parts) := ⟨rfl, rfl, rfl, by decide +kernel, rfl, by decide +kernel, by decide +kernel⟩
abbrev s_fits_right : Stmt := topS 41
theorem sc_fits_right : FnScope ["_law_source", "_law_lot", "_law_parts_here", "_law_called", "_law_space", "_law_bottom", "_law_top", "_law_hues", "_law_shade", "_law_across", "_law_bead", "_law_due"] ["_law_source", "_law_lot", "_law_parts_here"] (defScope s_fits_right) := ⟨rfl, rfl, rfl, by decide +kernel, rfl, by decide +kernel, by decide +kernel⟩
abbrev s_law : Stmt := topS 42
theorem sc_law : FnScope ["_law_script", "_law_cell", "_law_source", "_law_parts_here", "_law_lot", "_law_left", "_law_turned", "_law_other", "_law_k"] ["_law_script"] (defScope s_law) := ⟨rfl, rfl, rfl, by decide +kernel, rfl, by decide +kernel, by decide +kernel⟩
structure Tx (K : PySem.W.Frag) (mg : Str → Option Value) : Type where
  C_Bead : Addr
  cl_Bead : Cls K C_Bead
  g_Bead : mg "Bead" = some (.ref C_Bead)
  n_Bead_number : NoAttr K C_Bead "number"
  n_Bead_across : NoAttr K C_Bead "across"
  n_Bead_weight : NoAttr K C_Bead "weight"
  n_Bead_shade : NoAttr K C_Bead "shade"
  n_Bead_form : NoAttr K C_Bead "form"
  n_Bead_drilled : NoAttr K C_Bead "drilled"
  C_Lot : Addr
  cl_Lot : Cls K C_Lot
  g_Lot : mg "Lot" = some (.ref C_Lot)
  n_Lot_name : NoAttr K C_Lot "name"
  n_Lot_room : NoAttr K C_Lot "room"
  n_Lot_least : NoAttr K C_Lot "least"
  n_Lot_most : NoAttr K C_Lot "most"
  n_Lot_shades : NoAttr K C_Lot "shades"
  A_PearlError_init : Addr
  fd_PearlError_init : FuncData
  F_PearlError_init : FunD K "__init__" "PearlError.__init__" (defArgs s_PearlError_init) (defBody s_PearlError_init) (defScope s_PearlError_init) [.str ""] [] A_PearlError_init fd_PearlError_init
  b_PearlError_init : Binds K fd_PearlError_init ["self", "why"] []
  A_is_int : Addr
  fd_is_int : FuncData
  F_is_int : Fun K "is_int" "is_int" s_is_int A_is_int fd_is_int
  g_is_int : mg "is_int" = some (.ref A_is_int)
  b_is_int : Binds K fd_is_int ["thing"] []
  A_is_whole : Addr
  fd_is_whole : FuncData
  F_is_whole : Fun K "is_whole" "is_whole" s_is_whole A_is_whole fd_is_whole
  g_is_whole : mg "is_whole" = some (.ref A_is_whole)
  b_is_whole : Binds K fd_is_whole ["thing", "least", "most"] []
  A_is_name : Addr
  fd_is_name : FuncData
  F_is_name : Fun K "is_name" "is_name" s_is_name A_is_name fd_is_name
  g_is_name : mg "is_name" = some (.ref A_is_name)
  b_is_name : Binds K fd_is_name ["thing"] []
  A_is_number : Addr
  fd_is_number : FuncData
  F_is_number : Fun K "is_number" "is_number" s_is_number A_is_number fd_is_number
  g_is_number : mg "is_number" = some (.ref A_is_number)
  b_is_number : Binds K fd_is_number ["thing"] []
  A_is_measure : Addr
  fd_is_measure : FuncData
  F_is_measure : Fun K "is_measure" "is_measure" s_is_measure A_is_measure fd_is_measure
  g_is_measure : mg "is_measure" = some (.ref A_is_measure)
  b_is_measure : Binds K fd_is_measure ["thing"] []
  A_Bead_init : Addr
  fd_Bead_init : FuncData
  F_Bead_init : FunD K "__init__" "Bead.__init__" (defArgs s_Bead_init) (defBody s_Bead_init) (defScope s_Bead_init) [.str "round", .bl false] [] A_Bead_init fd_Bead_init
  mk_Bead : Mk K C_Bead A_Bead_init
  b_Bead_init : Binds K fd_Bead_init ["self", "number", "across", "weight", "shade", "form", "drilled"] []
  A_are_shades : Addr
  fd_are_shades : FuncData
  F_are_shades : Fun K "are_shades" "are_shades" s_are_shades A_are_shades fd_are_shades
  g_are_shades : mg "are_shades" = some (.ref A_are_shades)
  b_are_shades : Binds K fd_are_shades ["thing"] []
  A_Lot_init : Addr
  fd_Lot_init : FuncData
  F_Lot_init : FunD K "__init__" "Lot.__init__" (defArgs s_Lot_init) (defBody s_Lot_init) (defScope s_Lot_init) [.int 1, .int 1000000, .non] [] A_Lot_init fd_Lot_init
  mk_Lot : Mk K C_Lot A_Lot_init
  b_Lot_init : Binds K fd_Lot_init ["self", "name", "room", "least", "most", "shades"] []
  A_Lot_fits : Addr
  fd_Lot_fits : FuncData
  F_Lot_fits : Fun K "fits" "Lot.fits" s_Lot_fits A_Lot_fits fd_Lot_fits
  m_Lot_fits : Meth K C_Lot "fits" A_Lot_fits
  b_Lot_fits : Binds K fd_Lot_fits ["self", "bead"] []
  A_Lot_len : Addr
  fd_Lot_len : FuncData
  F_Lot_len : Fun K "__len__" "Lot.__len__" s_Lot_len A_Lot_len fd_Lot_len
  m_Lot_len : Meth K C_Lot "__len__" A_Lot_len
  b_Lot_len : Binds K fd_Lot_len ["self"] []
  A_Lot_eq : Addr
  fd_Lot_eq : FuncData
  F_Lot_eq : Fun K "__eq__" "Lot.__eq__" s_Lot_eq A_Lot_eq fd_Lot_eq
  m_Lot_eq : Meth K C_Lot "__eq__" A_Lot_eq
  b_Lot_eq : Binds K fd_Lot_eq ["self", "other"] []
  A_Lot_repr : Addr
  fd_Lot_repr : FuncData
  F_Lot_repr : Fun K "__repr__" "Lot.__repr__" s_Lot_repr A_Lot_repr fd_Lot_repr
  m_Lot_repr : Meth K C_Lot "__repr__" A_Lot_repr
  b_Lot_repr : Binds K fd_Lot_repr ["self"] []
  A_Lot_str : Addr
  fd_Lot_str : FuncData
  F_Lot_str : Fun K "__str__" "Lot.__str__" s_Lot_str A_Lot_str fd_Lot_str
  m_Lot_str : Meth K C_Lot "__str__" A_Lot_str
  b_Lot_str : Binds K fd_Lot_str ["self"] []
  A_cell_at : Addr
  fd_cell_at : FuncData
  F_cell_at : Fun K "_law_cell_at" "_law_cell_at" s_cell_at A_cell_at fd_cell_at
  g_cell_at : mg "_law_cell_at" = some (.ref A_cell_at)
  b_cell_at : Binds K fd_cell_at ["_law_script", "_law_k"] []
  A_begin : Addr
  fd_begin : FuncData
  F_begin : Fun K "_law_begin" "_law_begin" s_begin A_begin fd_begin
  g_begin : mg "_law_begin" = some (.ref A_begin)
  b_begin : Binds K fd_begin ["_law_cell"] []
  A_draw : Addr
  fd_draw : FuncData
  F_draw : Fun K "_law_draw" "_law_draw" s_draw A_draw fd_draw
  g_draw : mg "_law_draw" = some (.ref A_draw)
  b_draw : Binds K fd_draw ["_law_source", "_law_many"] []
  A_one : Addr
  fd_one : FuncData
  F_one : Fun K "_law_one" "_law_one" s_one A_one fd_one
  g_one : mg "_law_one" = some (.ref A_one)
  b_one : Binds K fd_one ["_law_source", "_law_some"] []
  A_names : Addr
  fd_names : FuncData
  F_names : Fun K "_law_names" "_law_names" s_names A_names fd_names
  g_names : mg "_law_names" = some (.ref A_names)
  b_names : Binds K fd_names ["_law_source", "_law_many"] []
  A_parts : Addr
  fd_parts : FuncData
  F_parts : Fun K "_law_parts" "_law_parts" s_parts A_parts fd_parts
  g_parts : mg "_law_parts" = some (.ref A_parts)
  b_parts : Binds K fd_parts ["_law_source"] []
  A_made : Addr
  fd_made : FuncData
  F_made : Fun K "_law_made" "_law_made" s_made A_made fd_made
  g_made : mg "_law_made" = some (.ref A_made)
  b_made : Binds K fd_made ["_law_source", "_law_parts_here"] []
  A_repr : Addr
  fd_repr : FuncData
  F_repr : Fun K "_law_repr" "_law_repr" s_repr A_repr fd_repr
  g_repr : mg "_law_repr" = some (.ref A_repr)
  b_repr : Binds K fd_repr ["_law_parts_here"] []
  A_str : Addr
  fd_str : FuncData
  F_str : Fun K "_law_str" "_law_str" s_str A_str fd_str
  g_str : mg "_law_str" = some (.ref A_str)
  b_str : Binds K fd_str ["_law_parts_here"] []
  A_odd_name : Addr
  fd_odd_name : FuncData
  F_odd_name : Fun K "_law_odd_name" "_law_odd_name" s_odd_name A_odd_name fd_odd_name
  g_odd_name : mg "_law_odd_name" = some (.ref A_odd_name)
  b_odd_name : Binds K fd_odd_name ["_law_source", "_law_called"] []
  A_odd_number : Addr
  fd_odd_number : FuncData
  F_odd_number : Fun K "_law_odd_number" "_law_odd_number" s_odd_number A_odd_number fd_odd_number
  g_odd_number : mg "_law_odd_number" = some (.ref A_odd_number)
  b_odd_number : Binds K fd_odd_number ["_law_source", "_law_low", "_law_high"] []
  A_odd_parts : Addr
  fd_odd_parts : FuncData
  F_odd_parts : Fun K "_law_odd_parts" "_law_odd_parts" s_odd_parts A_odd_parts fd_odd_parts
  g_odd_parts : mg "_law_odd_parts" = some (.ref A_odd_parts)
  b_odd_parts : Binds K fd_odd_parts ["_law_source", "_law_parts_here"] []
  A_is_refused : Addr
  fd_is_refused : FuncData
  F_is_refused : Fun K "_law_is_refused" "_law_is_refused" s_is_refused A_is_refused fd_is_refused
  g_is_refused : mg "_law_is_refused" = some (.ref A_is_refused)
  b_is_refused : Binds K fd_is_refused ["_law_parts_here"] []
  A_other_parts : Addr
  fd_other_parts : FuncData
  F_other_parts : Fun K "_law_other_parts" "_law_other_parts" s_other_parts A_other_parts fd_other_parts
  g_other_parts : mg "_law_other_parts" = some (.ref A_other_parts)
  b_other_parts : Binds K fd_other_parts ["_law_source", "_law_parts_here"] []
  A_fits_right : Addr
  fd_fits_right : FuncData
  F_fits_right : Fun K "_law_fits_right" "_law_fits_right" s_fits_right A_fits_right fd_fits_right
  g_fits_right : mg "_law_fits_right" = some (.ref A_fits_right)
  b_fits_right : Binds K fd_fits_right ["_law_source", "_law_lot", "_law_parts_here"] []
  C_PearlError : Addr
  g_PearlError : mg "PearlError" = some (.ref C_PearlError)
  C_BadBead : Addr
  g_BadBead : mg "BadBead" = some (.ref C_BadBead)
  C_BadRule : Addr
  g_BadRule : mg "BadRule" = some (.ref C_BadRule)
  C_BadDeed : Addr
  g_BadDeed : mg "BadDeed" = some (.ref C_BadDeed)
  C_NoRow : Addr
  g_NoRow : mg "NoRow" = some (.ref C_NoRow)
  C_NotLet : Addr
  g_NotLet : mg "NotLet" = some (.ref C_NotLet)
  C_TooLate : Addr
  g_TooLate : mg "TooLate" = some (.ref C_TooLate)
  C_BadText : Addr
  g_BadText : mg "BadText" = some (.ref C_BadText)
  C_BadLot : Addr
  g_BadLot : mg "BadLot" = some (.ref C_BadLot)
  ox_BadLot : OexC K C_BadLot
  in_BadLot : PySem.W.findIn K (.ref C_BadLot) "__init__" = some (some (.ref A_PearlError_init))
  ti_BadLot : PySem.W.typeIn K (.ref A_PearlError_init) = some (.type "function")
  xc_BadLot : ExcC K C_BadLot
  nf_BadLot_why : PySem.W.findIn K (.ref C_BadLot) "why" = some none
  em_BadLot_PearlError : PySem.W.exmOne K (.ref C_BadLot) (.ref C_PearlError) = some true
  vV : PySem.W.findCls K (.type "ValueError") (.type "type") "__init__" = some (.val (.builtin "ValueError.__init__"))
  its_kb_1 : List Value
  kb_1 : KBn K fd_Lot_init ["self", "name", "room", "least", "most", "shades"] 1 ["shades", "most", "least", "room", "name"] (fun us ws => kw [(0, 0), (2, 4), (2, 3), (2, 2), (2, 1), (2, 0)] us its_kb_1 ws) (fun vs zs => kw [(0, 0), (2, 4), (2, 3), (2, 2), (2, 1), (2, 0)] vs [.int 1, .int 1000000, .non] zs)
  its_kb_2 : List Value
  kb_2 : KBn K fd_Lot_init ["self", "name", "room", "least", "most", "shades"] 3 ["most", "least", "shades"] (fun us ws => kw [(0, 0), (0, 1), (0, 2), (2, 1), (2, 0), (2, 2)] us its_kb_2 ws) (fun vs zs => kw [(0, 0), (0, 1), (0, 2), (2, 1), (2, 0), (2, 2)] vs [.int 1, .int 1000000, .non] zs)
  its_kb_3 : List Value
  kb_3 : KBn K fd_Lot_init ["self", "name", "room", "least", "most", "shades"] 3 ["most", "shades", "least"] (fun us ws => kw [(0, 0), (0, 1), (0, 2), (2, 2), (2, 0), (2, 1)] us its_kb_3 ws) (fun vs zs => kw [(0, 0), (0, 1), (0, 2), (2, 2), (2, 0), (2, 1)] vs [.int 1, .int 1000000, .non] zs)
  ds2_Lot : List Value
  hd2_Lot : Vals [.int 1, .int 1000000, .non] ds2_Lot
  bd2_Lot : Binds K fd_Lot_init ["self", "name", "room", "least", "most", "shades"] ds2_Lot
  ds4_Bead : List Value
  hd4_Bead : Vals [.str "round", .bl false] ds4_Bead
  bd4_Bead : Binds K fd_Bead_init ["self", "number", "across", "weight", "shade", "form", "drilled"] ds4_Bead
  ki_ve : PySem.W.kitOne K (.ref C_BadLot) (.type "ValueError") = some true
  ki_no : PySem.W.kitAny K (.ref C_BadLot) [.ref C_BadBead, .ref C_BadDeed, .ref C_BadRule, .ref C_BadText, .ref C_NoRow, .ref C_NotLet, .ref C_TooLate] = some false
  ki_me : PySem.W.kitOne K (.ref C_BadLot) (.ref C_BadLot) = some true
  ic_Lot : ICls K C_Lot
  ic_Bead : ICls K C_Bead
  i_Lot : PySem.W.kitOne K (.ref C_Lot) (.ref C_Lot) = some true
  hm_Lot : PySem.W.mroIn K C_Lot (.type "object") = some true
  hne_Lot : PySem.W.findIn K (.ref C_Lot) "__ne__" = some (some (.builtin "object.__ne__"))
  no_LB : PySem.W.kitOne K (.ref C_Bead) (.ref C_Lot) = some false
  nf_LB : PySem.W.notFirst K C_Lot (.ref C_Bead) = true
  sn_int : PySem.W.subIn K (.ref C_Lot) (.type "int") = some false
  nf_int : PySem.W.notFirst K C_Lot (.type "int") = true
  no_int : PySem.W.kitOne K (.type "int") (.ref C_Lot) = some false
  sn_str : PySem.W.subIn K (.ref C_Lot) (.type "str") = some false
  nf_str : PySem.W.notFirst K C_Lot (.type "str") = true
  no_str : PySem.W.kitOne K (.type "str") (.ref C_Lot) = some false
  sn_bool : PySem.W.subIn K (.ref C_Lot) (.type "bool") = some false
  nf_bool : PySem.W.notFirst K C_Lot (.type "bool") = true
  no_bool : PySem.W.kitOne K (.type "bool") (.ref C_Lot) = some false
  sn_NoneType : PySem.W.subIn K (.ref C_Lot) (.type "NoneType") = some false
  nf_NoneType : PySem.W.notFirst K C_Lot (.type "NoneType") = true
  no_NoneType : PySem.W.kitOne K (.type "NoneType") (.ref C_Lot) = some false
  sn_list : PySem.W.subIn K (.ref C_Lot) (.type "list") = some false
  nf_list : PySem.W.notFirst K C_Lot (.type "list") = true
  no_list : PySem.W.kitOne K (.type "list") (.ref C_Lot) = some false
  sn_tuple : PySem.W.subIn K (.ref C_Lot) (.type "tuple") = some false
  nf_tuple : PySem.W.notFirst K C_Lot (.type "tuple") = true
  no_tuple : PySem.W.kitOne K (.type "tuple") (.ref C_Lot) = some false
  t_LONGEST_NAME : Tok
  g_LONGEST_NAME : mg "LONGEST_NAME" = some (.int 8 t_LONGEST_NAME)
  t_GREATEST_NUMBER : Tok
  g_GREATEST_NUMBER : mg "GREATEST_NUMBER" = some (.int 1000000000 t_GREATEST_NUMBER)
  t_GREATEST_MEASURE : Tok
  g_GREATEST_MEASURE : mg "GREATEST_MEASURE" = some (.int 1000000 t_GREATEST_MEASURE)
  t_MOST_ROOM : Tok
  g_MOST_ROOM : mg "MOST_ROOM" = some (.int 20 t_MOST_ROOM)
  z_ValueError : mg "ValueError" = none
  z_bool : mg "bool" = none
  z_isinstance : mg "isinstance" = none
  z_int : mg "int" = none
  z_len : mg "len" = none
  z_str : mg "str" = none
  z_all : mg "all" = none
  z_tuple : mg "tuple" = none
  z_set : mg "set" = none
  z_range : mg "range" = none
  z_sorted : mg "sorted" = none
  z_list : mg "list" = none
  z_repr : mg "repr" = none
section
variable {P : Program} {w : World} {K : PySem.W.Frag} {mg : Str → Option Value} {base : Heap}
def whl (v : V) (lo hi : Int) : Bool := match v with
  | .int i => decide (lo ≤ i) && decide (i ≤ hi)
  | _ => false
def nm (v : V) : Bool := match v with
  | .str z => decide (1 ≤ z.length) && decide (z.length ≤ 8) && z.cps.toList.all lower
  | _ => false
def spIsInt (K : PySem.W.Frag) : Sp := fun vs H Q _ => ∃ v, vs = [v] ∧ Th K H v ∧ Q (.bl (isI v)) H
def spIsWhole (K : PySem.W.Frag) : Sp := fun vs H Q _ => ∃ v lo hi, vs = [v, .int lo, .int hi] ∧ Th K H v ∧ Q (.bl (whl v lo hi)) H
def spIsNumber (K : PySem.W.Frag) : Sp := fun vs H Q _ => ∃ v, vs = [v] ∧ Th K H v ∧ Q (.bl (whl v 1 1000000000)) H
def spIsName (K : PySem.W.Frag) : Sp := fun vs H Q _ => ∃ v, vs = [v] ∧ Th K H v ∧ (∀ z, v = .str z → z.length ≤ 100000) ∧ ∀ H', Same H H' → Q (.bl (nm v)) H'
theorem ok_is_int (T : Tx K mg) : FnOk P w K mg base CX0 1 T.A_is_int T.fd_is_int ["thing"] (spIsInt K) := by
  refine T.F_is_int.ok sc_is_int (fun vs H Q E h => ?_) (fun cdv A outer s H vs Q E hr h => ?_)
  · obtain ⟨v, rfl, th, q⟩ := h
    rfl
  obtain ⟨v, rfl, th, q⟩ := h
  refine ⟨_, (pss_one (ps_ret (pe_and (pe_callB call_isi (by rfl) T.z_isinstance (by decide +kernel) (pa_cons (pv 0) (pa_cons (pe_bltn (v := .ty "int") (by rfl) T.z_int (by decide +kernel) rfl) pa_nil))) (pe_one (pe_not (pe_callB call_isi (by rfl) T.z_isinstance (by decide +kernel) (pa_cons (pv 0) (pa_cons (pe_bltn (v := .ty "bool") (by rfl) T.z_bool (by decide +kernel) rfl) pa_nil)))))))), ?_⟩
  obtain ⟨t1, ty1, k1⟩ := isi_int th
  obtain ⟨t2, ty2, k2⟩ := isi_bool th
  refine ⟨_, rfl, v, _, t1, _, _, rfl, .ty _, ty1, k1, _, rfl, ?_⟩
  refine ite2 (fun e => ?_) (fun e => ?_)
  · refine ⟨_, rfl, v, _, t2, _, _, rfl, .ty _, ty2, k2, _, rfl, ?_⟩
    have : (!isB v) = isI v := by cases v <;> simp_all [isI, isB]
    rw [this]
    exact q
  · have : isI v = false := by cases v <;> simp_all [isI, isB]
    rw [this] at q
    exact q
theorem ok_is_whole (T : Tx K mg) : FnOk P w K mg base CX0 2 T.A_is_whole T.fd_is_whole ["thing", "least", "most"] (spIsWhole K) := by
  refine T.F_is_whole.ok sc_is_whole (fun vs H Q E h => ?_) (fun cdv A outer s H vs Q E hr h => ?_)
  · obtain ⟨v, lo, hi, rfl, th, q⟩ := h
    rfl
  obtain ⟨v, lo, hi, rfl, th, q⟩ := h
  refine ⟨_, (pss_one (ps_ret (pe_and (pe_call (ok_is_int T) (hr.mono (by decide)) (by rfl) T.g_is_int T.F_is_int.kp T.b_is_int .nil pass0 (pa_cons (pv 0) pa_nil)) (pe_one (pe_chain op_le op_le (pv 1) (pv 0) (pv 2)))))), ?_⟩
  refine ⟨_, rfl, v, rfl, th, _, rfl, ?_⟩
  cases v with
  | int i =>
    refine iteT ?_
    refine ⟨_, rfl, _, rfl, _, _, rfl, rfl, _, rfl, ?_⟩
    refine ite2 (fun e => ?_) (fun e => ?_)
    · refine ⟨_, rfl, _, _, rfl, rfl, ?_⟩
      have q : Q (.bl (decide (lo ≤ i) && decide (i ≤ hi))) H := q
      rw [e] at q
      exact q
    · have q : Q (.bl (decide (lo ≤ i) && decide (i ≤ hi))) H := q
      rw [Bool.not_eq_true] at e
      rw [e] at q
      exact q
  | _ => exact iteF q
theorem ok_is_number (T : Tx K mg) : FnOk P w K mg base CX0 3 T.A_is_number T.fd_is_number ["thing"] (spIsNumber K) := by
  refine T.F_is_number.ok sc_is_number (fun vs H Q E h => ?_) (fun cdv A outer s H vs Q E hr h => ?_)
  · obtain ⟨v, rfl, th, q⟩ := h
    rfl
  obtain ⟨v, rfl, th, q⟩ := h
  refine ⟨_, (pss_one (ps_ret (pe_call (ok_is_whole T) (hr.mono (by decide)) (by rfl) T.g_is_whole T.F_is_whole.kp T.b_is_whole .nil pass0 (pa_cons (pv 0) (pa_cons pe_int (pa_cons (pe_glob (v := .int 1000000000) (by rfl) T.g_GREATEST_NUMBER ⟨_, rfl⟩) pa_nil)))))), ?_⟩
  exact ⟨_, rfl, v, 1, 1000000000, rfl, th, q⟩
theorem nm_no {v : V} (h : isS v = false) : nm v = false := by cases v <;> simp_all [nm, isS]
theorem ok_is_name (T : Tx K mg) : FnOk P w K mg base CX0 1 T.A_is_name T.fd_is_name ["thing"] (spIsName K) := by
  refine T.F_is_name.ok sc_is_name (fun vs H Q E h => ?_) (fun cdv A outer s H vs Q E hr h => ?_)
  · obtain ⟨v, rfl, th, hz, q⟩ := h
    rfl
  obtain ⟨v, rfl, th, hz, q⟩ := h
  refine ⟨_, (pss_cons (ps_if (PW.pt (pw_or (pt_not (pt_val (pe_callB call_isi (by rfl) T.z_isinstance (by decide +kernel) (pa_cons (pv 0) (pa_cons (pe_bltn (v := .ty "str") (by rfl) T.z_str (by decide +kernel) rfl) pa_nil))))) (pw_or1 (pt_not (pt_chain op_le op_le pe_int (pe_callB call_len_str (by rfl) T.z_len PySem.boot_len (pa_cons (pv 0) pa_nil)) (pe_glob (v := .int 8) (by rfl) T.g_LONGEST_NAME ⟨_, rfl⟩)))))) (pss_one (ps_ret pe_bl)) pss_nil)
      (pss_one (ps_ret (pe_callB (cr_all rfl) (by rfl) T.z_all (by decide +kernel) (pa_cons (pe_lc (own := [("sign", 1)]) (g := gName 1) (tt := tYes) rfl sc_is_name.nd (pi_str (pv 0)) (blkOk_by (N := ["thing", "sign"]) (sc := defScope s_is_name) (by decide +kernel)) (fun _ _ _ _ _ => (pg_name (i := 1) sc_is_name.nd rfl (Or.inl rfl))) (fun _ _ _ _ _ => pts_nil) (fun _ _ _ _ _ => (pe_chain op_le_str op_le_str pe_str (pv 1) pe_str))) pa_nil))))), ?_⟩
  obtain ⟨t1, ty1, k1⟩ := isi_str th
  refine ⟨_, rfl, v, _, t1, _, _, rfl, .ty _, ty1, k1, _, rfl, ?_⟩
  by_cases hs : isS v = true
  · obtain ⟨z, rfl⟩ : ∃ z, v = .str z := by
      cases v with
      | str z => exact ⟨z, rfl⟩
      | _ => cases hs
    have hz := hz z rfl
    have hzl : z.length ≤ sizeLine := Nat.le_trans hz (by decide)
    have nmE : nm (.str z) = (decide (1 ≤ z.length) && decide (z.length ≤ 8) && z.cps.toList.all lower) := rfl
    rw [hs]
    refine iteF ?_
    refine ⟨_, rfl, z, rfl, hzl, _, _, rfl, rfl, _, rfl, ?_⟩
    by_cases h1 : 1 ≤ z.length
    · rw [decide_eq_true (show (1 : Int) ≤ (z.length : Int) by omega)]
      refine iteT ⟨_, _, rfl, rfl, _, rfl, ?_⟩
      by_cases h2 : z.length ≤ 8
      · rw [decide_eq_true (show (z.length : Int) ≤ 8 by omega)]
        refine iteF ?_
        refine ⟨_, rfl, z, rfl, fun D hD => lc_all hD hz lower ?_ ?_⟩
        · intro c H2 R C s2 r
          refine ⟨rfl, yesT ?_⟩
          refine ⟨_, rfl, _, _, rfl, rfl, _, rfl, ?_⟩
          rw [ge_a]
          refine ite2 (fun e => ?_) (fun e => ?_)
          · refine ⟨_, _, rfl, rfl, ?_⟩
            rw [le_z]
            have : lower c = decide (c ≤ 122) := by unfold lower; rw [e, Bool.true_and]
            rw [← this]
            exact r
          · rw [Bool.not_eq_true] at e
            have : lower c = false := by unfold lower; rw [e, Bool.false_and]
            rw [← this]
            exact r
        · intro H' s1 e1
          refine ⟨D, z.cps.toList.map lower, rfl, SqL.of e1, ?_⟩
          have q := q H' s1
          have : nm (.str z) = (z.cps.toList.map lower).all id := by
            rw [nmE, decide_eq_true h1, decide_eq_true h2, Bool.true_and, Bool.true_and, List.all_map]
            rfl
          rw [this] at q
          exact q
      · rw [decide_eq_false (show ¬ (z.length : Int) ≤ 8 by omega)]
        refine iteT ?_
        have q := q H (Same.refl H)
        rw [nmE, decide_eq_false h2, Bool.and_false, Bool.false_and] at q
        exact q
    · rw [decide_eq_false (show ¬ (1 : Int) ≤ (z.length : Int) by omega)]
      refine iteF ⟨_, rfl, ?_⟩
      refine iteT ?_
      have q := q H (Same.refl H)
      rw [nmE, decide_eq_false h1, Bool.false_and, Bool.false_and] at q
      exact q
  · rw [Bool.not_eq_true] at hs
    rw [hs]
    refine iteT (iteT ?_)
    have q := q H (Same.refl H)
    rw [nm_no hs] at q
    exact q
theorem ok_PearlError_init (T : Tx K mg) : FnOk P w K mg base CX0 1 T.A_PearlError_init T.fd_PearlError_init ["self", "why"] (spPearl K "why") := by
  refine okD T.F_PearlError_init sc_PearlError_init (fun vs H Q E h => ?_) (fun cdv A outer s H vs Q E hr h => ?_)
  · obtain ⟨a, C, v, rfl, T1, hno, ha, q⟩ := h
    rfl
  obtain ⟨a, C, v, rfl, T1, hno, ha, q⟩ := h
  refine ⟨_, (pss_cons (ps_expr (pe_veinit (by rfl) T.z_ValueError T.vV (pa_cons (pv 0) (pa_cons (pv 1) pa_nil))))
      (pss_one (ps_ost (pv 0) (pv 1)))), ?_⟩
  refine ⟨_, rfl, _, rfl, a, C, [v], rfl, (by show 1 ≤ 1000; decide), T1, ha, ?_⟩
  exact ⟨_, rfl, _, rfl, a, C, rfl, T1, hno, .inl ⟨ha, q⟩⟩
end
end KB
namespace KB
open PySem PySem.Spec PyProof.Rows L2 KA
section
variable {P : Program} {w : World} {K : PySem.W.Frag} {mg : Str → Option Value} {base : Heap}
def PM : Int → Prop := fun b => 0 ≤ b ∧ b < 2147483647
theorem dr_nl {PP : Int → Prop} {d : Addr} {n : Nat} {H H' : Hp} (dr : Dr PP d n H) (b : But d H H') : NL H H' := fun c o hn hc => by
  obtain ⟨_, _, _, e, _⟩ := dr
  exact b c o (fun z => by rw [z, e] at hc; exact hn _ (Option.some.inj hc).symm) hc
def spCell (K : PySem.W.Frag) : Sp := fun vs H Q _ => ∃ (a : Addr) (ns : List Int), vs = [.ref a, .int 0] ∧ SqL K H a (ns.map V.int) ∧ Q (.int (ns.headD 0)) H
theorem ok_cell_at (T : Tx K mg) : FnOk P w K mg base CX0 1 T.A_cell_at T.fd_cell_at ["_law_script", "_law_k"] (spCell K) := by
  refine T.F_cell_at.ok sc_cell_at (fun vs H Q E h => ?_) (fun cdv A outer s H vs Q E hr h => ?_)
  · obtain ⟨a, ns, rfl, hS, q⟩ := h
    rfl
  obtain ⟨a, ns, rfl, hS, q⟩ := h
  refine ⟨_, (pss_cons (ps_if (pt_cmpR op_lt (pv 1) (pe_callB call_len_seq (by rfl) T.z_len PySem.boot_len (pa_cons (pv 0) pa_nil)) (nomark _)) (pss_one (ps_ret (pe_ix ix_list (pv 0) (pv 1) (fun _ _ => rfl)))) pss_nil)
      (pss_one (ps_ret pe_int))), ?_⟩
  refine ⟨_, rfl, _, rfl, a, _, rfl, .inl hS, _, _, rfl, rfl, _, rfl, ?_⟩
  cases ns with
  | nil => exact iteF q
  | cons n r =>
    rw [decide_eq_true (show (0 : Int) < (((n :: r).map V.int).length : Int) by rw [List.length_map, List.length_cons]; omega)]
    exact iteT ⟨_, rfl, _, rfl, a, _, _, _, rfl, rfl, hS, atI_nat (j := 0) rfl, q⟩
def spBegin : Sp := fun vs H Q _ => ∃ (n : Int), vs = [.int n] ∧ ∀ (d : Addr) (H' : Hp), H d = none → Same H H' → Dr PM d 0 H' → Q (.ref d) H'
theorem ok_begin (T : Tx K mg) : FnOk P w K mg base CX0 1 T.A_begin T.fd_begin ["_law_cell"] (spBegin) := by
  refine T.F_begin.ok sc_begin (fun vs H Q E h => ?_) (fun cdv A outer s H vs Q E hr h => ?_)
  · obtain ⟨n, rfl, q⟩ := h
    rfl
  obtain ⟨n, rfl, q⟩ := h
  refine ⟨_, (pss_one (ps_ret (pe_lst (pa_cons (pe_ix ix_list (pe_lst (pa_cons pe_int (pa_cons (pv 0) pa_nil))) (pe_callTy call_int1 (by rfl) T.z_int (by decide +kernel) (pa_cons (pe_cmpR op_ge (pv 0) (pe_op op_pow pe_int pe_int) (nomark _)) pa_nil)) (fun _ _ => rfl)) (pa_cons (pe_op op_mod (pv 0) pe_int) (pa_cons pe_int pa_nil)))))), ?_⟩
  refine ⟨_, rfl, (by show 2 ≤ sizeLine; decide), fun l hl => ?_⟩
  refine ⟨_, rfl, _, _, rfl, rfl, ⟨by decide, by decide, by decide⟩, _, _, rfl, rfl, .inr ⟨_, rfl, ?_⟩⟩
  obtain ⟨a, ha⟩ : ∃ a : Int, atI [V.int 0, V.int n] (if decide (10 ^ (18 : Int).toNat ≤ n) = true then (1 : Int) else 0) = some (.int a) := by
    split
    · exact ⟨n, rfl⟩
    · exact ⟨0, rfl⟩
  refine ⟨l, _, _, _, rfl, rfl, SqL.of upd_same, ha, _, rfl, _, _, rfl, rfl, (by show (0 : Int) < 2147483629; decide), (by show 3 ≤ sizeLine; decide), fun d hd => ?_⟩
  have s1 : Same H (upd H l (.lst [.int 0, .int n])) := same_upd hl
  have m0 := Int.emod_nonneg n (show (2147483629 : Int) ≠ 0 by decide)
  have m1 := Int.emod_lt_of_pos n (show (0 : Int) < 2147483629 by decide)
  exact q d _ (s1.free hd) (s1.trans (same_upd hd)) ⟨_, _, _, upd_same, ⟨m0, by omega⟩, Int.le_refl _, Int.le_refl _⟩
def spDraw : Sp := fun vs H Q _ => ∃ (d : Addr) (m : Int) (n : Nat), vs = [.ref d, .int m] ∧ 0 < m ∧ m.natAbs.log2 < 9000 ∧ Dr PM d n H ∧ n ≤ 1000000 ∧
  ∀ (H' : Hp) (r : Int), 0 ≤ r → r < m → But d H H' → Dr PM d (n + 1) H' → Q (.int r) H'
theorem ok_draw (T : Tx K mg) : FnOk P w K mg base CX0 1 T.A_draw T.fd_draw ["_law_source", "_law_many"] (spDraw) := by
  refine T.F_draw.ok sc_draw (fun vs H Q E h => ?_) (fun cdv A outer s H vs Q E hr h => ?_)
  · obtain ⟨d, m, n, rfl, hm, hl, ⟨a, b, c, hd, ⟨hb0, hb1⟩, hc0, hc1⟩, hn, q⟩ := h
    rfl
  obtain ⟨d, m, n, rfl, hm, hl, ⟨a, b, c, hd, ⟨hb0, hb1⟩, hc0, hc1⟩, hn, q⟩ := h
  refine ⟨_, (pss_cons (ps_if (pt_cmpR op_gt (pe_ix ix_list (pv 0) pe_int (fun _ _ => rfl)) pe_int (nomark _)) (pss_cons (ps_set (i := 2) sc_draw.nd rfl (Or.inl rfl) (pe_op op_mod (pe_ix ix_list (pv 0) pe_int (fun _ _ => rfl)) (pv 1)))
      (pss_cons (ps_asg (pe_op op_fdivW (pe_ix ix_list (pv 0) pe_int (fun _ _ => rfl)) (pv 1)) (pg_sub (pv 0) pe_int set_list))
      (pss_one (ps_ret (pv 2))))) pss_nil)
      (pss_cons (ps_asg (pe_op op_add (pe_ix ix_list (pv 0) pe_int (fun _ _ => rfl)) pe_int) (pg_sub (pv 0) pe_int set_list))
      (pss_cons (ps_set (i := 3) sc_draw.nd rfl (Or.inl rfl) (pe_op op_mod (pe_op op_pow (pe_op op_add (pe_op op_add (pe_ix ix_list (pv 0) pe_int (fun _ _ => rfl)) (pe_op op_mul pe_int (pe_ix ix_list (pv 0) pe_int (fun _ _ => rfl)))) pe_int) pe_int) pe_int))
      (pss_cons (ps_set (i := 3) sc_draw.nd rfl (Or.inl rfl) (pe_op op_mod (pe_op op_mul (pv 3) (pe_op op_add (pe_op op_add (pe_op op_fdiv (pv 3) pe_int) pe_int) (pe_ix ix_list (pv 0) pe_int (fun _ _ => rfl)))) pe_int))
      (pss_one (ps_ret (pe_op op_mod (pe_op op_mod (pe_op op_mul (pv 3) (pe_op op_add (pe_op op_fdiv (pv 3) pe_int) pe_int)) pe_int) (pv 1)))))))), ?_⟩
  refine ⟨_, rfl, d, _, _, _, rfl, rfl, SqL.of hd, atI_nat (j := 0) rfl, _, _, rfl, rfl, _, rfl, ite2 (fun e => ?_) (fun e => ?_)⟩
  · refine ⟨_, rfl, d, _, _, _, rfl, rfl, SqL.of hd, atI_nat (j := 0) rfl, _, rfl, _, _, rfl, rfl, hm, ?_⟩
    refine ⟨_, rfl, d, _, _, _, rfl, rfl, SqL.of hd, atI_nat (j := 0) rfl, _, rfl, _, _, rfl, rfl, ⟨hm, hl⟩, ?_⟩
    refine ⟨_, rfl, d, _, _, 0, rfl, rfl, hd, rfl, ?_⟩
    exact ⟨_, rfl, q _ _ (Int.emod_nonneg _ (by omega)) (Int.emod_lt_of_pos _ hm) But.at_ ⟨_, _, _, upd_same, ⟨hb0, hb1⟩, hc0, by omega⟩⟩
  · refine ⟨_, rfl, d, _, _, _, rfl, rfl, SqL.of hd, atI_nat (j := 2) rfl, _, _, rfl, rfl, ?_⟩
    refine ⟨_, rfl, d, _, _, 2, rfl, rfl, hd, rfl, ?_⟩
    have hd' : (upd H d (.lst [.int a, .int b, .int (c + 1)])) d = some (.lst [.int a, .int b, .int (c + 1)]) := upd_same
    refine ⟨_, rfl, d, _, _, _, rfl, rfl, SqL.of hd', atI_nat (j := 1) rfl, _, rfl, d, _, _, _, rfl, rfl, SqL.of hd', atI_nat (j := 2) rfl, _, _, rfl, rfl, .inl ⟨by decide, by decide⟩, _, _, rfl, rfl, _, _, rfl, rfl, _, _, rfl, rfl, ⟨by decide, by decide, ?_⟩, _, _, rfl, rfl, (by show (0 : Int) < 2147483647; decide), ?_⟩
    · have e64 : (2 : Nat) ^ 64 = 18446744073709551616 := by decide
      rw [e64]
      omega
    · generalize hx : (b + 7919 * (c + 1) + 1) ^ (5 : Int).toNat % 2147483647 = x
      have hx0 : 0 ≤ x := by rw [← hx]; exact Int.emod_nonneg _ (by decide)
      have hx1 : x < 2147483647 := by rw [← hx]; exact Int.emod_lt_of_pos _ (by decide)
      have e64 : (2 : Int) ^ 64 = 18446744073709551616 := by decide
      refine ⟨_, rfl, _, rfl, _, _, rfl, rfl, ⟨by decide, by decide⟩, _, _, rfl, rfl, _, rfl, d, _, _, _, rfl, rfl, SqL.of hd', atI_nat (j := 2) rfl, _, _, rfl, rfl, _, _, rfl, rfl, .inl ⟨?_, ?_⟩, _, _, rfl, rfl, (by show (0 : Int) < 2147483629; decide), ?_⟩
      · rw [e64]; omega
      · rw [e64]; omega
      · generalize hy : x * (x / 1009 + 69621 + (c + 1)) % 2147483629 = y
        have hy0 : 0 ≤ y := by rw [← hy]; exact Int.emod_nonneg _ (by decide)
        have hy1 : y < 2147483629 := by rw [← hy]; exact Int.emod_lt_of_pos _ (by decide)
        refine ⟨_, rfl, _, rfl, _, _, rfl, rfl, ⟨by decide, by decide⟩, _, _, rfl, rfl, _, _, rfl, rfl, .inl ⟨?_, ?_⟩, _, _, rfl, rfl, (by show (0 : Int) < 2147483399; decide), _, rfl, _, _, rfl, rfl, hm, ?_⟩
        · rw [e64]; omega
        · rw [e64]; omega
        · exact q _ _ (Int.emod_nonneg _ (by omega)) (Int.emod_lt_of_pos _ hm) But.at_ ⟨_, _, _, upd_same, ⟨hb0, hb1⟩, by omega, by omega⟩
def spOf (K : PySem.W.Frag) : Sp := fun vs H Q _ => ∃ (d b : Addr) (n : Nat) (xs : List V), vs = [.ref d, .ref b] ∧ b ≠ d ∧ SqL K H b xs ∧ xs ≠ [] ∧ xs.length ≤ 1000 ∧ Dr PM d n H ∧ n ≤ 1000000 ∧
  ∀ (H' : Hp) (v : V), v ∈ xs → But d H H' → Dr PM d (n + 1) H' → Q v H'
theorem ok_one (T : Tx K mg) : FnOk P w K mg base CX0 2 T.A_one T.fd_one ["_law_source", "_law_some"] (spOf K) := by
  refine T.F_one.ok sc_one (fun vs H Q E h => ?_) (fun cdv A outer s H vs Q E hr h => ?_)
  · obtain ⟨d, b, n, xs, rfl, hbd, hS, hne, hlen, dr, hn, q⟩ := h
    rfl
  obtain ⟨d, b, n, xs, rfl, hbd, hS, hne, hlen, dr, hn, q⟩ := h
  refine ⟨_, (pss_one (ps_ret (pe_ix ix_list (pv 1) (pe_call (ok_draw T) (hr.mono (by decide)) (by rfl) T.g_draw T.F_draw.kp T.b_draw .nil pass0 (pa_cons (pv 0) (pa_cons (pe_callB call_len_seq (by rfl) T.z_len PySem.boot_len (pa_cons (pv 1) pa_nil)) pa_nil))) (fun _ _ => rfl)))), ?_⟩
  have hl : 0 < (xs.length : Int) := by
    cases xs with
    | nil => exact absurd rfl hne
    | cons x r => rw [List.length_cons]; omega
  refine ⟨_, rfl, _, rfl, _, rfl, b, xs, rfl, .inl hS, d, _, n, rfl, hl, log_tiny hl (by omega), dr, hn, fun H' r h0 h1 bt dr' => ?_⟩
  obtain ⟨j, rfl⟩ : ∃ j : Nat, r = (j : Int) := ⟨r.toNat, by omega⟩
  have hj : j < xs.length := by omega
  exact ⟨b, xs, _, _, rfl, rfl, but_seq bt hbd hS, atI_nat (List.getElem?_eq_getElem hj), q H' _ (List.getElem_mem hj) bt dr'⟩
theorem az_is {r : Int} (h0 : 0 ≤ r) (h1 : r < 26) : atI ("abcdefghijklmnopqrstuvwxyz" : Str).cps.toList r = some (97 + r.toNat) := by
  obtain ⟨j, rfl⟩ : ∃ j : Nat, r = (j : Int) := ⟨r.toNat, by omega⟩
  have e : ("abcdefghijklmnopqrstuvwxyz" : Str).cps.toList = (List.range 26).map (· + 97) := by decide +kernel
  refine atI_nat ?_
  rw [e, List.getElem?_map, List.getElem?_range (by omega)]
  show some (j + 97) = some (97 + j)
  rw [Nat.add_comm]
theorem low_of {j : Nat} (h : j < 26) : lower (97 + j) = true := by
  unfold lower
  rw [decide_eq_true (by omega), decide_eq_true (by omega)]
  rfl
theorem tl_one (c : Nat) : TL.tl (⟨#[c]⟩ : Str) = [c] := rfl
theorem nm_of {z : Str} (h1 : 1 ≤ z.length) (h2 : z.length ≤ 8) (h3 : ∀ c ∈ TL.tl z, lower c = true) : nm (.str z) = true := by
  show (decide (1 ≤ z.length) && decide (z.length ≤ 8) && z.cps.toList.all lower) = true
  rw [decide_eq_true h1, decide_eq_true h2, Bool.true_and, Bool.true_and]
  exact List.all_eq_true.mpr h3
theorem nm_is {z : Str} (h : nm (.str z) = true) : 1 ≤ z.length ∧ z.length ≤ 8 ∧ ∀ c ∈ TL.tl z, lower c = true := by
  have h : (decide (1 ≤ z.length) && decide (z.length ≤ 8) && z.cps.toList.all lower) = true := h
  simp only [Bool.and_eq_true, decide_eq_true_eq] at h
  exact ⟨h.1.1, h.1.2, List.all_eq_true.mp h.2⟩
def spNames : Sp := fun vs H Q _ => ∃ (d : Addr) (m : Int) (n : Nat), vs = [.ref d, .int m] ∧ 0 ≤ m ∧ m ≤ 8 ∧ Dr PM d n H ∧ n ≤ 100000 ∧
  ∀ (H' : Hp) (l : Addr) (zs : List Str), H l = none → l ≠ d → H' l = some (.lst (zs.map V.str)) → zs.length = m.toNat → (∀ z ∈ zs, nm (.str z) = true) → zs.Nodup → But d H H' → Dr PM d (n + 100) H' → Q (.ref l) H'
theorem ok_names (T : Tx K mg) : FnOk P w K mg base CX0 2 T.A_names T.fd_names ["_law_source", "_law_many"] (spNames) := by
  refine T.F_names.ok sc_names (fun vs H Q E h => ?_) (fun cdv A outer s H vs Q E hr h => ?_)
  · obtain ⟨d, m, n, rfl, h0, h1, dr, hn, q⟩ := h
    rfl
  obtain ⟨d, m, n, rfl, h0, h1, dr, hn, q⟩ := h
  refine ⟨_, (pss_cons (ps_set (i := 2) sc_names.nd rfl (Or.inl rfl) pe_str)
      (pss_cons (ps_set (i := 3) sc_names.nd rfl (Or.inl rfl) (pe_call (ok_draw T) (hr.mono (by decide)) (by rfl) T.g_draw T.F_draw.kp T.b_draw .nil pass0 (pa_cons (pv 0) (pa_cons pe_int pa_nil))))
      (pss_cons (ps_set (i := 4) sc_names.nd rfl (Or.inl rfl) (pe_lst pa_nil))
      (pss_cons (ps_for PassesOwn.never rfl (pi_range1 (by rfl) T.z_range (pa_cons (pv 1) pa_nil)) (pg_name (i := 5) sc_names.nd rfl (Or.inl rfl))
        (pss_cons (ps_set (i := 6) sc_names.nd rfl (Or.inl rfl) pe_str)
      (pss_cons (ps_for PassesOwn.never rfl (pi_range1 (by rfl) T.z_range (pa_cons (pe_call (ok_draw T) (hr.mono (by decide)) (by rfl) T.g_draw T.F_draw.kp T.b_draw .nil pass0 (pa_cons (pv 0) (pa_cons pe_int pa_nil))) pa_nil)) (pg_name (i := 7) sc_names.nd rfl (Or.inl rfl))
        (pss_one (ps_set (i := 6) sc_names.nd rfl (Or.inl rfl) (pe_op op_add_str (pv 6) (pe_ix ix_str (pv 2) (pe_call (ok_draw T) (hr.mono (by decide)) (by rfl) T.g_draw T.F_draw.kp T.b_draw .nil pass0 (pa_cons (pv 0) (pa_cons pe_int pa_nil))) (fun _ _ => rfl))))))
      (pss_one (ps_expr (pe_bm PySem.F.plainAttrs_list PySem.F.slot_list_append PySem.F.type_list_append mt_append (pv 4) (pa_cons (pe_op op_add_str (pv 6) (pe_ix ix_str (pv 2) (pe_op op_mod (pe_op op_add (pv 3) (pe_op op_mul pe_int (pv 5))) pe_int) (fun _ _ => rfl))) pa_nil)))))))
      (pss_one (ps_ret (pv 4))))))), ?_⟩
  refine ⟨_, rfl, d, 26, n, rfl, by decide, log_tiny (by decide) (by decide), dr, by omega, fun H1 f f0 f1 b1 dr1 => ?_⟩
  obtain ⟨f, rfl⟩ : ∃ j : Nat, f = (j : Int) := ⟨f.toNat, by omega⟩
  refine ⟨Nat.zero_le _, fun l hl => ?_⟩
  have nl := dr1.ne hl
  refine ⟨_, rfl, _, rfl, by omega, by omega, ?_⟩
  refine for_range (lo := 0) (n := m.toNat) (fun i σ H' => ∃ (w5 w6 w7 : Option V) (zs : List Str), σ = [some (.ref d), some (.int m), some (.str "abcdefghijklmnopqrstuvwxyz"), some (.int f), some (.ref l), w5, w6, w7] ∧ H' l = some (.lst (zs.map V.str)) ∧ zs.length = i ∧ (∀ z ∈ zs, nm (.str z) = true) ∧ (∀ (j : Nat) (z : Str), zs[j]? = some z → ∃ y, TL.tl z = y ++ [97 + (f + 3 * j) % 26]) ∧ But d H H' ∧ Dr PM d (n + 1 + 9 * i) H')
    ⟨_, _, _, [], rfl, upd_same, rfl, (fun z h => by cases h), (fun j z h => by simp at h), b1.trans (But.new hl), (dr1.upd nl).mono (by omega)⟩ ?_ ?_
  · rintro i σ H2 hi ⟨w5, w6, w7, zs, rfl, e2, l2, g2, t2, b2, dr2⟩
    refine ⟨_, rfl, d, 8, _, rfl, by decide, log_tiny (by decide) (by decide), dr2, by omega, fun H3 r r0 r1 b3 dr3 => ⟨_, rfl, by omega, by omega, ?_⟩⟩
    refine for_range (lo := 0) (n := r.toNat) (fun j σ H' => ∃ (w7 : Option V) (y : Str), σ = [some (.ref d), some (.int m), some (.str "abcdefghijklmnopqrstuvwxyz"), some (.int f), some (.ref l), some (.int (0 + (i : Int))), some (.str y), w7] ∧ y.length = j ∧ (∀ c ∈ TL.tl y, lower c = true) ∧ But d H2 H' ∧ Dr PM d (n + 1 + 9 * i + 1 + j) H')
      ⟨_, "", rfl, rfl, (fun c h => by cases h), b3, dr3⟩ ?_ ?_
    · rintro j σ H4 hj ⟨w7, y, rfl, ly, gy, b4, dr4⟩
      refine ⟨_, rfl, _, rfl, _, rfl, d, 26, _, rfl, by decide, log_tiny (by decide) (by decide), dr4, by omega, fun H5 r2 g0 g1 b5 dr5 => ?_⟩
      have one : (⟨#[97 + r2.toNat]⟩ : Str).length = 1 := rfl
      refine ⟨_, _, _, rfl, rfl, (by decide +kernel), az_is g0 g1, _, _, rfl, rfl, ?_, ?_⟩
      · rw [ly, one, sizeLine_eq]
        omega
      · refine ⟨_, _, rfl, by rw [Str.length_append, ly, one], fun c hc => ?_, b4.trans b5, dr5⟩
        rw [TL.tl_append] at hc
        rcases List.mem_append.mp hc with h | h
        · exact gy c h
        · rw [tl_one, List.mem_singleton] at h
          rw [h]
          exact low_of (by omega)
    · rintro σ H4 ⟨w7, y, rfl, ly, gy, b4, dr4⟩
      have e4 := b4 _ _ nl e2
      have x0 : (0 : Int) ≤ ((f : Int) + 3 * (0 + (i : Int))) % 26 := Int.emod_nonneg _ (by decide)
      have x1 : ((f : Int) + 3 * (0 + (i : Int))) % 26 < 26 := Int.emod_lt_of_pos _ (by decide)
      have one : (⟨#[97 + (((f : Int) + 3 * (0 + (i : Int))) % 26).toNat]⟩ : Str).length = 1 := rfl
      refine ⟨_, rfl, .inl ⟨rfl, _, SqL.of e4⟩, _, rfl, _, rfl, _, rfl, _, rfl, _, _, rfl, rfl, .inl ⟨by decide, by decide⟩, _, _, rfl, rfl, _, _, rfl, rfl, (by show (0 : Int) < 26; decide), _, _, _, rfl, rfl, (by decide +kernel), az_is x0 x1, _, _, rfl, rfl, ?_, l, _, _, rfl, rfl, e4, ?_, ?_⟩
      · rw [ly, one, sizeLine_eq]
        omega
      · rw [List.length_map, l2]
        exact Nat.lt_of_lt_of_le (show i < 1000 by omega) (by decide)
      · have len : (y ++ (⟨#[97 + (((f : Int) + 3 * (0 + (i : Int))) % 26).toNat]⟩ : Str)).length = r.toNat + 1 := by rw [Str.length_append, ly, one]
        refine ⟨_, _, _, zs ++ [y ++ (⟨#[97 + (((f : Int) + 3 * (0 + (i : Int))) % 26).toNat]⟩ : Str)], rfl, ?_, by rw [List.length_append, l2]; rfl, fun z hz => ?_, fun j z hz => ?_, ?_, ?_⟩
        · rw [List.map_append]
          exact upd_same
        · rcases List.mem_append.mp hz with h | h
          · exact g2 z h
          · rw [List.mem_singleton.mp h]
            refine nm_of (by rw [len]; omega) (by rw [len]; omega) fun c hc => ?_
            rw [TL.tl_append] at hc
            rcases List.mem_append.mp hc with h | h
            · exact gy c h
            · rw [tl_one, List.mem_singleton] at h
              rw [h]
              exact low_of (by omega)
        · by_cases h : j < zs.length
          · rw [List.getElem?_append_left h] at hz
            exact t2 j z hz
          · rw [List.getElem?_append_right (by omega)] at hz
            have hj : j - zs.length = 0 := by
              have := (List.getElem?_eq_some_iff.mp hz).1
              rw [List.length_singleton] at this
              omega
            rw [hj] at hz
            have : y ++ (⟨#[97 + (((f : Int) + 3 * (0 + (i : Int))) % 26).toNat]⟩ : Str) = z := Option.some.inj hz
            rw [← this, TL.tl_append, tl_one]
            have e : j = i := by omega
            subst e
            refine ⟨TL.tl y, ?_⟩
            have e3 : (((f : Int) + 3 * (0 + (j : Int))) % 26).toNat = (f + 3 * j) % 26 := by omega
            rw [e3]
        · exact (b2.trans b4).mut (b1.free nl hl)
        · exact (dr4.upd nl).mono (by omega)
  · rintro σ H2 ⟨w5, w6, w7, zs, rfl, e2, l2, g2, t2, b2, dr2⟩
    refine ⟨_, rfl, q H2 l zs (b1.free nl hl) nl e2 (by omega) g2 ?_ b2 (dr2.mono (by omega))⟩
    refine List.pairwise_iff_getElem.mpr fun i j hi hj hij e => ?_
    obtain ⟨y1, h1'⟩ := t2 i _ (List.getElem?_eq_getElem hi)
    obtain ⟨y2, h2'⟩ := t2 j _ (List.getElem?_eq_getElem hj)
    rw [e] at h1'
    have := (List.append_inj' (h1'.symm.trans h2') rfl).2
    have := List.head_eq_of_cons_eq this
    omega
/-- the five things of a lot -/
structure Pt where
  called : Str
  space : Int
  lo : Int
  hi : Int
  hues : List Str
structure GoodPt (p : Pt) : Prop where
  name : nm (.str p.called) = true
  s0 : 0 ≤ p.space
  s1 : p.space ≤ 20
  l0 : 1 ≤ p.lo
  lh : p.lo ≤ p.hi
  h1 : p.hi ≤ 1000000
  hues : ∀ z ∈ p.hues, nm (.str z) = true
  un : p.hues.Nodup
  few : p.hues.length ≤ 8
def ptV (p : Pt) (t : Addr) : List V := [.str p.called, .int p.space, .int p.lo, .int p.hi, .ref t]
def PtAt (H : Hp) (a : Addr) (p : Pt) : Prop := ∃ t, H a = some (.lst (ptV p t)) ∧ H t = some (.tup (p.hues.map V.str))
theorem PtAt.same {H H' : Hp} {a : Addr} {p : Pt} (s : Same H H') (h : PtAt H a p) : PtAt H' a p := by
  obtain ⟨t, h1, h2⟩ := h
  exact ⟨t, s _ _ h1, s _ _ h2⟩
theorem PtAt.but {d : Addr} {H H' : Hp} {a : Addr} {p : Pt} {n : Nat} (dr : Dr PM d n H) (n1 : a ≠ d) (b : But d H H') (h : PtAt H a p) : PtAt H' a p := by
  obtain ⟨t, h1, h2⟩ := h
  exact ⟨t, b _ _ n1 h1, dr_nl dr b _ _ (fun _ z => by cases z) h2⟩
theorem e6 : (10 : Int) ^ (6 : Int).toNat = 1000000 := by decide
theorem ints_of {v : V} {xs : List V} (P : Int → Prop) (h : v ∈ xs) (hx : ∀ x ∈ xs, ∃ k, x = .int k ∧ P k) : ∃ k, v = .int k ∧ P k := hx v h
def spParts : Sp := fun vs H Q _ => ∃ (d : Addr) (n : Nat), vs = [.ref d] ∧ Dr PM d n H ∧ n ≤ 50000 ∧
  ∀ (H' : Hp) (a : Addr) (p : Pt), H a = none → a ≠ d → PtAt H' a p → GoodPt p → p.hues.length ≤ 4 → But d H H' → Dr PM d (n + 300) H' → Q (.ref a) H'
theorem ok_parts (T : Tx K mg) : FnOk P w K mg base CX0 3 T.A_parts T.fd_parts ["_law_source"] (spParts) := by
  refine T.F_parts.ok sc_parts (fun vs H Q E h => ?_) (fun cdv A outer s H vs Q E hr h => ?_)
  · obtain ⟨d, n, rfl, dr, hn, q⟩ := h
    rfl
  obtain ⟨d, n, rfl, dr, hn, q⟩ := h
  refine ⟨_, (pss_cons (ps_set (i := 1) sc_parts.nd rfl (Or.inl rfl) (pe_call (ok_names T) (hr.mono (by decide)) (by rfl) T.g_names T.F_names.kp T.b_names .nil pass0 (pa_cons (pv 0) (pa_cons (pe_call (ok_draw T) (hr.mono (by decide)) (by rfl) T.g_draw T.F_draw.kp T.b_draw .nil pass0 (pa_cons (pv 0) (pa_cons pe_int pa_nil))) pa_nil))))
      (pss_cons (ps_set (i := 2) sc_parts.nd rfl (Or.inl rfl) (pe_call (ok_one T) (hr.mono (by decide)) (by rfl) T.g_one T.F_one.kp T.b_one .nil pass0 (pa_cons (pv 0) (pa_cons (pe_lst (pa_cons pe_int (pa_cons pe_int (pa_cons (pe_op op_add pe_int (pe_call (ok_draw T) (hr.mono (by decide)) (by rfl) T.g_draw T.F_draw.kp T.b_draw .nil pass0 (pa_cons (pv 0) (pa_cons (pe_op op_pow pe_int pe_int) pa_nil)))) (pa_cons (pe_op op_pow pe_int pe_int) pa_nil))))) pa_nil))))
      (pss_cons (ps_set (i := 3) sc_parts.nd rfl (Or.inl rfl) (pe_call (ok_one T) (hr.mono (by decide)) (by rfl) T.g_one T.F_one.kp T.b_one .nil pass0 (pa_cons (pv 0) (pa_cons (pe_lst (pa_cons (pe_op op_pow pe_int pe_int) (pa_cons (pv 2) (pa_cons (pe_op op_add (pv 2) (pe_call (ok_draw T) (hr.mono (by decide)) (by rfl) T.g_draw T.F_draw.kp T.b_draw .nil pass0 (pa_cons (pv 0) (pa_cons (pe_op op_sub (pe_op op_add (pe_op op_pow pe_int pe_int) pe_int) (pv 2)) pa_nil)))) pa_nil)))) pa_nil))))
      (pss_cons (ps_set (i := 4) sc_parts.nd rfl (Or.inl rfl) (pe_call (ok_one T) (hr.mono (by decide)) (by rfl) T.g_one T.F_one.kp T.b_one .nil pass0 (pa_cons (pv 0) (pa_cons (pe_lst (pa_cons pe_int (pa_cons pe_int (pa_cons (pe_call (ok_draw T) (hr.mono (by decide)) (by rfl) T.g_draw T.F_draw.kp T.b_draw .nil pass0 (pa_cons (pv 0) (pa_cons pe_int pa_nil))) pa_nil)))) pa_nil))))
      (pss_one (ps_ret (pe_lst (pa_cons (pe_ix ix_list (pe_call (ok_names T) (hr.mono (by decide)) (by rfl) T.g_names T.F_names.kp T.b_names .nil pass0 (pa_cons (pv 0) (pa_cons pe_int pa_nil))) pe_int (fun _ _ => rfl)) (pa_cons (pv 4) (pa_cons (pv 2) (pa_cons (pv 3) (pa_cons (pe_callTy call_tuple_of (by rfl) T.z_tuple (by decide +kernel) (pa_cons (pv 1) pa_nil)) pa_nil)))))))))))), ?_⟩
  refine ⟨_, rfl, _, rfl, d, 5, n, rfl, by decide, log_tiny (by decide) (by decide), dr, by omega, fun H1 r a1 c1 b1 dr1 => ?_⟩
  refine ⟨d, r, _, rfl, a1, by omega, dr1, by omega, fun H2 l zs hl nl el lz gz uz b2 dr2 => ?_⟩
  -- bottom
  refine ⟨_, rfl, _, rfl, _, _, rfl, rfl, ⟨by decide, by decide, by decide⟩, d, _, _, rfl, by decide, log_tiny (by decide) (by decide), dr2, by omega, fun H3 r3 a3 c3 b3 dr3 => ⟨_, _, rfl, rfl, _, _, rfl, rfl, ⟨by decide, by decide, by decide⟩, (by show 4 ≤ sizeLine; decide), fun l3 hl3 => ?_⟩⟩
  rw [e6] at c3
  have n3 := dr3.ne hl3
  refine ⟨d, l3, _, _, rfl, n3, SqL.of upd_same, by simp, by show 4 ≤ 1000; decide, dr3.upd n3, by omega, fun H4 v4 hv4 b4 dr4 => ?_⟩
  obtain ⟨lo, rfl, lo1, lo2⟩ := ints_of (fun k => 1 ≤ k ∧ k ≤ 1000000) hv4 (by
    intro x hx
    simp only [List.mem_cons, List.not_mem_nil, or_false, e6] at hx
    rcases hx with e | e | e | e <;> exact ⟨_, e, by omega⟩)
  -- top
  refine ⟨_, rfl, _, _, rfl, rfl, ⟨by decide, by decide, by decide⟩, _, rfl, _, rfl, _, rfl, _, _, rfl, rfl, ⟨by decide, by decide, by decide⟩, _, _, rfl, rfl, _, rfl, _, _, rfl, rfl, ?_⟩
  rw [e6]
  refine ⟨d, 1000000 + 1 - lo, _, rfl, by omega, log_tiny (by omega) (by omega), dr4, by omega, fun H5 r5 a5 c5 b5 dr5 => ⟨_, _, rfl, rfl, (by show 3 ≤ sizeLine; decide), fun l5 hl5 => ?_⟩⟩
  have n5 := dr5.ne hl5
  refine ⟨d, l5, _, _, rfl, n5, SqL.of upd_same, by simp, by show 3 ≤ 1000; decide, dr5.upd n5, by omega, fun H6 v6 hv6 b6 dr6 => ?_⟩
  obtain ⟨hi, rfl, hi1, hi2⟩ := ints_of (fun k => lo ≤ k ∧ k ≤ 1000000) hv6 (by
    intro x hx
    simp only [List.mem_cons, List.not_mem_nil, or_false, e6] at hx
    rcases hx with e | e | e <;> exact ⟨_, e, by omega⟩)
  -- space
  refine ⟨_, rfl, _, rfl, d, 21, _, rfl, by decide, log_tiny (by decide) (by decide), dr6, by omega, fun H7 r7 a7 c7 b7 dr7 => ⟨(by show 3 ≤ sizeLine; decide), fun l7 hl7 => ?_⟩⟩
  have n7 := dr7.ne hl7
  refine ⟨d, l7, _, _, rfl, n7, SqL.of upd_same, by simp, by show 3 ≤ 1000; decide, dr7.upd n7, by omega, fun H8 v8 hv8 b8 dr8 => ?_⟩
  obtain ⟨sp, rfl, sp1, sp2⟩ := ints_of (fun k => 0 ≤ k ∧ k ≤ 20) hv8 (by
    intro x hx
    simp only [List.mem_cons, List.not_mem_nil, or_false, e6] at hx
    rcases hx with e | e | e <;> exact ⟨_, e, by omega⟩)
  have b28 : But d H2 H8 := (b3.trans (But.new hl3)).trans ((b4.trans b5).trans ((But.new hl5).trans ((b6.trans b7).trans ((But.new hl7).trans b8))))
  -- the name
  refine ⟨_, rfl, d, 1, _, rfl, by decide, by decide, dr8, by omega, fun H9 l9 zs9 hl9 nl9 el9 lz9 gz9 uz9 b9 dr9 => ?_⟩
  obtain ⟨z0, rfl⟩ : ∃ z, zs9 = [z] := by
    match zs9, lz9 with
    | [z], _ => exact ⟨z, rfl⟩
  have b29 := b28.trans b9
  refine ⟨l9, _, _, _, rfl, rfl, SqL.of el9, atI_nat (j := 0) rfl, _, rfl, _, rfl, _, rfl, _, rfl, l, zs.map V.str, rfl, .inl ⟨SqL.of (b29 _ _ nl el), fun t ht => ?_⟩⟩
  refine ⟨(by show 5 ≤ sizeLine; decide), fun a ha => ?_⟩
  have b12 := b1.trans b2
  have z1 := same_upd ht (o := .tup (zs.map V.str))
  have nt := dr9.ne ht
  have z2 := same_upd ha (o := .lst (ptV ⟨z0, sp, lo, hi, zs⟩ t))
  have na := (dr9.same z1).ne ha
  have bAll : But d H (L2.upd H9 t (.tup (zs.map V.str))) := (b12.trans b29).trans (But.of z1)
  refine q _ a ⟨z0, sp, lo, hi, zs⟩ (bAll.free na ha) na ⟨t, upd_same, z2 _ _ upd_same⟩ ⟨gz9 z0 (by simp), sp1, sp2, lo1, hi1, hi2, gz, uz, by show zs.length ≤ 8; omega⟩ (by show zs.length ≤ 4; omega) (bAll.trans (But.of z2)) ((dr9.same (z1.trans z2)).mono (by omega))
end
end KB
namespace KB
open PySem PySem.Spec PyProof.Rows L2 KA
section
variable {P : Program} {w : World} {K : PySem.W.Frag} {mg : Str → Option Value} {base : Heap}
def spMeasure (K : PySem.W.Frag) : Sp := fun vs H Q _ => ∃ v, vs = [v] ∧ Th K H v ∧ Q (.bl (whl v 1 1000000)) H
theorem ok_is_measure (T : Tx K mg) : FnOk P w K mg base CX0 3 T.A_is_measure T.fd_is_measure ["thing"] (spMeasure K) := by
  refine T.F_is_measure.ok sc_is_measure (fun vs H Q E h => ?_) (fun cdv A outer s H vs Q E hr h => ?_)
  · obtain ⟨v, rfl, th, q⟩ := h
    rfl
  obtain ⟨v, rfl, th, q⟩ := h
  refine ⟨_, (pss_one (ps_ret (pe_call (ok_is_whole T) (hr.mono (by decide)) (by rfl) T.g_is_whole T.F_is_whole.kp T.b_is_whole .nil pass0 (pa_cons (pv 0) (pa_cons pe_int (pa_cons (pe_glob (v := .int 1000000) (by rfl) T.g_GREATEST_MEASURE ⟨_, rfl⟩) pa_nil)))))), ?_⟩
  exact ⟨_, rfl, v, 1, 1000000, rfl, th, q⟩
/-- a bead, a rule, as data -/
structure Rw where
  num : Int
  ac : Int
  we : Int
  sh : Str
  fo : Str
  dr : Bool
def GoodRw (r : Rw) : Prop := whl (.int r.num) 1 1000000000 = true ∧ whl (.int r.ac) 1 1000000 = true ∧ whl (.int r.we) 1 1000000 = true ∧ nm (.str r.sh) = true ∧ nm (.str r.fo) = true
theorem short_name {z : Str} (h : nm (.str z) = true) : z.length ≤ 100000 := by
  have nmE : nm (.str z) = (decide (1 ≤ z.length) && decide (z.length ≤ 8) && z.cps.toList.all lower) := rfl
  rw [nmE] at h
  simp only [Bool.and_eq_true, decide_eq_true_eq] at h
  omega
def bf (r : Rw) : List (Str × V) := putF "drilled" (.bl r.dr) (putF "form" (.str r.fo) (putF "shade" (.str r.sh) (putF "weight" (.int r.we) (putF "across" (.int r.ac) (putF "number" (.int r.num) [])))))
theorem bf_number (r : Rw) : (bf r).lookup ("number" : Str) = some (.int r.num) := by
  unfold bf
  rw [lookup_putF, if_neg (by decide +kernel), lookup_putF, if_neg (by decide +kernel), lookup_putF, if_neg (by decide +kernel), lookup_putF, if_neg (by decide +kernel), lookup_putF, if_neg (by decide +kernel), lookup_putF, if_pos rfl]
theorem bf_across (r : Rw) : (bf r).lookup ("across" : Str) = some (.int r.ac) := by
  unfold bf
  rw [lookup_putF, if_neg (by decide +kernel), lookup_putF, if_neg (by decide +kernel), lookup_putF, if_neg (by decide +kernel), lookup_putF, if_neg (by decide +kernel), lookup_putF, if_pos rfl]
theorem bf_weight (r : Rw) : (bf r).lookup ("weight" : Str) = some (.int r.we) := by
  unfold bf
  rw [lookup_putF, if_neg (by decide +kernel), lookup_putF, if_neg (by decide +kernel), lookup_putF, if_neg (by decide +kernel), lookup_putF, if_pos rfl]
theorem bf_shade (r : Rw) : (bf r).lookup ("shade" : Str) = some (.str r.sh) := by
  unfold bf
  rw [lookup_putF, if_neg (by decide +kernel), lookup_putF, if_neg (by decide +kernel), lookup_putF, if_pos rfl]
theorem bf_form (r : Rw) : (bf r).lookup ("form" : Str) = some (.str r.fo) := by
  unfold bf
  rw [lookup_putF, if_neg (by decide +kernel), lookup_putF, if_pos rfl]
theorem bf_drilled (r : Rw) : (bf r).lookup ("drilled" : Str) = some (.bl r.dr) := by
  unfold bf
  rw [lookup_putF, if_pos rfl]
theorem bf_no (r : Rw) {m : Str} (h1 : ¬ m = "drilled") (h2 : ¬ m = "form") (h3 : ¬ m = "shade") (h4 : ¬ m = "weight") (h5 : ¬ m = "across") (h6 : ¬ m = "number") : (bf r).lookup m = none := by
  unfold bf
  rw [lookup_putF, if_neg h1, lookup_putF, if_neg h2, lookup_putF, if_neg h3, lookup_putF, if_neg h4, lookup_putF, if_neg h5, lookup_putF, if_neg h6]
  rfl
theorem few {fs : List (Str × V)} {f : Str} {v : V} {n : Nat} (h : fs.length ≤ n) : (putF f v fs).length ≤ n + 1 := Nat.le_trans (length_putF f v fs) (by omega)
theorem few0 : ([] : List (Str × V)).length ≤ 0 := Nat.le_refl _
def BeadAt (C : Addr) (H : Hp) (p : Addr) (r : Rw) : Prop := ∃ dx, H p = some (.ins C dx (bf r))
def spBead (C : Addr) : Sp := fun vs H Q _ => ∃ (p dx : Addr) (r : Rw), vs = [.ref p, .int r.num, .int r.ac, .int r.we, .str r.sh, .str r.fo, .bl r.dr] ∧ H p = some (.ins C dx []) ∧ GoodRw r ∧
  ∀ H' : Hp, BeadAt C H' p r → (∀ b o, H b = some o → b ≠ p → H' b = some o) → Q .non H'
theorem ok_Bead_init (T : Tx K mg) : FnOk P w K mg base CX0 4 T.A_Bead_init T.fd_Bead_init ["self", "number", "across", "weight", "shade", "form", "drilled"] (spBead T.C_Bead) := by
  refine okD T.F_Bead_init sc_Bead_init (fun vs H Q E h => ?_) (fun cdv A outer s H vs Q E hr h => ?_)
  · obtain ⟨p, dx, r, rfl, hp, ⟨g1, g2, g3, g4, g5⟩, q⟩ := h
    rfl
  obtain ⟨p, dx, r, rfl, hp, ⟨g1, g2, g3, g4, g5⟩, q⟩ := h
  refine ⟨_, (pss_cons (ps_if (pt_not (pt_val (pe_call (ok_is_number T) (hr.mono (by decide)) (by rfl) T.g_is_number T.F_is_number.kp T.b_is_number .nil pass0 (pa_cons (pv 1) pa_nil)))) (pss_one ps_never) pss_nil)
      (pss_cons (ps_if (PW.pt (pw_or (pt_not (pt_val (pe_call (ok_is_measure T) (hr.mono (by decide)) (by rfl) T.g_is_measure T.F_is_measure.kp T.b_is_measure .nil pass0 (pa_cons (pv 2) pa_nil)))) (pw_or1 (pt_not (pt_val (pe_call (ok_is_measure T) (hr.mono (by decide)) (by rfl) T.g_is_measure T.F_is_measure.kp T.b_is_measure .nil pass0 (pa_cons (pv 3) pa_nil))))))) (pss_one ps_never) pss_nil)
      (pss_cons (ps_if (PW.pt (pw_or (pt_not (pt_val (pe_call (ok_is_name T) (hr.mono (by decide)) (by rfl) T.g_is_name T.F_is_name.kp T.b_is_name .nil pass0 (pa_cons (pv 4) pa_nil)))) (pw_or1 (pt_not (pt_val (pe_call (ok_is_name T) (hr.mono (by decide)) (by rfl) T.g_is_name T.F_is_name.kp T.b_is_name .nil pass0 (pa_cons (pv 5) pa_nil))))))) (pss_one ps_never) pss_nil)
      (pss_cons (ps_if (pt_not (pt_val (pe_callB call_isi (by rfl) T.z_isinstance (by decide +kernel) (pa_cons (pv 6) (pa_cons (pe_bltn (v := .ty "bool") (by rfl) T.z_bool (by decide +kernel) rfl) pa_nil))))) (pss_one ps_never) pss_nil)
      (pss_cons (ps_fld (pv 0) (pv 1) rfl)
      (pss_cons (ps_fld (pv 0) (pv 2) rfl)
      (pss_cons (ps_fld (pv 0) (pv 3) rfl)
      (pss_cons (ps_fld (pv 0) (pv 4) rfl)
      (pss_cons (ps_fld (pv 0) (pv 5) rfl)
      (pss_one (ps_fld (pv 0) (pv 6) rfl))))))))))), ?_⟩
  refine ⟨_, rfl, _, rfl, .int _, _, rfl, ?_⟩
  rw [g1]
  refine iteF ⟨_, rfl, _, rfl, .int _, _, rfl, ?_⟩
  rw [g2]
  refine iteF ⟨_, rfl, _, rfl, .int _, _, rfl, ?_⟩
  rw [g3]
  refine iteF ⟨_, rfl, _, rfl, .str _, (fun z hz => by injection hz with hz; rw [← hz]; exact short_name g4), fun H1 s1 => ⟨_, rfl, ?_⟩⟩
  rw [g4]
  refine iteF ⟨_, rfl, _, rfl, .str _, (fun z hz => by injection hz with hz; rw [← hz]; exact short_name g5), fun H2 s2 => ⟨_, rfl, ?_⟩⟩
  rw [g5]
  refine iteF ⟨_, rfl, _, _, _, _, _, rfl, .ty _, .base (.bl _), kit_ty (r := true) (by decide +kernel), _, rfl, ?_⟩
  refine iteF ?_
  have h2 := s2 _ _ (s1 _ _ hp)
  refine ⟨_, rfl, _, rfl, p, _, dx, _, rfl, h2, T.cl_Bead, T.n_Bead_number, by decide, ?_⟩
  refine ⟨_, rfl, _, rfl, p, _, dx, _, rfl, upd_same, T.cl_Bead, T.n_Bead_across, Nat.lt_of_le_of_lt (few few0) (by decide), ?_⟩
  refine ⟨_, rfl, _, rfl, p, _, dx, _, rfl, upd_same, T.cl_Bead, T.n_Bead_weight, Nat.lt_of_le_of_lt (few (few few0)) (by decide), ?_⟩
  refine ⟨_, rfl, _, rfl, p, _, dx, _, rfl, upd_same, T.cl_Bead, T.n_Bead_shade, Nat.lt_of_le_of_lt (few (few (few few0))) (by decide), ?_⟩
  refine ⟨_, rfl, _, rfl, p, _, dx, _, rfl, upd_same, T.cl_Bead, T.n_Bead_form, Nat.lt_of_le_of_lt (few (few (few (few few0)))) (by decide), ?_⟩
  refine ⟨_, rfl, _, rfl, p, _, dx, _, rfl, upd_same, T.cl_Bead, T.n_Bead_drilled, Nat.lt_of_le_of_lt (few (few (few (few (few few0))))) (by decide), ?_⟩
  refine q _ ⟨dx, upd_same⟩ fun b o e hb => ?_
  rw [upd_ne hb, upd_ne hb, upd_ne hb, upd_ne hb, upd_ne hb, upd_ne hb]
  exact s2 _ _ (s1 _ _ e)
theorem notT {b : Bool} (h : (!b) = true) : b = false := by cases b <;> simp_all
theorem notF {b : Bool} (h : ¬ (!b) = true) : b = true := by cases b <;> simp_all
def Sh (v : V) : Prop := ∀ z, v = .str z → z.length ≤ 100000
theorem whl_int {v : V} {lo hi : Int} (h : whl v lo hi = true) : ∃ i, v = .int i := by
  cases v with
  | int i => exact ⟨i, rfl⟩
  | _ => cases h
theorem nm_str {v : V} (h : nm v = true) : ∃ z, v = .str z := by
  cases v with
  | str z => exact ⟨z, rfl⟩
  | _ => cases h
/-- what is handed in as shades, and whether it is some -/
inductive ShV (K : PySem.W.Frag) (H : Hp) : V → Bool → Prop
  | no {v : V} {t : Value} (ty : TyX K H v t) (k : PySem.W.kitOne K t (.type "tuple") = some false) : ShV K H v false
  | odd {l : Addr} {xs : List V} (h : H l = some (.tup xs)) (th : ∀ x ∈ xs, Th K H x ∧ Sh x) (few : xs.length ≤ 100) (bad : (xs.map nm).all id = false) : ShV K H (.ref l) false
  | txt {l : Addr} {zs : List Str} (h : H l = some (.tup (zs.map V.str))) (g : ∀ z ∈ zs, nm (.str z) = true) (few : zs.length ≤ 100) : ShV K H (.ref l) (decide zs.Nodup)
theorem ShV.same {K : PySem.W.Frag} {H H' : Hp} {v : V} {b : Bool} (s : Same H H') (h : ShV K H v b) : ShV K H' v b := by
  cases h with
  | no ty k => exact .no (tyx_same s ty) k
  | odd h th few bad => exact .odd (s _ _ h) (fun x hx => ⟨(th x hx).1.same s, (th x hx).2⟩) few bad
  | txt h g few => exact .txt (s _ _ h) g few
def spShades (K : PySem.W.Frag) : Sp := fun vs H Q _ => ∃ (v : V) (b : Bool), vs = [v] ∧ ShV K H v b ∧ ∀ H', Same H H' → Q (.bl b) H'
theorem nms_all : ∀ {zs : List Str}, (∀ z ∈ zs, nm (.str z) = true) → ((zs.map V.str).map nm).all id = true
  | [], _ => rfl
  | z :: zs, h => by
    show (nm (.str z) && ((zs.map V.str).map nm).all id) = true
    rw [h z (List.mem_cons_self ..), nms_all fun y hy => h y (List.mem_cons_of_mem _ hy)]
    rfl
theorem bls_of {acc xs : List V} (l : acc.length = xs.length) (g : ∀ (j : Nat) (v : V), acc[j]? = some v → ∀ x, xs[j]? = some x → v = .bl (nm x)) : acc = (xs.map nm).map V.bl := by
  refine List.ext_getElem? fun i => ?_
  by_cases hi : i < acc.length
  · have hi2 : i < xs.length := by omega
    have := g i _ (List.getElem?_eq_getElem hi) _ (List.getElem?_eq_getElem hi2)
    rw [List.getElem?_eq_getElem hi, this, List.getElem?_map, List.getElem?_map, List.getElem?_eq_getElem hi2]
    rfl
  · rw [List.getElem?_eq_none (by omega), List.getElem?_eq_none (by rw [List.length_map, List.length_map]; omega)]
theorem ok_are_shades (T : Tx K mg) : FnOk P w K mg base CX0 2 T.A_are_shades T.fd_are_shades ["thing"] (spShades K) := by
  refine T.F_are_shades.ok sc_are_shades (fun vs H Q E h => ?_) (fun cdv A outer s H vs Q E hr h => ?_)
  · obtain ⟨v, b, rfl, hv, q⟩ := h
    rfl
  obtain ⟨v, b, rfl, hv, q⟩ := h
  refine ⟨_, (pss_cons (ps_if (PW.pt (pw_or (pt_not (pt_val (pe_callB call_isi (by rfl) T.z_isinstance (by decide +kernel) (pa_cons (pv 0) (pa_cons (pe_bltn (v := .ty "tuple") (by rfl) T.z_tuple (by decide +kernel) rfl) pa_nil))))) (pw_or1 (pt_not (pt_val (pe_callB (cr_all rfl) (by rfl) T.z_all (by decide +kernel) (pa_cons (pe_lc (own := [("shade", 1)]) (g := gName 1) (tt := tYes) rfl sc_are_shades.nd (pi_tup (pv 0)) (blkOk_by (N := ["thing", "shade"]) (sc := defScope s_are_shades) (by decide +kernel)) (fun _ _ _ _ _ => (pg_name (i := 1) sc_are_shades.nd rfl (Or.inl rfl))) (fun _ _ _ _ _ => pts_nil) (fun _ _ _ _ _ => (pe_call (ok_is_name T) (hr.mono (by decide)) (by rfl) T.g_is_name T.F_is_name.kp T.b_is_name .nil pass0 (pa_cons (pv 1) pa_nil)))) pa_nil))))))) (pss_one (ps_ret pe_bl)) pss_nil)
      (pss_one (ps_ret (pe_cmpR op_eq (pe_lenSetT rfl (by rfl) T.z_len (by rfl) T.z_set (pv 0)) (pe_callB call_len_seq (by rfl) T.z_len PySem.boot_len (pa_cons (pv 0) pa_nil)) (nomark _))))), ?_⟩
  cases hv with
  | no ty k =>
    refine ⟨_, rfl, v, _, _, _, _, rfl, .ty _, ty, k, _, rfl, iteT ?_⟩
    exact iteT (q H (Same.refl H))
  | @odd l xs h th few bad =>
    refine ⟨_, rfl, _, _, _, _, _, rfl, .ty _, .base (.tup h), kit_ty (r := true) (by decide +kernel), _, rfl, iteF ?_⟩
    refine ⟨_, rfl, l, rfl, ⟨_, .inl (.inl h)⟩, fun D hD => lc_genT (K := K) hD h (by omega) (fun j v _ => ∀ x, xs[j]? = some x → v = .bl (nm x)) (fun j v H1 H2 s h => h) ?_ ?_⟩
    · intro i x H2 R C hx s2 hR
      obtain ⟨tx, sx⟩ := th x (List.mem_of_getElem? hx)
      exact ⟨rfl, yesT ⟨_, rfl, x, rfl, tx.same s2, sx, fun H3 s3 => hR _ _ s3 fun y hy => by
        rw [hx] at hy
        cases hy
        rfl⟩⟩
    · intro H1 acc s1 e1 l1 g1
      rw [bls_of l1 g1] at e1
      refine ⟨D, xs.map nm, rfl, SqL.of e1, _, rfl, ?_⟩
      rw [bad]
      exact iteT (q H1 s1)
  | @txt l zs h g few =>
    refine ⟨_, rfl, _, _, _, _, _, rfl, .ty _, .base (.tup h), kit_ty (r := true) (by decide +kernel), _, rfl, iteF ?_⟩
    refine ⟨_, rfl, l, rfl, ⟨_, .inl (.inl h)⟩, fun D hD => lc_genT (K := K) hD h (by rw [List.length_map]; omega) (fun j v _ => ∀ x, (zs.map V.str)[j]? = some x → v = .bl (nm x)) (fun j v H1 H2 s h => h) ?_ ?_⟩
    · intro i x H2 R C hx s2 hR
      obtain ⟨z, hz, rfl⟩ := List.mem_map.mp (List.mem_of_getElem? hx)
      exact ⟨rfl, yesT ⟨_, rfl, _, rfl, .str z, (fun y hy => by injection hy with hy; rw [← hy]; exact short_name (g z hz)), fun H3 s3 => hR _ _ s3 fun y hy => by
        rw [hx] at hy
        cases hy
        rfl⟩⟩
    · intro H1 acc s1 e1 l1 g1
      rw [bls_of l1 g1] at e1
      refine ⟨D, (zs.map V.str).map nm, rfl, SqL.of e1, _, rfl, ?_⟩
      rw [nms_all g]
      refine iteF ?_
      have h1 := s1 _ _ h
      refine ⟨_, rfl, l, zs, rfl, h1, by omega, fun c hc hn => ⟨_, rfl, l, _, rfl, .inr (.inl (.inl h1)), rfl, ?_⟩⟩
      have e : decide (V.int (c : Nat) = V.int ((zs.map V.str).length : Nat)) = decide zs.Nodup := by
        rw [List.length_map, decide_eq_decide, ← hn]
        constructor
        · intro e
          injection e with e
          omega
        · intro e
          rw [e]
      rw [e]
      exact q H1 s1
def lf (p : Pt) (t : Addr) : List (Str × V) := putF "shades" (.ref t) (putF "most" (.int p.hi) (putF "least" (.int p.lo) (putF "room" (.int p.space) (putF "name" (.str p.called) []))))
theorem lf_name (p : Pt) (t : Addr) : (lf p t).lookup ("name" : Str) = some (.str p.called) := by
  unfold lf
  rw [lookup_putF, if_neg (by decide +kernel), lookup_putF, if_neg (by decide +kernel), lookup_putF, if_neg (by decide +kernel), lookup_putF, if_neg (by decide +kernel), lookup_putF, if_pos rfl]
theorem lf_room (p : Pt) (t : Addr) : (lf p t).lookup ("room" : Str) = some (.int p.space) := by
  unfold lf
  rw [lookup_putF, if_neg (by decide +kernel), lookup_putF, if_neg (by decide +kernel), lookup_putF, if_neg (by decide +kernel), lookup_putF, if_pos rfl]
theorem lf_least (p : Pt) (t : Addr) : (lf p t).lookup ("least" : Str) = some (.int p.lo) := by
  unfold lf
  rw [lookup_putF, if_neg (by decide +kernel), lookup_putF, if_neg (by decide +kernel), lookup_putF, if_pos rfl]
theorem lf_most (p : Pt) (t : Addr) : (lf p t).lookup ("most" : Str) = some (.int p.hi) := by
  unfold lf
  rw [lookup_putF, if_neg (by decide +kernel), lookup_putF, if_pos rfl]
theorem lf_shades (p : Pt) (t : Addr) : (lf p t).lookup ("shades" : Str) = some (.ref t) := by
  unfold lf
  rw [lookup_putF, if_pos rfl]
theorem lf_no (p : Pt) (t : Addr) {m : Str} (h1 : ¬ m = "shades") (h2 : ¬ m = "most") (h3 : ¬ m = "least") (h4 : ¬ m = "room") (h5 : ¬ m = "name") : (lf p t).lookup m = none := by
  unfold lf
  rw [lookup_putF, if_neg h1, lookup_putF, if_neg h2, lookup_putF, if_neg h3, lookup_putF, if_neg h4, lookup_putF, if_neg h5]
  rfl
def LotAt (C : Addr) (H : Hp) (a : Addr) (p : Pt) : Prop := ∃ dx t, H a = some (.ins C dx (lf p t)) ∧ H t = some (.tup (p.hues.map V.str))
theorem LotAt.same {C : Addr} {H H' : Hp} {a : Addr} {p : Pt} (s : Same H H') (h : LotAt C H a p) : LotAt C H' a p := by
  obtain ⟨dx, t, h1, h2⟩ := h
  exact ⟨dx, t, s _ _ h1, s _ _ h2⟩
theorem LotAt.nl {C : Addr} {H H' : Hp} {a : Addr} {p : Pt} (s : NL H H') (h : LotAt C H a p) : LotAt C H' a p := by
  obtain ⟨dx, t, h1, h2⟩ := h
  exact ⟨dx, t, s _ _ (fun _ z => by cases z) h1, s _ _ (fun _ z => by cases z) h2⟩
def ShH (H : Hp) (e : V) (zs : List Str) : Prop := (e = .non ∧ zs = []) ∨ ∃ l, e = .ref l ∧ H l = some (.tup (zs.map V.str))
/-- five things that make no lot -/
inductive NoLot (K : PySem.W.Frag) (H : Hp) : V → V → V → V → V → Prop
  | name {a b c d e : V} (ta : Th K H a) (sa : Sh a) (h : nm a = false) : NoLot K H a b c d e
  | room {a b c d e : V} (na : nm a = true) (tb : Th K H b) (h : whl b 0 20 = false) : NoLot K H a b c d e
  | least {a b c d e : V} (na : nm a = true) (wb : whl b 0 20 = true) (tc : Th K H c) (h : whl c 1 1000000 = false) : NoLot K H a b c d e
  | most {a b c d e : V} (na : nm a = true) (wb : whl b 0 20 = true) (wc : whl c 1 1000000 = true) (td : Th K H d) (h : whl d 1 1000000 = false) : NoLot K H a b c d e
  | less {a b e : V} {x y : Int} (na : nm a = true) (wb : whl b 0 20 = true) (wc : whl (.int x) 1 1000000 = true) (wd : whl (.int y) 1 1000000 = true) (h : y < x) : NoLot K H a b (.int x) (.int y) e
  | shades {a b e : V} {x y : Int} (na : nm a = true) (wb : whl b 0 20 = true) (wc : whl (.int x) 1 1000000 = true) (wd : whl (.int y) 1 1000000 = true) (le : x ≤ y) (ne : e ≠ .non) (h : ShV K H e false) : NoLot K H a b (.int x) (.int y) e
def spLotX (K : PySem.W.Frag) (C CB : Addr) : Sp := fun vs H Q E => ∃ (p dx : Addr) (a b c d e : V), vs = [.ref p, a, b, c, d, e] ∧ H p = some (.ins C dx []) ∧
  ((∃ u : Pt, GoodPt u ∧ a = .str u.called ∧ b = .int u.space ∧ c = .int u.lo ∧ d = .int u.hi ∧ ShH H e u.hues ∧ ∀ H' : Hp, LotAt C H' p u → (∀ b o, H b = some o → b ≠ p → H' b = some o) → Q .non H') ∨
   (NoLot K H a b c d e ∧ ∀ (H' : Hp) (dd : Addr) (z : Str), Same H H' → H' dd = some (.xd [("why", .str z)]) → E (.ref CB) (some dd) H'))
theorem th_nm {K : PySem.W.Frag} {H : Hp} {v : V} (h : nm v = true) : Th K H v ∧ Sh v := by
  obtain ⟨z, rfl⟩ := nm_str h
  exact ⟨.str z, fun y hy => by injection hy with hy; rw [← hy]; exact short_name h⟩
theorem sh_nm {v : V} (h : nm v = true) : Sh v := by
  obtain ⟨z, rfl⟩ := nm_str h
  exact fun y hy => by injection hy with hy; rw [← hy]; exact short_name h
theorem th_whl {K : PySem.W.Frag} {H : Hp} {v : V} {lo hi : Int} (h : whl v lo hi = true) : Th K H v := by
  obtain ⟨i, rfl⟩ := whl_int h
  exact .int i
theorem whl_ok {i lo hi : Int} (h1 : lo ≤ i) (h2 : i ≤ hi) : whl (.int i) lo hi = true := by
  show (decide (lo ≤ i) && decide (i ≤ hi)) = true
  rw [decide_eq_true h1, decide_eq_true h2]
  rfl
theorem ok_Lot_init (T : Tx K mg) : FnOk P w K mg base (L2.CX P w) 4 T.A_Lot_init T.fd_Lot_init ["self", "name", "room", "least", "most", "shades"] (spLotX K T.C_Lot T.C_BadLot) := by
  refine T.F_Lot_init.ok (CX := L2.CX P w) sc_Lot_init (fun vs H Q E h => ?_) (fun cdv A outer s H vs Q E hr h => ?_)
  · obtain ⟨p, dx, a, b, c, d, e, rfl, hp, hway⟩ := h
    rfl
  obtain ⟨p, dx, a, b, c, d, e, rfl, hp, hway⟩ := h
  refine ⟨_, (pss_cons (ps_if (pt_not (pt_val (pe_call (ok_is_name T) (hr.mono (by decide)) (by rfl) T.g_is_name T.F_is_name.kp T.b_is_name .nil pass0 (pa_cons (pv 1) pa_nil)))) (pss_one (ps_raise rfl (takes_of rfl rfl rfl rfl) (pmk_oex T.ox_BadLot T.in_BadLot T.ti_BadLot (ok_PearlError_init T) (hr.mono (by decide)) T.b_PearlError_init .nil pass0 (by rfl) T.g_BadLot (pa_cons pe_str pa_nil)))) pss_nil)
      (pss_cons (ps_if (pt_not (pt_val (pe_call (ok_is_whole T) (hr.mono (by decide)) (by rfl) T.g_is_whole T.F_is_whole.kp T.b_is_whole .nil pass0 (pa_cons (pv 2) (pa_cons pe_int (pa_cons (pe_glob (v := .int 20) (by rfl) T.g_MOST_ROOM ⟨_, rfl⟩) pa_nil)))))) (pss_one (ps_raise rfl (takes_of rfl rfl rfl rfl) (pmk_oex T.ox_BadLot T.in_BadLot T.ti_BadLot (ok_PearlError_init T) (hr.mono (by decide)) T.b_PearlError_init .nil pass0 (by rfl) T.g_BadLot (pa_cons pe_str pa_nil)))) pss_nil)
      (pss_cons (ps_if (PW.pt (pw_or (pt_not (pt_val (pe_call (ok_is_measure T) (hr.mono (by decide)) (by rfl) T.g_is_measure T.F_is_measure.kp T.b_is_measure .nil pass0 (pa_cons (pv 3) pa_nil)))) (pw_or (pt_not (pt_val (pe_call (ok_is_measure T) (hr.mono (by decide)) (by rfl) T.g_is_measure T.F_is_measure.kp T.b_is_measure .nil pass0 (pa_cons (pv 4) pa_nil)))) (pw_or1 (pt_cmpR op_lt (pv 4) (pv 3) (nomark _)))))) (pss_one (ps_raise rfl (takes_of rfl rfl rfl rfl) (pmk_oex T.ox_BadLot T.in_BadLot T.ti_BadLot (ok_PearlError_init T) (hr.mono (by decide)) T.b_PearlError_init .nil pass0 (by rfl) T.g_BadLot (pa_cons pe_str pa_nil)))) pss_nil)
      (pss_cons (ps_if (PW.pt (pw_and (pt_cmpR op_notN (pv 5) pe_non (nomark _)) (pw_and1 (pt_not (pt_val (pe_call (ok_are_shades T) (hr.mono (by decide)) (by rfl) T.g_are_shades T.F_are_shades.kp T.b_are_shades .nil pass0 (pa_cons (pv 5) pa_nil))))))) (pss_one (ps_raise rfl (takes_of rfl rfl rfl rfl) (pmk_oex T.ox_BadLot T.in_BadLot T.ti_BadLot (ok_PearlError_init T) (hr.mono (by decide)) T.b_PearlError_init .nil pass0 (by rfl) T.g_BadLot (pa_cons pe_str pa_nil)))) pss_nil)
      (pss_cons (ps_fld (pv 0) (pv 1) rfl)
      (pss_cons (ps_fld (pv 0) (pv 2) rfl)
      (pss_cons (ps_fld (pv 0) (pv 3) rfl)
      (pss_cons (ps_fld (pv 0) (pv 4) rfl)
      (pss_one (ps_fld (pv 0) (pe_ifExp (pt_cmpR op_isN (pv 5) pe_non (nomark _)) (pe_tup pa_nil) (pv 5)) rfl)))))))))), ?_⟩
  rcases hway with ⟨u, g, rfl, rfl, rfl, rfl, he, qy⟩ | ⟨hno, qn⟩
  · refine ⟨_, rfl, _, rfl, .str _, (fun z hz => by injection hz with hz; rw [← hz]; exact short_name g.name), fun H1 s1 => ⟨_, rfl, ?_⟩⟩
    rw [g.name]
    refine iteF ⟨_, rfl, _, 0, 20, rfl, .int _, _, rfl, ?_⟩
    rw [whl_ok g.s0 g.s1]
    refine iteF ⟨_, rfl, _, rfl, .int _, _, rfl, ?_⟩
    rw [whl_ok g.l0 (Int.le_trans g.lh g.h1)]
    refine iteF ⟨_, rfl, _, rfl, .int _, _, rfl, ?_⟩
    rw [whl_ok (Int.le_trans g.l0 g.lh) g.h1]
    refine iteF ⟨_, rfl, _, rfl, _, _, rfl, rfl, _, rfl, ?_⟩
    have lh := g.lh
    rw [decide_eq_false (show ¬ u.hi < u.lo by omega)]
    refine iteF ?_
    have hp1 := s1 _ _ hp
    rcases he with ⟨rfl, hz⟩ | ⟨l, rfl, hl⟩
    · refine ⟨_, rfl, rfl, _, rfl, iteF (iteF ?_)⟩
      refine ⟨_, rfl, _, rfl, p, _, dx, _, rfl, hp1, T.cl_Lot, T.n_Lot_name, by decide, ?_⟩
      refine ⟨_, rfl, _, rfl, p, _, dx, _, rfl, upd_same, T.cl_Lot, T.n_Lot_room, Nat.lt_of_le_of_lt (few few0) (by decide), ?_⟩
      refine ⟨_, rfl, _, rfl, p, _, dx, _, rfl, upd_same, T.cl_Lot, T.n_Lot_least, Nat.lt_of_le_of_lt (few (few few0)) (by decide), ?_⟩
      refine ⟨_, rfl, _, rfl, p, _, dx, _, rfl, upd_same, T.cl_Lot, T.n_Lot_most, Nat.lt_of_le_of_lt (few (few (few few0))) (by decide), ?_⟩
      refine ⟨_, rfl, rfl, _, rfl, iteT ⟨Nat.zero_le _, fun t ht => ?_⟩⟩
      have ntp : t ≠ p := fun z => by rw [z, upd_same] at ht; cases ht
      refine ⟨_, rfl, p, _, dx, _, rfl, same_upd ht _ _ upd_same, T.cl_Lot, T.n_Lot_shades, Nat.lt_of_le_of_lt (few (few (few (few few0)))) (by decide), ?_⟩
      refine qy _ ⟨dx, t, upd_same, ?_⟩ fun b o e hb => ?_
      · rw [upd_ne ntp, hz]
        exact upd_same
      · rw [upd_ne hb]
        refine same_upd ht _ _ ?_
        rw [upd_ne hb, upd_ne hb, upd_ne hb, upd_ne hb]
        exact s1 _ _ e
    · refine ⟨_, rfl, rfl, _, rfl, iteT ⟨_, rfl, _, _, rfl, .txt (s1 _ _ hl) g.hues (Nat.le_trans g.few (by decide)), fun H2 s2 => ⟨_, rfl, ?_⟩⟩⟩
      rw [decide_eq_true g.un]
      refine iteF ?_
      have hp2 := s2 _ _ hp1
      have nlp : l ≠ p := fun z => by rw [z, hp] at hl; cases hl
      refine ⟨_, rfl, _, rfl, p, _, dx, _, rfl, hp2, T.cl_Lot, T.n_Lot_name, by decide, ?_⟩
      refine ⟨_, rfl, _, rfl, p, _, dx, _, rfl, upd_same, T.cl_Lot, T.n_Lot_room, Nat.lt_of_le_of_lt (few few0) (by decide), ?_⟩
      refine ⟨_, rfl, _, rfl, p, _, dx, _, rfl, upd_same, T.cl_Lot, T.n_Lot_least, Nat.lt_of_le_of_lt (few (few few0)) (by decide), ?_⟩
      refine ⟨_, rfl, _, rfl, p, _, dx, _, rfl, upd_same, T.cl_Lot, T.n_Lot_most, Nat.lt_of_le_of_lt (few (few (few few0))) (by decide), ?_⟩
      refine ⟨_, rfl, rfl, _, rfl, iteF ⟨_, rfl, _, rfl, p, _, dx, _, rfl, upd_same, T.cl_Lot, T.n_Lot_shades, Nat.lt_of_le_of_lt (few (few (few (few few0)))) (by decide), ?_⟩⟩
      refine qy _ ⟨dx, l, upd_same, ?_⟩ fun b o e hb => ?_
      · rw [upd_ne nlp, upd_ne nlp, upd_ne nlp, upd_ne nlp, upd_ne nlp]
        exact s2 _ _ (s1 _ _ hl)
      · rw [upd_ne hb, upd_ne hb, upd_ne hb, upd_ne hb, upd_ne hb]
        exact s2 _ _ (s1 _ _ e)
  · have bad : ∀ (z : Str) (H1 : Hp), Same H H1 → [V.str z].length ≤ 1000 ∧ ∀ x, H1 x = none → spPearl K "why" (.ref x :: ([V.str z] ++ [])) (upd H1 x (exo x T.C_BadLot none)) (fun v H2 => v = .non ∧ ∃ (d : Addr) (fs : List (Str × V)), H2 x = some (exo x T.C_BadLot (some d)) ∧ H2 d = some (exd d fs) ∧ H1 d = none ∧ E (.ref T.C_BadLot) (some d) (upd (del H2 x) d (.xd fs))) (fun _ _ _ => False) := fun z H1 s1 => by
      refine ⟨(by show 1 ≤ 1000; decide), fun x hx => ⟨x, T.C_BadLot, .str z, rfl, T.ox_BadLot, T.nf_BadLot_why, upd_same, fun dd hd hne => ⟨rfl, dd, [("why", .str z)], upd_same, ?_, ?_, ?_⟩⟩⟩
      · rw [upd_ne hne]
        exact upd_same
      · rw [upd_ne hne] at hd
        exact hd
      · rw [upd_ne hne] at hd
        exact qn _ dd z (s1.trans (pearl_same hx hd)) upd_same
    cases hno with
    | name ta sa h =>
      refine ⟨_, rfl, a, rfl, ta, sa, fun H1 s1 => ⟨_, rfl, ?_⟩⟩
      rw [h]
      exact iteT (bad _ _ s1)
    | room na tb h =>
      refine ⟨_, rfl, a, rfl, (th_nm na).1, sh_nm na, fun H1 s1 => ⟨_, rfl, ?_⟩⟩
      rw [na]
      refine iteF ⟨_, rfl, _, 0, 20, rfl, tb.same s1, _, rfl, ?_⟩
      rw [h]
      exact iteT (bad _ _ s1)
    | least na wb tc h =>
      refine ⟨_, rfl, a, rfl, (th_nm na).1, sh_nm na, fun H1 s1 => ⟨_, rfl, ?_⟩⟩
      rw [na]
      refine iteF ⟨_, rfl, _, 0, 20, rfl, th_whl wb, _, rfl, ?_⟩
      rw [wb]
      refine iteF ⟨_, rfl, _, rfl, tc.same s1, _, rfl, ?_⟩
      rw [h]
      exact iteT (bad _ _ s1)
    | most na wb wc td h =>
      refine ⟨_, rfl, a, rfl, (th_nm na).1, sh_nm na, fun H1 s1 => ⟨_, rfl, ?_⟩⟩
      rw [na]
      refine iteF ⟨_, rfl, _, 0, 20, rfl, th_whl wb, _, rfl, ?_⟩
      rw [wb]
      refine iteF ⟨_, rfl, _, rfl, th_whl wc, _, rfl, ?_⟩
      rw [wc]
      refine iteF ⟨_, rfl, _, rfl, td.same s1, _, rfl, ?_⟩
      rw [h]
      exact iteT (bad _ _ s1)
    | less na wb wc wd h =>
      refine ⟨_, rfl, a, rfl, (th_nm na).1, sh_nm na, fun H1 s1 => ⟨_, rfl, ?_⟩⟩
      rw [na]
      refine iteF ⟨_, rfl, _, 0, 20, rfl, th_whl wb, _, rfl, ?_⟩
      rw [wb]
      refine iteF ⟨_, rfl, _, rfl, th_whl wc, _, rfl, ?_⟩
      rw [wc]
      refine iteF ⟨_, rfl, _, rfl, th_whl wd, _, rfl, ?_⟩
      rw [wd]
      refine iteF ⟨_, rfl, _, rfl, _, _, rfl, rfl, _, rfl, ?_⟩
      rw [decide_eq_true h]
      exact iteT (bad _ _ s1)
    | shades na wb wc wd le ne h =>
      refine ⟨_, rfl, a, rfl, (th_nm na).1, sh_nm na, fun H1 s1 => ⟨_, rfl, ?_⟩⟩
      rw [na]
      refine iteF ⟨_, rfl, _, 0, 20, rfl, th_whl wb, _, rfl, ?_⟩
      rw [wb]
      refine iteF ⟨_, rfl, _, rfl, th_whl wc, _, rfl, ?_⟩
      rw [wc]
      refine iteF ⟨_, rfl, _, rfl, th_whl wd, _, rfl, ?_⟩
      rw [wd]
      refine iteF ⟨_, rfl, _, rfl, _, _, rfl, rfl, _, rfl, ?_⟩
      rw [decide_eq_false (by omega)]
      refine iteF ⟨_, rfl, rfl, _, rfl, ?_⟩
      rw [decide_eq_false ne]
      refine iteT ⟨_, rfl, _, false, rfl, h.same s1, fun H2 s2 => ⟨_, rfl, iteT (bad _ _ (s1.trans s2))⟩⟩
end
end KB
namespace KB
open PySem PySem.Spec PyProof.Rows L2 KA
section
variable {P : Program} {w : World} {K : PySem.W.Frag} {mg : Str → Option Value} {base : Heap}
theorem sh_name {z : Str} (h : nm (.str z) = true) : PyData.canLay0 (.str z) = true := by
  have nmE : nm (.str z) = (decide (1 ≤ z.length) && decide (z.length ≤ 8) && z.cps.toList.all lower) := rfl
  rw [nmE] at h
  simp only [Bool.and_eq_true] at h
  show z.cps.all (· < 0x110000) = true
  rw [← Array.all_toList, List.all_eq_true]
  intro c hc
  have := lower_lt (List.all_eq_true.mp h.2 c hc)
  exact decide_eq_true (by omega)
/-! ### how a bead is shown -/
theorem lower_print {c : Nat} (h : lower c = true) (q : Nat) (hq : q = 39) : Builtin.Str.reprChar q c = [c] := by
  have all : (List.range 128).all (fun c => !lower c || (Builtin.Str.reprChar 39 c == [c])) = true := by decide +kernel
  have hl : c < 128 := by
    have := lower_lt h
    omega
  have := List.all_eq_true.mp all c (List.mem_range.mpr hl)
  rw [h] at this
  rw [hq]
  simpa using this
theorem repr_fold (q : Nat) (hq : q = 39) : ∀ (l : List Nat) (acc : Array Nat), (∀ c ∈ l, lower c = true) → (l.foldl (fun out c => out ++ (Builtin.Str.reprChar q c).toArray) acc).toList = acc.toList ++ l
  | [], acc, _ => by simp
  | c :: r, acc, h => by
    rw [List.foldl_cons, repr_fold q hq r _ (fun d hd => h d (List.mem_cons_of_mem _ hd)), lower_print (h c (List.mem_cons_self ..)) q hq]
    simp
theorem nm_low {z : Str} (h : nm (.str z) = true) : z.length ≤ 8 ∧ ∀ c ∈ z.cps.toList, lower c = true := by
  have nmE : nm (.str z) = (decide (1 ≤ z.length) && decide (z.length ≤ 8) && z.cps.toList.all lower) := rfl
  rw [nmE] at h
  simp only [Bool.and_eq_true, decide_eq_true_eq] at h
  exact ⟨h.1.2, fun c hc => List.all_eq_true.mp h.2 c hc⟩
theorem repr_name {z : Str} (h : nm (.str z) = true) : TL.tl (PySem.reprText z) = 39 :: (TL.tl z ++ [39]) := by
  obtain ⟨_, h⟩ := nm_low h
  have hq : PySem.reprQuote z = 39 := by
    unfold PySem.reprQuote
    have : z.cps.contains 39 = false := by
      rw [Bool.eq_false_iff]
      intro hc
      have := h 39 (by simpa using hc)
      exact absurd this (by decide)
    rw [this]
    rfl
  unfold PySem.reprText
  show (Array.push _ _).toList = _
  rw [Array.toList_push, ← Array.foldl_toList, repr_fold _ hq _ _ h, hq]
  rfl
def nL (i : Int) : List Nat := TL.tl (Str.ofString (toString i))
theorem app_le {x y : Str} {m n : Nat} (hx : x.length ≤ m) (hy : y.length ≤ n) : (x ++ y).length ≤ m + n := by
  rw [Str.length_append]
  omega
theorem fit {x : Str} {m : Nat} (h : x.length ≤ m) (hm : m ≤ 100000 := by decide) : x.length ≤ sizeLine := sz _ (Nat.le_trans h hm)
theorem num_le {n : Int} (h0 : 0 ≤ n) (h1 : n ≤ 1000000000) : (Str.ofString (toString n)).length ≤ 59 := toString_length_le h0 (by decide) (by
  have e : (10 : Int) ^ 59 = 100000000000000000000000000000000000000000000000000000000000 := by decide
  rw [e]
  omega)
theorem num_log {n : Int} (h0 : 1 ≤ n) (h1 : n ≤ 1000000000) : n.natAbs.log2 < 1920 := by
  exact Nat.lt_of_lt_of_le (PySem.Flt.log2_lt_of (k := 200) (by omega) (by
      have e2 : (2 : Nat) ^ 200 = 1606938044258990275541962092341162602522202993782792835301376 := by decide
      rw [e2]
      omega)) (by decide)
theorem whl_of {i lo hi : Int} (h : whl (.int i) lo hi = true) : lo ≤ i ∧ i ≤ hi := by
  have e : whl (.int i) lo hi = (decide (lo ≤ i) && decide (i ≤ hi)) := rfl
  rw [e] at h
  simpa using h
theorem c_emp : Str.empty.length ≤ 0 := by decide +kernel
theorem emp_app (x : Str) : TL.tl (Str.empty ++ x) = TL.tl x := by
  rw [TL.tl_append]
  rfl
def fitsB (u : Pt) (r : Rw) : Bool := decide (u.lo ≤ r.ac) && decide (r.ac ≤ u.hi) && (u.hues.isEmpty || u.hues.contains r.sh)
def strsD (zs : List Str) : List PyData := zs.map PyData.str
theorem strs_dp {K : PySem.W.Frag} {H : Hp} : ∀ zs : List Str, DpAll K H (zs.map V.str) (strsD zs)
  | [] => .nil
  | z :: zs => .cons (.str z) (strs_dp zs)
theorem strsD_ok : ∀ {zs : List Str}, (∀ z ∈ zs, nm (.str z) = true) → PyData.canLayAll0 (strsD zs) = true ∧ PyData.depthAll (strsD zs) ≤ 0
  | [], _ => ⟨rfl, by decide⟩
  | z :: zs, h => by
    obtain ⟨a, b⟩ := strsD_ok fun y hy => h y (List.mem_cons_of_mem _ hy)
    refine ⟨?_, ?_⟩
    · show (PyData.canLay0 (.str z) && PyData.canLayAll0 (strsD zs)) = true
      rw [a, sh_name (h z (List.mem_cons_self ..))]
      rfl
    · show max 0 (PyData.depthAll (strsD zs)) ≤ 0
      omega
theorem tupD_sh {zs : List Str} (h : ∀ z ∈ zs, nm (.str z) = true) : SeqAt.shaped (.tuple (strsD zs)) = true := by
  obtain ⟨a, b⟩ := strsD_ok h
  show (PyData.canLayAll0 (strsD zs) && decide (PyData.depthAll (strsD zs) + 1 ≤ 64)) = true
  rw [a, decide_eq_true (by omega)]
  rfl
theorem lstD_sh {zs : List Str} (h : ∀ z ∈ zs, nm (.str z) = true) : SeqAt.shaped (.list (strsD zs)) = true := by
  obtain ⟨a, b⟩ := strsD_ok h
  show (PyData.canLayAll0 (strsD zs) && decide (PyData.depthAll (strsD zs) + 1 ≤ 64)) = true
  rw [a, decide_eq_true (by omega)]
  rfl
theorem strs_eqv : ∀ xs ys : List Str, PyData.eqvAll (strsD xs) (strsD ys) = decide (xs = ys)
  | [], [] => rfl
  | [], _ :: _ => rfl
  | _ :: _, [] => rfl
  | x :: xs, y :: ys => by
    show ((x == y) && PyData.eqvAll (strsD xs) (strsD ys)) = _
    rw [strs_eqv xs ys, Bool.eq_iff_iff]
    simp
theorem eqv_nilT (zs : List Str) : PyData.eqv (.tuple (strsD zs)) (.tuple []) = zs.isEmpty := by
  cases zs <;> rfl
theorem inV_strs (z : Str) : ∀ zs : List Str, inV (.str z) (zs.map V.str) = zs.contains z
  | [] => rfl
  | y :: zs => by
    have ih := inV_strs z zs
    show (eqV (.str y) (.str z) || inV (.str z) (zs.map V.str)) = _
    rw [ih, List.contains_cons]
    congr 1
    show (y == z) = (z == y)
    rw [Bool.eq_iff_iff, beq_iff_eq, beq_iff_eq]
    exact ⟨fun e => e.symm, fun e => e.symm⟩
theorem flat_strs : ∀ zs : List Str, (zs.map V.str).all flatV = true
  | [] => rfl
  | _ :: zs => by
    show (true && (zs.map V.str).all flatV) = true
    rw [flat_strs zs]
    rfl
def spFits (CB CL : Addr) : Sp := fun vs H Q _ => ∃ (q b : Addr) (u : Pt) (r : Rw), vs = [.ref q, .ref b] ∧ LotAt CL H q u ∧ GoodPt u ∧ BeadAt CB H b r ∧ ∀ H', Same H H' → Q (.bl (fitsB u r)) H'
theorem ok_Lot_fits (T : Tx K mg) : FnOk P w K mg base CX0 1 T.A_Lot_fits T.fd_Lot_fits ["self", "bead"] (spFits T.C_Bead T.C_Lot) := by
  refine T.F_Lot_fits.ok sc_Lot_fits (fun vs H Q E h => ?_) (fun cdv A outer s H vs Q E hr h => ?_)
  · obtain ⟨p, b, u, r, rfl, ⟨dx, t, hp, ht⟩, g, ⟨db, hb⟩, q⟩ := h
    rfl
  obtain ⟨p, b, u, r, rfl, ⟨dx, t, hp, ht⟩, g, ⟨db, hb⟩, q⟩ := h
  refine ⟨_, (pss_cons (ps_if (pt_not (pt_chain op_le op_le (pe_fld (pv 0) rfl) (pe_fld (pv 1) rfl) (pe_fld (pv 0) rfl))) (pss_one (ps_ret pe_bl)) pss_nil)
      (pss_one (ps_ret (pe_or (pe_cmpR (op_eqD hr.units) (pe_fld (pv 0) rfl) (pe_tup pa_nil) (nomark _)) (pe_one (pe_cmpR op_in_seq (pe_fld (pv 1) rfl) (pe_fld (pv 0) rfl) (by rfl))))))), ?_⟩
  refine ⟨_, rfl, p, _, dx, _, _, rfl, hp, T.cl_Lot, T.n_Lot_least, lf_least u t, _, rfl, b, _, db, _, _, rfl, hb, T.cl_Bead, T.n_Bead_across, bf_across r, _, _, rfl, rfl, _, rfl, ?_⟩
  have e : fitsB u r = (decide (u.lo ≤ r.ac) && decide (r.ac ≤ u.hi) && (u.hues.isEmpty || u.hues.contains r.sh)) := rfl
  refine ite2 (fun h1 => ?_) (fun h1 => ?_)
  rotate_left
  · rw [Bool.not_eq_true] at h1
    rw [h1] at e
    refine ⟨_, rfl, iteT ?_⟩
    have q := q H (Same.refl H)
    rw [e] at q
    exact q
  rw [h1, Bool.true_and] at e
  refine ⟨_, rfl, p, _, dx, _, _, rfl, hp, T.cl_Lot, T.n_Lot_most, lf_most u t, _, _, rfl, rfl, _, rfl, ?_⟩
  by_cases h2 : decide (r.ac ≤ u.hi) = true
  · rw [h2, Bool.true_and] at e
    rw [h2]
    refine iteF ?_
    refine ⟨_, rfl, p, _, dx, _, _, rfl, hp, T.cl_Lot, T.n_Lot_shades, lf_shades u t, Nat.zero_le _, fun t0 ht0 => ?_⟩
    have z := same_upd ht0 (o := .tup [])
    refine ⟨.tuple (strsD u.hues), .tuple [], .tup (.inl (.inl (z _ _ ht))) (strs_dp _), .tup (.inl (.inl upd_same)) .nil, tupD_sh g.hues, rfl, _, rfl, ?_⟩
    rw [eqv_nilT]
    refine ite2 (fun h3 => ?_) (fun h3 => ?_)
    · rw [h3, Bool.true_or] at e
      have q := q _ z
      rw [e] at q
      exact q
    · rw [Bool.not_eq_true] at h3
      rw [h3, Bool.false_or] at e
      refine ⟨_, rfl, b, _, db, _, _, rfl, z _ _ hb, T.cl_Bead, T.n_Bead_shade, bf_shade r, _, rfl, p, _, dx, _, _, rfl, z _ _ hp, T.cl_Lot, T.n_Lot_shades, lf_shades u t, t, _, rfl, .inr (.inl (.inl (z _ _ ht))), rfl, flat_strs _, ?_⟩
      have q := q _ z
      rw [e, ← inV_strs] at q
      exact q
  · rw [Bool.not_eq_true] at h2
    rw [h2, Bool.false_and] at e
    rw [h2]
    have q := q H (Same.refl H)
    rw [e] at q
    exact iteT q
def spLotLen (CL : Addr) : Sp := fun vs H Q _ => ∃ (a : Addr) (u : Pt), vs = [.ref a] ∧ LotAt CL H a u ∧ GoodPt u ∧ Q (.int u.space) H
theorem ok_Lot_len (T : Tx K mg) : FnOk P w K mg base CX0 1 T.A_Lot_len T.fd_Lot_len ["self"] (spLotLen T.C_Lot) := by
  refine T.F_Lot_len.ok sc_Lot_len (fun vs H Q E h => ?_) (fun cdv A outer s H vs Q E hr h => ?_)
  · obtain ⟨a, u, rfl, ⟨dx, t, hp, ht⟩, g, q⟩ := h
    rfl
  obtain ⟨a, u, rfl, ⟨dx, t, hp, ht⟩, g, q⟩ := h
  refine ⟨_, (pss_one (ps_ret (pe_lenRg (by rfl) T.z_len (prg_1 (by rfl) T.z_range (pe_fld (pv 0) rfl))))), ?_⟩
  have s0 := g.s0
  have s1 := g.s1
  refine ⟨_, rfl, a, _, dx, _, _, rfl, hp, T.cl_Lot, T.n_Lot_room, lf_room u t, u.space, rfl, by omega, ?_⟩
  have e : (((u.space - 0).toNat : Nat) : Int) = u.space := by omega
  rw [e]
  exact q
def six : List String := ["int", "str", "bool", "NoneType", "list", "tuple"]
theorem no6 {K : PySem.W.Frag} {mg : Str → Option Value} (T : Tx K mg) {t : String} (h : t ∈ six) : PySem.W.kitOne K (.type t) (.ref T.C_Lot) = some false := by
  unfold six at h
  simp only [List.mem_cons, List.not_mem_nil, or_false] at h
  rcases h with rfl | rfl | rfl | rfl | rfl | rfl
  · exact T.no_int
  · exact T.no_str
  · exact T.no_bool
  · exact T.no_NoneType
  · exact T.no_list
  · exact T.no_tuple
def likeLot (u v : Pt) : Bool := decide (u.called = v.called) && (decide (u.space = v.space) && (decide (u.lo = v.lo) && (decide (u.hi = v.hi) && decide (u.hues.Perm v.hues))))
def RLot (K : PySem.W.Frag) (CB C : Addr) : Addr → V → Bool → Hp → Prop := fun a y b H => ∃ u, LotAt C H a u ∧ GoodPt u ∧ ((∃ p v, y = .ref p ∧ LotAt C H p v ∧ GoodPt v ∧ b = likeLot u v) ∨ (∃ t, t ∈ six ∧ TyX K H y (.type t) ∧ b = false) ∨ (∃ p r, y = .ref p ∧ BeadAt CB H p r ∧ b = false))
theorem dec_int (a b : Int) : decide (V.int a = V.int b) = decide (a = b) := by
  rw [decide_eq_decide]
  exact ⟨fun e => by injection e, fun e => by rw [e]⟩
theorem dec_str (a b : Str) : decide (V.str a = V.str b) = decide (a = b) := by
  rw [decide_eq_decide]
  exact ⟨fun e => by injection e, fun e => by rw [e]⟩
theorem cps_ext {x y : Str} (h : x.cps.toList = y.cps.toList) : x = y := TL.ext_tl h
theorem rising_le : ∀ {p : Str} {xs : List Str}, risingS p xs = true → (∀ x ∈ xs, p.cps.toList ≤ x.cps.toList) ∧ xs.Pairwise fun a b => a.cps.toList ≤ b.cps.toList
  | _, [], _ => ⟨(fun _ h => by cases h), .nil⟩
  | p, x :: xs, h => by
    have h : (!ltCps x.cps.toList p.cps.toList && risingS x xs) = true := h
    rw [Bool.and_eq_true, Bool.not_eq_true', ltCps_eq, decide_eq_false_iff_not] at h
    have le : p.cps.toList ≤ x.cps.toList := List.not_lt.mp h.1
    obtain ⟨h1, h2⟩ := rising_le h.2
    refine ⟨fun y hy => ?_, .cons h1 h2⟩
    rcases List.mem_cons.mp hy with rfl | hy
    · exact le
    · exact List.le_trans le (h1 y hy)
theorem sorted_le {xs : List Str} (h : sortedS xs = true) : xs.Pairwise fun a b => a.cps.toList ≤ b.cps.toList := by
  cases xs with
  | nil => exact .nil
  | cons x xs =>
    obtain ⟨h1, h2⟩ := rising_le (show risingS x xs = true from h)
    exact .cons h1 h2
theorem order_unique : ∀ {xs ys : List Str}, xs.Perm ys → (xs.Pairwise fun a b => a.cps.toList ≤ b.cps.toList) → (ys.Pairwise fun a b => a.cps.toList ≤ b.cps.toList) → xs = ys
  | [], ys, p, _, _ => (List.nil_perm.mp p).symm
  | x :: xs, [], p, _, _ => absurd p.length_eq (by simp)
  | x :: xs, y :: ys, p, hx, hy => by
    obtain ⟨hx1, hx2⟩ := List.pairwise_cons.mp hx
    obtain ⟨hy1, hy2⟩ := List.pairwise_cons.mp hy
    have e : x = y := by
      rcases List.mem_cons.mp (p.mem_iff.mp (List.mem_cons_self ..)) with e | m1
      · exact e
      · rcases List.mem_cons.mp (p.mem_iff.mpr (List.mem_cons_self ..)) with e | m2
        · exact e.symm
        · exact cps_ext (List.le_antisymm (hx1 _ m2) (hy1 _ m1))
    subst e
    rw [order_unique (List.perm_cons _ |>.mp p) hx2 hy2]
theorem sorted_same {xs ys a b : List Str} (p1 : xs.Perm a) (p2 : ys.Perm b) (h1 : sortedS xs = true) (h2 : sortedS ys = true) : decide (xs = ys) = decide (a.Perm b) := by
  rw [decide_eq_decide]
  constructor
  · intro e
    subst e
    exact p1.symm.trans p2
  · intro p
    exact order_unique (p1.trans (p.trans p2.symm)) (sorted_le h1) (sorted_le h2)
theorem ok_Lot_eq (T : Tx K mg) : FnOk P w K mg base CX0 1 T.A_Lot_eq T.fd_Lot_eq ["self", "other"] (spEqO (RLot K T.C_Bead T.C_Lot)) := by
  refine T.F_Lot_eq.ok sc_Lot_eq (fun vs H Q E h => ?_) (fun cdv A outer s H vs Q E hr h => ?_)
  · obtain ⟨a, y, b, rfl, ⟨u, ⟨dx, t, ha, ht⟩, g, hy⟩, q⟩ := h
    rfl
  obtain ⟨a, y, b, rfl, ⟨u, ⟨dx, t, ha, ht⟩, g, hy⟩, q⟩ := h
  refine ⟨_, (pss_one (ps_ret (pe_and (pe_callB call_isi (by rfl) T.z_isinstance (by decide +kernel) (pa_cons (pv 1) (pa_cons (pe_glob (v := .ref T.C_Lot) (by rfl) T.g_Lot rfl) pa_nil))) (pe_and (pe_cmpR op_eq (pe_fld (pv 0) rfl) (pe_fld (pv 1) rfl) (nomark _)) (pe_and (pe_cmpR op_eq (pe_fld (pv 0) rfl) (pe_fld (pv 1) rfl) (nomark _)) (pe_and (pe_cmpR op_eq (pe_fld (pv 0) rfl) (pe_fld (pv 1) rfl) (nomark _)) (pe_and (pe_cmpR op_eq (pe_fld (pv 0) rfl) (pe_fld (pv 1) rfl) (nomark _)) (pe_one (pe_cmpR (op_eqD hr.units) (pe_callB cr_sortedT (by rfl) T.z_sorted (by decide +kernel) (pa_cons (pe_fld (pv 0) rfl) pa_nil)) (pe_callB cr_sortedT (by rfl) T.z_sorted (by decide +kernel) (pa_cons (pe_fld (pv 1) rfl) pa_nil)) (nomark _)))))))))), ?_⟩
  rcases hy with ⟨p, v, rfl, ⟨dy, t2, hp, ht2⟩, g2, rfl⟩ | ⟨tn, htn, ty, rfl⟩ | ⟨p, r, rfl, ⟨db, hb⟩, rfl⟩
  · refine ⟨_, rfl, .ref p, .ref T.C_Lot, .ref T.C_Lot, .ref T.C_Lot, true, rfl, .own _, T.ic_Lot.ty T.cl_Lot hp, T.i_Lot, _, rfl, iteT ?_⟩
    have e : likeLot u v = (decide (u.called = v.called) && (decide (u.space = v.space) && (decide (u.lo = v.lo) && (decide (u.hi = v.hi) && decide (u.hues.Perm v.hues))))) := rfl
    have no : likeLot u v = false → Q (.bl false) H := fun h => by
      have := q H Ext.rfl'
      rwa [h] at this
    refine ⟨_, rfl, a, _, dx, _, _, rfl, ha, T.cl_Lot, T.n_Lot_name, lf_name u t, _, rfl, p, _, dy, _, _, rfl, hp, T.cl_Lot, T.n_Lot_name, lf_name v t2, rfl, _, rfl, ?_⟩
    rw [dec_str]
    refine ite2 (fun h1 => ?_) (fun h1 => no (by rw [Bool.not_eq_true] at h1; rw [h1] at e; exact e))
    rw [h1, Bool.true_and] at e
    refine ⟨_, rfl, a, _, dx, _, _, rfl, ha, T.cl_Lot, T.n_Lot_room, lf_room u t, _, rfl, p, _, dy, _, _, rfl, hp, T.cl_Lot, T.n_Lot_room, lf_room v t2, rfl, _, rfl, ?_⟩
    rw [dec_int]
    refine ite2 (fun h1 => ?_) (fun h1 => no (by rw [Bool.not_eq_true] at h1; rw [h1] at e; exact e))
    rw [h1, Bool.true_and] at e
    refine ⟨_, rfl, a, _, dx, _, _, rfl, ha, T.cl_Lot, T.n_Lot_least, lf_least u t, _, rfl, p, _, dy, _, _, rfl, hp, T.cl_Lot, T.n_Lot_least, lf_least v t2, rfl, _, rfl, ?_⟩
    rw [dec_int]
    refine ite2 (fun h1 => ?_) (fun h1 => no (by rw [Bool.not_eq_true] at h1; rw [h1] at e; exact e))
    rw [h1, Bool.true_and] at e
    refine ⟨_, rfl, a, _, dx, _, _, rfl, ha, T.cl_Lot, T.n_Lot_most, lf_most u t, _, rfl, p, _, dy, _, _, rfl, hp, T.cl_Lot, T.n_Lot_most, lf_most v t2, rfl, _, rfl, ?_⟩
    rw [dec_int]
    refine ite2 (fun h1 => ?_) (fun h1 => no (by rw [Bool.not_eq_true] at h1; rw [h1] at e; exact e))
    rw [h1, Bool.true_and] at e
    refine ⟨_, rfl, a, _, dx, _, _, rfl, ha, T.cl_Lot, T.n_Lot_shades, lf_shades u t, t, u.hues, rfl, ht, Nat.lt_of_le_of_lt g.few (by decide), fun ys p1 hp1 hs1 hpn1 => ?_⟩
    have z1 := same_upd hpn1 (o := .lst (ys.map V.str))
    refine ⟨_, rfl, p, _, dy, _, _, rfl, z1 _ _ hp, T.cl_Lot, T.n_Lot_shades, lf_shades v t2, t2, v.hues, rfl, z1 _ _ ht2, Nat.lt_of_le_of_lt g2.few (by decide), fun ys2 p2 hp2 hs2 hpn2 => ?_⟩
    have z2 := same_upd hpn2 (o := .lst (ys2.map V.str))
    refine ⟨.list (strsD ys), .list (strsD ys2), .lst (SqL.of (z2 _ _ upd_same)) (strs_dp _), .lst (SqL.of upd_same) (strs_dp _), lstD_sh (fun z hz => g.hues z (hp1.mem_iff.mp hz)), lstD_sh (fun z hz => g2.hues z (hp2.mem_iff.mp hz)), ?_⟩
    have q := q _ (z1.trans z2)
    rw [e, ← sorted_same hp1 hp2 hs1 hs2, ← strs_eqv] at q
    exact q
  · exact ⟨_, rfl, y, .ref T.C_Lot, .type tn, .ref T.C_Lot, false, rfl, .own _, ty, no6 T htn, _, rfl, iteF (q H Ext.rfl')⟩
  · exact ⟨_, rfl, .ref p, .ref T.C_Lot, .ref T.C_Bead, .ref T.C_Lot, false, rfl, .own _, T.ic_Bead.ty T.cl_Bead hb, T.no_LB, _, rfl, iteF (q H Ext.rfl')⟩
end
end KB
namespace KB
open PySem PySem.Spec PyProof.Rows L2 KA
section
variable {P : Program} {w : World} {K : PySem.W.Frag} {mg : Str → Option Value} {base : Heap}
def lotL (u : Pt) : List Nat := TL.tl u.called ++ (TL.tl " " ++ (nL u.space ++ (TL.tl " " ++ (nL u.lo ++ (TL.tl " " ++ (nL u.hi ++ (TL.tl " " ++ (if u.hues.isEmpty then TL.tl "-" else TL.tl (Txt.join "," u.hues)))))))))
def lotS (u : Pt) : Str := ⟨(lotL u).toArray⟩
theorem lotS_of {u : Pt} {z : Str} (h : TL.tl z = lotL u) : z = lotS u := TL.ext_tl (by rw [h]; rfl)
theorem num_log0 {n : Int} (h0 : 0 ≤ n) (h1 : n ≤ 1000000000) : n.natAbs.log2 < 1920 := by
  rcases Int.lt_or_eq_of_le h0 with h | h
  · exact num_log (by omega) h1
  · rw [← h]
    decide
theorem joins_le {s : Str} {m : Nat} : ∀ {xs : List Str}, (∀ x ∈ xs, x.length ≤ m) → (xs.map (·.length)).sum + xs.length * s.length ≤ xs.length * (m + s.length)
  | [], _ => by simp
  | x :: xs, h => by
    have := joins_le (s := s) (xs := xs) fun y hy => h y (List.mem_cons_of_mem _ hy)
    have := h x (List.mem_cons_self ..)
    rw [List.map_cons, List.sum_cons, List.length_cons, Nat.add_mul, Nat.one_mul, Nat.add_mul, Nat.one_mul]
    omega
theorem jn_le {s : Str} {xs : List Str} {m : Nat} (h : (xs.map (·.length)).sum + xs.length * s.length ≤ m) : (Txt.join s xs).length ≤ m := by
  refine Nat.le_trans ?_ h
  rw [TL.len_tl, TL.join_eq, TL.tl_join]
  generalize hL : s.length = k
  have hk : (TL.tl s).length = k := by rw [← TL.len_tl]; exact hL
  clear h hL
  induction xs with
  | nil => exact Nat.zero_le _
  | cons a r ih =>
    cases r with
    | nil =>
      simp only [List.map_cons, List.map_nil, TL.joinL, List.sum_cons, List.sum_nil, List.length_cons, List.length_nil]
      rw [← TL.len_tl]
      omega
    | cons b r =>
      have e : TL.joinL (TL.tl s) ((a :: b :: r).map TL.tl) = TL.tl a ++ (TL.tl s ++ TL.joinL (TL.tl s) ((b :: r).map TL.tl)) := rfl
      have e2 : ((a :: b :: r).map (·.length)).sum = a.length + ((b :: r).map (·.length)).sum := List.sum_cons
      have e3 : (a :: b :: r).length * k = (b :: r).length * k + k := by rw [List.length_cons, Nat.add_mul, Nat.one_mul]
      rw [e, List.length_append, List.length_append, hk, e2, e3, ← TL.len_tl]
      omega
theorem hues_le {u : Pt} (g : GoodPt u) : ∀ z ∈ u.hues, z.length ≤ 8 := fun z hz => (nm_low (g.hues z hz)).1
def spLotStr (C : Addr) : Sp := fun vs H Q _ => ∃ (a : Addr) (u : Pt), vs = [.ref a] ∧ LotAt C H a u ∧ GoodPt u ∧ ∀ H', Same H H' → Q (.str (lotS u)) H'
theorem ok_Lot_str (T : Tx K mg) : FnOk P w K mg base CX0 1 T.A_Lot_str T.fd_Lot_str ["self"] (spLotStr T.C_Lot) := by
  refine T.F_Lot_str.ok sc_Lot_str (fun vs H Q E h => ?_) (fun cdv A outer s H vs Q E hr h => ?_)
  · obtain ⟨a, u, rfl, ⟨dx, t, ha, ht⟩, g, q⟩ := h
    rfl
  obtain ⟨a, u, rfl, ⟨dx, t, ha, ht⟩, g, q⟩ := h
  refine ⟨_, (pss_cons (ps_if (pt_cmpR (op_eqD hr.units) (pe_fld (pv 0) rfl) (pe_tup pa_nil) (nomark _)) (pss_one (ps_ret (pe_joined (PJ.cons (pe_fmtB (pe_fld (pv 0) rfl)) (PJ.cons pe_str (PJ.cons (pe_fmtB (pe_fld (pv 0) rfl)) (PJ.cons pe_str (PJ.cons (pe_fmtB (pe_fld (pv 0) rfl)) (PJ.cons pe_str (PJ.cons (pe_fmtB (pe_fld (pv 0) rfl)) (PJ.cons pe_str PJ.nil))))))))))) pss_nil)
      (pss_one (ps_ret (pe_joined (PJ.cons (pe_fmtB (pe_fld (pv 0) rfl)) (PJ.cons pe_str (PJ.cons (pe_fmtB (pe_fld (pv 0) rfl)) (PJ.cons pe_str (PJ.cons (pe_fmtB (pe_fld (pv 0) rfl)) (PJ.cons pe_str (PJ.cons (pe_fmtB (pe_fld (pv 0) rfl)) (PJ.cons pe_str (PJ.cons (pe_fmtB (pe_bm PySem.F.plainAttrs_str PySem.F.slot_str_join PySem.F.type_str_join mt_join pe_str (pa_cons (pe_fld (pv 0) rfl) pa_nil))) PJ.nil))))))))))))), ?_⟩
  have s0 := g.s0
  have s1 := g.s1
  have l0 := g.l0
  have lh := g.lh
  have h1 := g.h1
  have n1 := num_le (n := u.space) s0 (by omega)
  have n2 := num_le (n := u.lo) (by omega) (by omega)
  have n3 := num_le (n := u.hi) (by omega) (by omega)
  have nc := (nm_low g.name).1
  have b1 : (" " : Str).length ≤ 1 := by decide +kernel
  have c1 := app_le c_emp nc
  have c2 := app_le c1 b1
  have c3 := app_le c2 n1
  have c4 := app_le c3 b1
  have c5 := app_le c4 n2
  have c6 := app_le c5 b1
  have c7 := app_le c6 n3
  have c8 := app_le c7 (show (" -" : Str).length ≤ 2 by decide +kernel)
  have c9 := app_le c7 b1
  have e1 : ("," : Str).length = 1 := by decide +kernel
  have jb := joins_le (s := ",") (hues_le g)
  have few := g.few
  have jb : (u.hues.map (·.length)).sum + u.hues.length * ("," : Str).length ≤ 72 := by
    rw [e1] at jb ⊢
    omega
  have c10 := app_le c9 (jn_le jb)
  refine ⟨_, rfl, a, _, dx, _, _, rfl, ha, T.cl_Lot, T.n_Lot_shades, lf_shades u t, Nat.zero_le _, fun t0 ht0 => ?_⟩
  have z := same_upd ht0 (o := .tup [])
  have ha := z _ _ ha
  refine ⟨.tuple (strsD u.hues), .tuple [], .tup (.inl (.inl (z _ _ ht))) (strs_dp _), .tup (.inl (.inl upd_same)) .nil, tupD_sh g.hues, rfl, _, rfl, ?_⟩
  rw [eqv_nilT]
  refine ite2 (fun h3 => ?_) (fun h3 => ?_)
  · refine ⟨_, rfl, a, _, dx, _, _, rfl, ha, T.cl_Lot, T.n_Lot_name, lf_name u t, .inl ⟨_, rfl, fit nc, _, rfl, fit c1, _, rfl, fit c2, ?_⟩⟩
    refine ⟨_, rfl, a, _, dx, _, _, rfl, ha, T.cl_Lot, T.n_Lot_room, lf_room u t, .inr (.inl ⟨_, rfl, num_log0 s0 (by omega), _, rfl, fit c3, _, rfl, fit c4, ?_⟩)⟩
    refine ⟨_, rfl, a, _, dx, _, _, rfl, ha, T.cl_Lot, T.n_Lot_least, lf_least u t, .inr (.inl ⟨_, rfl, num_log0 (n := u.lo) (by omega) (by omega), _, rfl, fit c5, _, rfl, fit c6, ?_⟩)⟩
    refine ⟨_, rfl, a, _, dx, _, _, rfl, ha, T.cl_Lot, T.n_Lot_most, lf_most u t, .inr (.inl ⟨_, rfl, num_log0 (n := u.hi) (by omega) (by omega), _, rfl, fit c7, _, rfl, fit c8, ?_⟩)⟩
    have hz : (Str.empty ++ u.called ++ " " ++ Str.ofString (toString u.space) ++ " " ++ Str.ofString (toString u.lo) ++ " " ++ Str.ofString (toString u.hi) ++ " -") = lotS u := lotS_of (by
      unfold lotL nL
      rw [if_pos h3]
      simp only [TL.tl_append, List.append_assoc]
      rfl)
    have q := q _ z
    rw [← hz] at q
    exact q
  · refine ⟨_, rfl, a, _, dx, _, _, rfl, ha, T.cl_Lot, T.n_Lot_name, lf_name u t, .inl ⟨_, rfl, fit nc, _, rfl, fit c1, _, rfl, fit c2, ?_⟩⟩
    refine ⟨_, rfl, a, _, dx, _, _, rfl, ha, T.cl_Lot, T.n_Lot_room, lf_room u t, .inr (.inl ⟨_, rfl, num_log0 s0 (by omega), _, rfl, fit c3, _, rfl, fit c4, ?_⟩)⟩
    refine ⟨_, rfl, a, _, dx, _, _, rfl, ha, T.cl_Lot, T.n_Lot_least, lf_least u t, .inr (.inl ⟨_, rfl, num_log0 (n := u.lo) (by omega) (by omega), _, rfl, fit c5, _, rfl, fit c6, ?_⟩)⟩
    refine ⟨_, rfl, a, _, dx, _, _, rfl, ha, T.cl_Lot, T.n_Lot_most, lf_most u t, .inr (.inl ⟨_, rfl, num_log0 (n := u.hi) (by omega) (by omega), _, rfl, fit c7, _, rfl, fit c9, ?_⟩)⟩
    refine ⟨rfl, _, rfl, a, _, dx, _, _, rfl, ha, T.cl_Lot, T.n_Lot_shades, lf_shades u t, _, t, u.hues, rfl, rfl, .inr (.inl (.inl (z _ _ ht))), Nat.le_trans jb (by decide), .inl ⟨_, rfl, fit (jn_le jb), _, rfl, fit c10, ?_⟩⟩
    have hz : (Str.empty ++ u.called ++ " " ++ Str.ofString (toString u.space) ++ " " ++ Str.ofString (toString u.lo) ++ " " ++ Str.ofString (toString u.hi) ++ " " ++ Txt.join "," u.hues) = lotS u := lotS_of (by
      unfold lotL nL
      rw [if_neg h3]
      simp only [TL.tl_append, List.append_assoc]
      rfl)
    have q := q _ z
    rw [← hz] at q
    exact q
theorem repr_le {z : Str} (h : nm (.str z) = true) : (PySem.reprText z).length ≤ 10 := by
  rw [TL.len_tl, repr_name h, List.length_cons, List.length_append, ← TL.len_tl]
  have := (nm_low h).1
  show z.length + 1 + 1 ≤ 10
  omega
theorem tupText_le {u : Pt} (g : GoodPt u) : (tupleText (u.hues.map PySem.reprText)).length ≤ 110 := by
  have few := g.few
  have e2' : (", " : Str).length = 2 := by decide +kernel
  have jb := joins_le (s := ", ") (xs := u.hues.map PySem.reprText) (m := 10) fun z hz => by
    obtain ⟨y, hy, rfl⟩ := List.mem_map.mp hz
    exact repr_le (g.hues y hy)
  rw [e2', List.length_map] at jb
  have jl : (Txt.join ", " (u.hues.map PySem.reprText)).length ≤ 100 := jn_le (by
    rw [e2', List.length_map]
    omega)
  have s1 : ("(" : Str).length ≤ 1 := by decide +kernel
  have s2 : ((if (u.hues.map PySem.reprText).length == 1 then ",)" else ")" : String) : Str).length ≤ 2 := by
    split <;> decide +kernel
  unfold tupleText
  rw [← TL.join_eq]
  exact Nat.le_trans (app_le (app_le s1 jl) s2) (by decide)
def partA (u : Pt) : Str := Str.empty ++ PySem.reprText u.called ++ ", " ++ Str.ofString (toString u.space)
def partsB (u : Pt) : List Str := if u.lo = 1 then [] else [Str.empty ++ "least=" ++ Str.ofString (toString u.lo)]
def partsC (u : Pt) : List Str := if u.hi = 1000000 then [] else [Str.empty ++ "most=" ++ Str.ofString (toString u.hi)]
def partsD (u : Pt) : List Str := if u.hues.isEmpty then [] else [Str.empty ++ "shades=" ++ tupleText (u.hues.map PySem.reprText)]
def lotR (u : Pt) : Str := Str.empty ++ "Lot(" ++ Txt.join ", " ([partA u] ++ partsB u ++ partsC u ++ partsD u) ++ ")"
def spLotRepr (C : Addr) : Sp := fun vs H Q _ => ∃ (a : Addr) (u : Pt), vs = [.ref a] ∧ LotAt C H a u ∧ GoodPt u ∧ ∀ H', Same H H' → Q (.str (lotR u)) H'
theorem ok_Lot_repr (T : Tx K mg) : FnG P w K mg base CX0 5 T.A_Lot_repr T.fd_Lot_repr ["self"] (spLotRepr T.C_Lot) := by
  refine fun_okG T.F_Lot_repr sc_Lot_repr (fun vs H Q E h => ?_) (fun cdv A outer s H vs Q E hr gd h => ?_)
  · obtain ⟨a, u, rfl, ⟨dx, t, ha, ht⟩, g, q⟩ := h
    rfl
  obtain ⟨a, u, rfl, ⟨dx, t, ha, ht⟩, g, q⟩ := h
  refine ⟨_, (pss_cons (ps_set (i := 1) sc_Lot_repr.nd rfl (Or.inl rfl) (pe_lst (pa_cons (pe_joined (PJ.cons (pe_fmtR (pe_fld (pv 0) rfl)) (PJ.cons pe_str (PJ.cons (pe_fmtB (pe_fld (pv 0) rfl)) PJ.nil)))) pa_nil)))
      (pss_cutJ (ps_if (pt_cmpR op_ne (pe_fld (pv 0) rfl) pe_int (nomark _)) (pss_one (ps_expr (pe_bm PySem.F.plainAttrs_list PySem.F.slot_list_append PySem.F.type_list_append mt_append (pv 1) (pa_cons (pe_joined (PJ.cons pe_str (PJ.cons (pe_fmtB (pe_fld (pv 0) rfl)) PJ.nil))) pa_nil)))) pss_nil)
      (pss_cutJ (ps_if (pt_cmpR op_ne (pe_fld (pv 0) rfl) (pe_glob (v := .int 1000000) (by rfl) T.g_GREATEST_MEASURE ⟨_, rfl⟩) (nomark _)) (pss_one (ps_expr (pe_bm PySem.F.plainAttrs_list PySem.F.slot_list_append PySem.F.type_list_append mt_append (pv 1) (pa_cons (pe_joined (PJ.cons pe_str (PJ.cons (pe_fmtB (pe_fld (pv 0) rfl)) PJ.nil))) pa_nil)))) pss_nil)
      (pss_cutJ (ps_if (pt_cmpR (op_neD hr.units) (pe_fld (pv 0) rfl) (pe_tup pa_nil) (nomark _)) (pss_one (ps_expr (pe_bm PySem.F.plainAttrs_list PySem.F.slot_list_append PySem.F.type_list_append mt_append (pv 1) (pa_cons (pe_joined (PJ.cons pe_str (PJ.cons (pe_fmtRT gd (hr.mono (by decide)) (pe_fld (pv 0) rfl)) PJ.nil))) pa_nil)))) pss_nil)
      (pss_one (ps_ret (pe_joined (PJ.cons pe_str (PJ.cons (pe_fmtB (pe_bm PySem.F.plainAttrs_str PySem.F.slot_str_join PySem.F.type_str_join mt_join pe_str (pa_cons (pv 1) pa_nil))) (PJ.cons pe_str PJ.nil)))))))))), ?_⟩
  have s0 := g.s0
  have s1 := g.s1
  have l0 := g.l0
  have lh := g.lh
  have h1 := g.h1
  have n1 := num_le (n := u.space) s0 (by omega)
  have n2 := num_le (n := u.lo) (by omega) (by omega)
  have n3 := num_le (n := u.hi) (by omega) (by omega)
  have nr := repr_le g.name
  have a1 := app_le c_emp nr
  have a2 := app_le a1 (show (", " : Str).length ≤ 2 by decide +kernel)
  have a3 := app_le a2 n1
  have b1 := app_le c_emp (show ("least=" : Str).length ≤ 6 by decide +kernel)
  have b2 := app_le b1 n2
  have c1 := app_le c_emp (show ("most=" : Str).length ≤ 5 by decide +kernel)
  have c2 := app_le c1 n3
  have d1 := app_le c_emp (show ("shades=" : Str).length ≤ 7 by decide +kernel)
  have ht_ := tupText_le g
  have d2 := app_le d1 ht_
  refine ⟨_, rfl, a, _, dx, _, _, rfl, ha, T.cl_Lot, T.n_Lot_name, lf_name u t, .inl ⟨_, rfl, fit nr, _, rfl, fit a1, _, rfl, fit a2, ?_⟩⟩
  refine ⟨_, rfl, a, _, dx, _, _, rfl, ha, T.cl_Lot, T.n_Lot_room, lf_room u t, .inr (.inl ⟨_, rfl, num_log0 s0 (by omega), _, rfl, fit a3, (by show 1 ≤ sizeLine; decide), fun l hl => ?_⟩)⟩
  have z0 := same_upd hl (o := .lst [V.str (partA u)])
  have e0 : (upd H l (.lst [V.str (partA u)])) l = some (.lst (([partA u]).map V.str)) := upd_same
  refine ⟨fun σ' H' => σ' = [some (.ref a), some (.ref l)] ∧ Same H H' ∧ H' l = some (.lst (([partA u] ++ partsB u).map V.str)), ?_, ?_⟩
  · refine ⟨_, rfl, a, _, dx, _, _, rfl, z0 _ _ ha, T.cl_Lot, T.n_Lot_least, lf_least u t, rfl, _, rfl, ?_⟩
    rw [dec_int]
    unfold partsB
    by_cases h : u.lo = 1
    · rw [decide_eq_true h, if_pos h]
      exact iteF ⟨rfl, z0, e0⟩
    · rw [decide_eq_false h, if_neg h]
      refine iteT ⟨_, rfl, .inl ⟨rfl, _, SqL.of e0⟩, _, rfl, fit b1, _, rfl, a, _, dx, _, _, rfl, z0 _ _ ha, T.cl_Lot, T.n_Lot_least, lf_least u t, .inr (.inl ⟨_, rfl, num_log0 (n := u.lo) (by omega) (by omega), _, rfl, fit b2, l, _, _, rfl, rfl, e0, (by show 1 < sizeLine; decide), ?_⟩)⟩
      refine ⟨rfl, fun b o e => ?_, ?_⟩
      · rw [upd_ne (ne_of_none e hl)]
        exact z0 _ _ e
      · rw [List.map_append]
        exact upd_same
  rintro σ' H1 ⟨rfl, z1, e1⟩
  have lB : (partsB u).length ≤ 1 := by
    unfold partsB
    split <;> simp
  refine ⟨fun σ' H' => σ' = [some (.ref a), some (.ref l)] ∧ Same H H' ∧ H' l = some (.lst (([partA u] ++ partsB u ++ partsC u).map V.str)), ?_, ?_⟩
  · refine ⟨_, rfl, a, _, dx, _, _, rfl, z1 _ _ ha, T.cl_Lot, T.n_Lot_most, lf_most u t, rfl, _, rfl, ?_⟩
    rw [dec_int]
    unfold partsC
    by_cases h : u.hi = 1000000
    · rw [decide_eq_true h, if_pos h, List.append_nil]
      exact iteF ⟨rfl, z1, e1⟩
    · rw [decide_eq_false h, if_neg h]
      refine iteT ⟨_, rfl, .inl ⟨rfl, _, SqL.of e1⟩, _, rfl, fit c1, _, rfl, a, _, dx, _, _, rfl, z1 _ _ ha, T.cl_Lot, T.n_Lot_most, lf_most u t, .inr (.inl ⟨_, rfl, num_log0 (n := u.hi) (by omega) (by omega), _, rfl, fit c2, l, _, _, rfl, rfl, e1, ?_, ?_⟩)⟩
      · rw [List.length_map, List.length_append, List.length_singleton]
        exact Nat.lt_of_lt_of_le (show 1 + (partsB u).length < 10 by omega) (by decide)
      refine ⟨rfl, fun b o e => ?_, ?_⟩
      · rw [upd_ne (ne_of_none e hl)]
        exact z1 _ _ e
      · rw [List.map_append (l₂ := [Str.empty ++ "most=" ++ Str.ofString (toString u.hi)])]
        exact upd_same
  rintro σ' H2 ⟨rfl, z2, e2⟩
  have lC : (partsC u).length ≤ 1 := by
    unfold partsC
    split <;> simp
  refine ⟨fun σ' H' => σ' = [some (.ref a), some (.ref l)] ∧ Same H H' ∧ H' l = some (.lst (([partA u] ++ partsB u ++ partsC u ++ partsD u).map V.str)), ?_, ?_⟩
  · refine ⟨_, rfl, a, _, dx, _, _, rfl, z2 _ _ ha, T.cl_Lot, T.n_Lot_shades, lf_shades u t, Nat.zero_le _, fun t0 ht0 => ?_⟩
    have x0 := same_upd ht0 (o := .tup [])
    have z3 := z2.trans x0
    have e3 := x0 _ _ e2
    refine ⟨.tuple (strsD u.hues), .tuple [], .tup (.inl (.inl (z3 _ _ ht))) (strs_dp _), .tup (.inl (.inl upd_same)) .nil, tupD_sh g.hues, rfl, _, rfl, ?_⟩
    rw [eqv_nilT]
    unfold partsD
    by_cases h : u.hues.isEmpty = true
    · rw [h, if_pos rfl, List.append_nil]
      exact iteF ⟨rfl, z3, e3⟩
    · rw [if_neg h]
      rw [Bool.not_eq_true] at h
      rw [h]
      refine iteT ⟨_, rfl, .inl ⟨rfl, _, SqL.of e3⟩, _, rfl, fit d1, _, rfl, a, _, dx, _, _, rfl, z3 _ _ ha, T.cl_Lot, T.n_Lot_shades, lf_shades u t, t, u.hues, rfl, z3 _ _ ht, (fun z hz => fit (repr_le (g.hues z hz))), fit ht_, fun H4 x4 => ⟨_, rfl, fit d2, l, _, _, rfl, rfl, x4 _ _ e3, ?_, ?_⟩⟩
      · rw [List.length_map, List.length_append, List.length_append, List.length_singleton]
        exact Nat.lt_of_lt_of_le (show 1 + (partsB u).length + (partsC u).length < 10 by omega) (by decide)
      refine ⟨rfl, fun b o e => ?_, ?_⟩
      · rw [upd_ne (ne_of_none e hl)]
        exact x4 _ _ (z3 _ _ e)
      · rw [List.map_append (l₂ := [Str.empty ++ "shades=" ++ tupleText (u.hues.map PySem.reprText)])]
        exact upd_same
  rintro σ' H5 ⟨rfl, z5, e5⟩
  have all : ∀ x ∈ [partA u] ++ partsB u ++ partsC u ++ partsD u, x.length ≤ 200 := fun x hx => by
    rcases List.mem_append.mp hx with hx | hx
    · rcases List.mem_append.mp hx with hx | hx
      · rcases List.mem_append.mp hx with hx | hx
        · rw [List.mem_singleton.mp hx]
          exact Nat.le_trans a3 (by decide)
        · unfold partsB at hx
          split at hx
          · cases hx
          · rw [List.mem_singleton.mp hx]
            exact Nat.le_trans b2 (by decide)
      · unfold partsC at hx
        split at hx
        · cases hx
        · rw [List.mem_singleton.mp hx]
          exact Nat.le_trans c2 (by decide)
    · unfold partsD at hx
      split at hx
      · cases hx
      · rw [List.mem_singleton.mp hx]
        exact Nat.le_trans d2 (by decide)
  have lD : (partsD u).length ≤ 1 := by
    unfold partsD
    split <;> simp
  have e2' : (", " : Str).length = 2 := by decide +kernel
  have jb := joins_le (s := ", ") all
  have jb : (([partA u] ++ partsB u ++ partsC u ++ partsD u).map (·.length)).sum + ([partA u] ++ partsB u ++ partsC u ++ partsD u).length * (", " : Str).length ≤ 1000 := by
    refine Nat.le_trans jb ?_
    rw [e2']
    have : ([partA u] ++ partsB u ++ partsC u ++ partsD u).length ≤ 4 := by
      rw [List.length_append, List.length_append, List.length_append, List.length_singleton]
      omega
    omega
  have jl := jn_le jb
  have f1 := app_le c_emp (show ("Lot(" : Str).length ≤ 4 by decide +kernel)
  have f2 := app_le f1 jl
  have f3 := app_le f2 (show (")" : Str).length ≤ 1 by decide +kernel)
  refine ⟨_, rfl, fit f1, rfl, _, rfl, _, l, _, rfl, rfl, .inl (SqL.of e5), Nat.le_trans jb (by decide), .inl ⟨_, rfl, fit jl, _, rfl, fit f2, _, rfl, fit f3, ?_⟩⟩
  exact q H5 z5
end
end KB
namespace KB
open PySem PySem.Spec PyProof.Rows L2 KA
section
variable {P : Program} {w : World} {K : PySem.W.Frag} {mg : Str → Option Value} {base : Heap}
theorem lot_made {K : PySem.W.Frag} {C CB : Addr} {u : Pt} (g : GoodPt u) {H : Hp} {x dx : Addr} {e : V} (hx : H x = none) (hd : H dx = none) (hne : dx ≠ x) (he : ShH H e u.hues) {Q : Hp → Prop} {E : XK} (q : ∀ H', Same H H' → LotAt C H' x u → Q H') :
    spLotX K C CB [.ref x, .str u.called, .int u.space, .int u.lo, .int u.hi, e] (upd (upd H dx (.own x)) x (.ins C dx [])) (fun v H' => v = .non ∧ Q H') E := by
  have s0 : Same H (upd (upd H dx (.own x)) x (.ins C dx [])) := fun b o z => by rw [upd_ne (ne_of_none z hx), upd_ne (ne_of_none z hd)]; exact z
  refine ⟨x, dx, _, _, _, _, _, rfl, upd_same, .inl ⟨u, g, rfl, rfl, rfl, rfl, ?_, fun H' hL k => ⟨rfl, q H' (fun b o z => k b o (s0 b o z) (ne_of_none z hx)) hL⟩⟩⟩
  rcases he with h | ⟨l, h1, h2⟩
  · exact .inl h
  · exact .inr ⟨l, h1, s0 _ _ h2⟩
def spMade (C : Addr) : Sp := fun vs H Q _ => ∃ (d a : Addr) (n : Nat) (u : Pt), vs = [.ref d, .ref a] ∧ a ≠ d ∧ PtAt H a u ∧ GoodPt u ∧ Dr PM d n H ∧ n ≤ 100000 ∧ ∀ (H' : Hp) (q : Addr), LotAt C H' q u → But d H H' → Dr PM d (n + 1) H' → Q (.ref q) H'
theorem ok_made (T : Tx K mg) : FnOk P w K mg base CX0 6 T.A_made T.fd_made ["_law_source", "_law_parts_here"] (spMade T.C_Lot) := by
  refine T.F_made.ok sc_made (fun vs H Q E h => ?_) (fun cdv A outer s H vs Q E hr h => ?_)
  · obtain ⟨d, a, n, u, rfl, nad, ⟨t, ha, ht⟩, g, dr, hn, q⟩ := h
    rfl
  obtain ⟨d, a, n, u, rfl, nad, ⟨t, ha, ht⟩, g, dr, hn, q⟩ := h
  refine ⟨_, (pss_cons (ps_asg (pv 1) (pg_unl rfl (pgs_cons (pg_name (i := 2) sc_made.nd rfl (Or.inl rfl)) (pgs_cons (pg_name (i := 3) sc_made.nd rfl (Or.inl rfl)) (pgs_cons (pg_name (i := 4) sc_made.nd rfl (Or.inl rfl)) (pgs_cons (pg_name (i := 5) sc_made.nd rfl (Or.inl rfl)) (pgs_cons (pg_name (i := 6) sc_made.nd rfl (Or.inl rfl)) pgs_nil))))) (by rfl)))
      (pss_cons (ps_set (i := 7) sc_made.nd rfl (Or.inl rfl) (pe_call (ok_draw T) (hr.mono (by decide)) (by rfl) T.g_draw T.F_draw.kp T.b_draw .nil pass0 (pa_cons (pv 0) (pa_cons pe_int pa_nil))))
      (pss_cons (ps_if (pt_cmpR op_eq (pv 7) pe_int (nomark _)) (pss_one (ps_ret (pe_make T.mk_Lot (ok_Lot_init T) (hr.mono (by decide)) (by rfl) T.g_Lot T.b_Lot_init .nil passF (pa_cons (pv 2) (pa_cons (pv 3) (pa_cons (pv 4) (pa_cons (pv 5) (pa_cons (pv 6) pa_nil)))))))) pss_nil)
      (pss_cons (ps_if (pt_cmpR op_eq (pv 7) pe_int (nomark _)) (pss_one (ps_ret (pe_makeK0 T.mk_Lot (ok_Lot_init T) (hr.mono (by decide)) (by rfl) T.g_Lot T.kb_1 passF (pk_cons (pv 6) (pk_cons (pv 5) (pk_cons (pv 4) (pk_cons (pv 3) (pk_cons (pv 2) pk_nil)))))))) pss_nil)
      (pss_cons (ps_if (PW.pt (pw_and (pt_cmpR (op_eqD hr.units) (pv 6) (pe_tup pa_nil) (nomark _)) (pw_and1 (pt_cmpR op_eq (pv 7) pe_int (nomark _))))) (pss_one (ps_ret (pe_makeN T.mk_Lot (ok_Lot_init T) (hr.mono (by decide)) (by rfl) T.g_Lot T.kb_2 passF (pa_cons (pv 2) (pa_cons (pv 3) pa_nil)) (pk_cons (pv 5) (pk_cons (pv 4) (pk_cons pe_non pk_nil)))))) pss_nil)
      (pss_cons (ps_if (pt_cmpR (op_eqD hr.units) (pe_tup (pa_cons (pv 4) (pa_cons (pv 5) (pa_cons (pv 6) pa_nil)))) (pe_tup (pa_cons pe_int (pa_cons (pe_op op_pow pe_int pe_int) (pa_cons (pe_tup pa_nil) pa_nil)))) (nomark _)) (pss_one (ps_ret (pe_make T.mk_Lot (ok_Lot_init T) (hr.mono (by decide)) (by rfl) T.g_Lot T.bd2_Lot T.hd2_Lot passF (pa_cons (pv 2) (pa_cons (pv 3) pa_nil))))) pss_nil)
      (pss_one (ps_ret (pe_makeN T.mk_Lot (ok_Lot_init T) (hr.mono (by decide)) (by rfl) T.g_Lot T.kb_3 passF (pa_cons (pv 2) (pa_cons (pv 3) pa_nil)) (pk_cons (pv 5) (pk_cons (pv 6) (pk_cons (pv 4) pk_nil)))))))))))), ?_⟩
  refine ⟨_, rfl, a, _, rfl, SqL.of ha, rfl, _, _, rfl, _, _, rfl, _, _, rfl, _, _, rfl, _, _, rfl, rfl, ?_⟩
  refine ⟨_, rfl, d, 4, n, rfl, by decide, log_tiny (by decide) (by decide), dr, by omega, fun H1 r a1 c1 b1 dr1 => ?_⟩
  have ht1 := dr_nl dr b1 _ _ (fun _ z => by cases z) ht
  have fin : ∀ {H2 : Hp} {x : Addr}, Same H1 H2 → LotAt T.C_Lot H2 x u → Q (.ref x) H2 := fun {H2 x} s hL => q H2 x hL (b1.trans (But.of s)) (dr1.same s)
  refine ⟨_, rfl, rfl, _, rfl, ite2 (fun _ => ?_) (fun _ => ?_)⟩
  · exact ⟨_, rfl, _, rfl, _, rfl, _, rfl, _, rfl, fun x dx h1 h2 h3 => lot_made g h1 h2 h3 (.inr ⟨t, rfl, ht1⟩) fun H2 s2 hL => fin s2 hL⟩
  refine ⟨_, rfl, rfl, _, rfl, ite2 (fun _ => ?_) (fun _ => ?_)⟩
  · exact ⟨_, rfl, _, rfl, _, rfl, _, rfl, _, rfl, rfl, rfl, fun x dx h1 h2 h3 => lot_made g h1 h2 h3 (.inr ⟨t, rfl, ht1⟩) fun H2 s2 hL => fin s2 hL⟩
  refine ⟨_, rfl, Nat.zero_le _, fun t0 ht0 => ?_⟩
  have z0 := same_upd ht0 (o := .tup [])
  refine ⟨.tuple (strsD u.hues), .tuple [], .tup (.inl (.inl (z0 _ _ ht1))) (strs_dp _), .tup (.inl (.inl upd_same)) .nil, tupD_sh g.hues, rfl, _, rfl, ?_⟩
  rw [eqv_nilT]
  refine ite2 (fun h => ?_) (fun h => iteF ?_)
  · refine ⟨_, rfl, rfl, _, rfl, ite2 (fun _ => ?_) (fun _ => ?_)⟩
    · exact ⟨_, rfl, _, rfl, _, rfl, _, rfl, rfl, rfl, fun x dx h1 h2 h3 => lot_made g h1 h2 h3 (.inl ⟨rfl, List.isEmpty_iff.mp h⟩) fun H2 s2 hL => fin (z0.trans s2) hL⟩
    refine ⟨_, rfl, _, rfl, _, rfl, (by show 3 ≤ sizeLine; decide), fun p1 hp1 => ⟨_, _, rfl, rfl, ⟨by decide, by decide, by decide⟩, Nat.zero_le _, fun p2 hp2 => ⟨(by show 3 ≤ sizeLine; decide), fun p3 hp3 => ?_⟩⟩⟩
    have z1 := same_upd hp1 (o := .tup [.int u.lo, .int u.hi, .ref t])
    have z2 := same_upd hp2 (o := .tup [])
    have z3 := same_upd hp3 (o := .tup [.int 1, .int (10 ^ (6 : Int).toNat), .ref p2])
    have z23 := z2.trans z3
    have zA := z0.trans (z1.trans z23)
    refine ⟨.tuple [.int u.lo, .int u.hi, .tuple (strsD u.hues)], .tuple [.int 1, .int (10 ^ (6 : Int).toNat), .tuple []], .tup (.inl (.inl (z23 _ _ upd_same))) (.cons (.int _) (.cons (.int _) (.cons (.tup (.inl (.inl (zA _ _ ht1))) (strs_dp _)) .nil))), .tup (.inl (.inl upd_same)) (.cons (.int _) (.cons (.int _) (.cons (.tup (.inl (.inl (z3 _ _ upd_same))) .nil) .nil))), ?_, rfl, _, rfl, ite2 (fun h5 => ?_) (fun _ => ?_)⟩
    · obtain ⟨a1, a2⟩ := strsD_ok g.hues
      show ((true && (true && (PyData.canLayAll0 (strsD u.hues) && true))) && decide (max 0 (max 0 (max (PyData.depthAll (strsD u.hues) + 1) 0)) + 1 ≤ 64)) = true
      rw [a1, decide_eq_true (by omega)]
      rfl
    · have h5 : ((u.lo == 1) && ((u.hi == 10 ^ (6 : Int).toNat) && (PyData.eqv (.tuple (strsD u.hues)) (.tuple []) && true))) = true := h5
      rw [eqv_nilT] at h5
      simp only [Bool.and_eq_true, beq_iff_eq, Bool.and_true] at h5
      obtain ⟨e1, e2, e3⟩ := h5
      rw [e6] at e2
      obtain ⟨uc, us, ul, uh, uz⟩ := u
      dsimp only at e1 e2 e3
      subst e1 e2
      exact ⟨_, rfl, _, rfl, fun x dx h1 h2 h3 => lot_made g h1 h2 h3 (.inl ⟨rfl, List.isEmpty_iff.mp e3⟩) fun H2 s2 hL => fin (zA.trans s2) hL⟩
    · exact ⟨_, rfl, _, rfl, _, rfl, _, rfl, _, rfl, rfl, rfl, fun x dx h1 h2 h3 => lot_made g h1 h2 h3 (.inr ⟨t, rfl, zA _ _ ht1⟩) fun H2 s2 hL => fin (zA.trans s2) hL⟩
  · refine ⟨_, rfl, _, rfl, _, rfl, (by show 3 ≤ sizeLine; decide), fun p1 hp1 => ⟨_, _, rfl, rfl, ⟨by decide, by decide, by decide⟩, Nat.zero_le _, fun p2 hp2 => ⟨(by show 3 ≤ sizeLine; decide), fun p3 hp3 => ?_⟩⟩⟩
    have z1 := same_upd hp1 (o := .tup [.int u.lo, .int u.hi, .ref t])
    have z2 := same_upd hp2 (o := .tup [])
    have z3 := same_upd hp3 (o := .tup [.int 1, .int (10 ^ (6 : Int).toNat), .ref p2])
    have z23 := z2.trans z3
    have zA := z0.trans (z1.trans z23)
    refine ⟨.tuple [.int u.lo, .int u.hi, .tuple (strsD u.hues)], .tuple [.int 1, .int (10 ^ (6 : Int).toNat), .tuple []], .tup (.inl (.inl (z23 _ _ upd_same))) (.cons (.int _) (.cons (.int _) (.cons (.tup (.inl (.inl (zA _ _ ht1))) (strs_dp _)) .nil))), .tup (.inl (.inl upd_same)) (.cons (.int _) (.cons (.int _) (.cons (.tup (.inl (.inl (z3 _ _ upd_same))) .nil) .nil))), ?_, rfl, _, rfl, ite2 (fun h5 => ?_) (fun _ => ?_)⟩
    · obtain ⟨a1, a2⟩ := strsD_ok g.hues
      show ((true && (true && (PyData.canLayAll0 (strsD u.hues) && true))) && decide (max 0 (max 0 (max (PyData.depthAll (strsD u.hues) + 1) 0)) + 1 ≤ 64)) = true
      rw [a1, decide_eq_true (by omega)]
      rfl
    · have h5 : ((u.lo == 1) && ((u.hi == 10 ^ (6 : Int).toNat) && (PyData.eqv (.tuple (strsD u.hues)) (.tuple []) && true))) = true := h5
      rw [eqv_nilT] at h5
      simp only [Bool.and_eq_true, beq_iff_eq, Bool.and_true] at h5
      obtain ⟨e1, e2, e3⟩ := h5
      rw [e6] at e2
      obtain ⟨uc, us, ul, uh, uz⟩ := u
      dsimp only at e1 e2 e3
      subst e1 e2
      exact ⟨_, rfl, _, rfl, fun x dx h1 h2 h3 => lot_made g h1 h2 h3 (.inl ⟨rfl, List.isEmpty_iff.mp e3⟩) fun H2 s2 hL => fin (zA.trans s2) hL⟩
    · exact ⟨_, rfl, _, rfl, _, rfl, _, rfl, _, rfl, rfl, rfl, fun x dx h1 h2 h3 => lot_made g h1 h2 h3 (.inr ⟨t, rfl, zA _ _ ht1⟩) fun H2 s2 hL => fin (zA.trans s2) hL⟩
end
end KB
namespace KB
open PySem PySem.Spec PyProof.Rows L2 KA
def qt (z : Str) : Str := "'" ++ z ++ "'"
def restL : List Str → List Nat
  | [] => []
  | t :: ts => TL.tl ", " ++ (TL.tl t ++ restL ts)
theorem rest_app : ∀ xs ys : List Str, restL (xs ++ ys) = restL xs ++ restL ys
  | [], _ => rfl
  | x :: xs, ys => by
    show TL.tl ", " ++ (TL.tl x ++ restL (xs ++ ys)) = (TL.tl ", " ++ (TL.tl x ++ restL xs)) ++ restL ys
    rw [rest_app xs ys, List.append_assoc, List.append_assoc]
theorem join_rest (t : Str) : ∀ ts : List Str, TL.joinL (TL.tl ", ") ((t :: ts).map TL.tl) = TL.tl t ++ restL ts := by
  intro ts
  induction ts generalizing t with
  | nil => exact (List.append_nil _).symm
  | cons s ts ih =>
    show TL.tl t ++ (TL.tl ", " ++ TL.joinL (TL.tl ", ") ((s :: ts).map TL.tl)) = _
    rw [ih s]
    rfl
theorem lotR_tl (u : Pt) : TL.tl (lotR u) = TL.tl "Lot(" ++ (TL.tl (partA u) ++ (restL (partsB u) ++ (restL (partsC u) ++ (restL (partsD u) ++ TL.tl ")")))) := by
  unfold lotR
  rw [TL.tl_append, TL.tl_append, TL.join_eq, TL.tl_join]
  have e : [partA u] ++ partsB u ++ partsC u ++ partsD u = partA u :: (partsB u ++ partsC u ++ partsD u) := rfl
  rw [e, join_rest, rest_app, rest_app]
  simp only [TL.tl_append, List.append_assoc]
  rfl
section
variable {P : Program} {w : World} {K : PySem.W.Frag} {mg : Str → Option Value} {base : Heap}
def spLawRepr : Sp := fun vs H Q _ => ∃ (a : Addr) (u : Pt), vs = [.ref a] ∧ PtAt H a u ∧ GoodPt u ∧ ∀ H', Same H H' → Q (.str (lotR u)) H'
theorem ok_repr (T : Tx K mg) : FnOk P w K mg base CX0 1 T.A_repr T.fd_repr ["_law_parts_here"] (spLawRepr) := by
  refine T.F_repr.ok sc_repr (fun vs H Q E h => ?_) (fun cdv A outer s H vs Q E hr h => ?_)
  · obtain ⟨a, u, rfl, ⟨t, ha, ht⟩, g, q⟩ := h
    rfl
  obtain ⟨a, u, rfl, ⟨t, ha, ht⟩, g, q⟩ := h
  refine ⟨_, (pss_cons (ps_asg (pv 0) (pg_unl rfl (pgs_cons (pg_name (i := 1) sc_repr.nd rfl (Or.inl rfl)) (pgs_cons (pg_name (i := 2) sc_repr.nd rfl (Or.inl rfl)) (pgs_cons (pg_name (i := 3) sc_repr.nd rfl (Or.inl rfl)) (pgs_cons (pg_name (i := 4) sc_repr.nd rfl (Or.inl rfl)) (pgs_cons (pg_name (i := 5) sc_repr.nd rfl (Or.inl rfl)) pgs_nil))))) (by rfl)))
      (pss_cons (ps_set (i := 6) sc_repr.nd rfl (Or.inl rfl) (pe_op op_add_str (pe_op op_add_str (pe_op op_add_str pe_str (pv 1)) pe_str) (pe_callTy call_str_int (by rfl) T.z_str (by decide +kernel) (pa_cons (pv 2) pa_nil))))
      (pss_cutJ (ps_if (pt_cmpR op_ne (pv 3) pe_int (nomark _)) (pss_one (ps_set (i := 6) sc_repr.nd rfl (Or.inl rfl) (pe_op op_add_str (pe_op op_add_str (pv 6) pe_str) (pe_callTy call_str_int (by rfl) T.z_str (by decide +kernel) (pa_cons (pv 3) pa_nil))))) pss_nil)
      (pss_cutJ (ps_if (pt_cmpR op_ne (pv 4) (pe_op op_pow pe_int pe_int) (nomark _)) (pss_one (ps_set (i := 6) sc_repr.nd rfl (Or.inl rfl) (pe_op op_add_str (pe_op op_add_str (pv 6) pe_str) (pe_callTy call_str_int (by rfl) T.z_str (by decide +kernel) (pa_cons (pv 4) pa_nil))))) pss_nil)
      (pss_cutJ (ps_if (pt_cmpR (op_neD hr.units) (pv 5) (pe_tup pa_nil) (nomark _)) (pss_cons (ps_set (i := 7) sc_repr.nd rfl (Or.inl rfl) (pe_bm PySem.F.plainAttrs_str PySem.F.slot_str_join PySem.F.type_str_join mt_join pe_str (pa_cons (pe_lc (own := [("_law_shade", 8)]) (g := gName 8) (tt := tYes) rfl sc_repr.nd (pi_tup (pv 5)) (blkOk_by (N := ["_law_parts_here", "_law_called", "_law_space", "_law_bottom", "_law_top", "_law_hues", "_law_found", "_law_words", "_law_shade"]) (sc := defScope s_repr) (by decide +kernel)) (fun _ _ _ _ _ => (pg_name (i := 8) sc_repr.nd rfl (Or.inl rfl))) (fun _ _ _ _ _ => pts_nil) (fun _ _ _ _ _ => (pe_op op_add_str (pe_op op_add_str pe_str (pv 8)) pe_str))) pa_nil)))
      (pss_one (ps_set (i := 6) sc_repr.nd rfl (Or.inl rfl) (pe_op op_add_str (pe_op op_add_str (pe_op op_add_str (pe_op op_add_str (pv 6) pe_str) (pv 7)) (pe_op op_mul01 pe_str (pe_callTy call_int1 (by rfl) T.z_int (by decide +kernel) (pa_cons (pe_cmpR op_eq (pe_callB call_len_seq (by rfl) T.z_len PySem.boot_len (pa_cons (pv 5) pa_nil)) pe_int (nomark _)) pa_nil)))) pe_str)))) pss_nil)
      (pss_one (ps_ret (pe_op op_add_str (pv 6) pe_str)))))))), ?_⟩
  have s0 := g.s0
  have s1 := g.s1
  have l0 := g.l0
  have lh := g.lh
  have h1 := g.h1
  have n1 := num_le (n := u.space) s0 (by omega)
  have n2 := num_le (n := u.lo) (by omega) (by omega)
  have n3 := num_le (n := u.hi) (by omega) (by omega)
  have nc := (nm_low g.name).1
  refine ⟨_, rfl, a, _, rfl, SqL.of ha, rfl, _, _, rfl, _, _, rfl, _, _, rfl, _, _, rfl, _, _, rfl, rfl, ?_⟩
  have a1 := app_le (show ("Lot('" : Str).length ≤ 5 by decide +kernel) nc
  have a2 := app_le a1 (show ("', " : Str).length ≤ 3 by decide +kernel)
  have a3 := app_le a2 n1
  refine ⟨_, rfl, _, _, rfl, rfl, Nat.le_trans (Nat.add_le_add (show ("Lot('" : Str).length ≤ 5 by decide +kernel) nc) (by decide), _, _, rfl, rfl, Nat.le_trans (Nat.add_le_add a1 (show ("', " : Str).length ≤ 3 by decide +kernel)) (by decide), _, rfl, _, rfl, num_log0 s0 (by omega), _, _, rfl, rfl, Nat.le_trans (Nat.add_le_add a2 n1) (by decide), ?_⟩
  have tA : TL.tl ("Lot('" ++ u.called ++ "', " ++ Str.ofString (toString u.space)) = TL.tl "Lot(" ++ TL.tl (partA u) := by
    have x1 : TL.tl "Lot('" = TL.tl "Lot(" ++ [39] := by decide +kernel
    have x2 : TL.tl "', " = [39] ++ TL.tl ", " := by decide +kernel
    have x3 : TL.tl Str.empty = [] := rfl
    unfold partA
    simp only [TL.tl_append, repr_name g.name, x1, x2, x3, List.append_assoc, List.nil_append, List.cons_append]
  generalize ("Lot('" : Str) ++ u.called ++ "', " ++ Str.ofString (toString u.space) = XA at tA a3
  refine ⟨fun σ' H' => ∃ X : Str, σ' = [some (.ref a), some (.str u.called), some (.int u.space), some (.int u.lo), some (.int u.hi), some (.ref t), some (.str X), none, none] ∧ Same H H' ∧ TL.tl X = TL.tl "Lot(" ++ (TL.tl (partA u) ++ restL (partsB u)) ∧ X.length ≤ 300, ?_, ?_⟩
  · refine ⟨_, rfl, rfl, _, rfl, ?_⟩
    rw [dec_int]
    unfold partsB
    by_cases h : u.lo = 1
    · rw [decide_eq_true h, if_pos h]
      exact iteF ⟨XA, rfl, Same.refl _, by rw [tA, show restL [] = [] from rfl, List.append_nil], Nat.le_trans a3 (by decide)⟩
    · rw [decide_eq_false h, if_neg h]
      have b1 := app_le a3 (show (", least=" : Str).length ≤ 8 by decide +kernel)
      have b2 := app_le b1 n2
      refine iteT ⟨_, rfl, _, _, rfl, rfl, Nat.le_trans (Nat.add_le_add a3 (show (", least=" : Str).length ≤ 8 by decide +kernel)) (by decide), _, rfl, _, rfl, num_log0 (n := u.lo) (by omega) (by omega), _, _, rfl, rfl, Nat.le_trans (Nat.add_le_add b1 n2) (by decide), _, rfl, Same.refl _, ?_, Nat.le_trans b2 (by decide)⟩
      rw [TL.tl_append, TL.tl_append, tA]
      show _ = TL.tl "Lot(" ++ (TL.tl (partA u) ++ (TL.tl ", " ++ (TL.tl (Str.empty ++ "least=" ++ Str.ofString (toString u.lo)) ++ [])))
      simp only [TL.tl_append, List.append_assoc, List.append_nil]
      rfl
  rintro σ' H1 ⟨XB, rfl, z1, tB, lB⟩
  refine ⟨fun σ' H' => ∃ X : Str, σ' = [some (.ref a), some (.str u.called), some (.int u.space), some (.int u.lo), some (.int u.hi), some (.ref t), some (.str X), none, none] ∧ Same H H' ∧ TL.tl X = TL.tl "Lot(" ++ (TL.tl (partA u) ++ (restL (partsB u) ++ restL (partsC u))) ∧ X.length ≤ 400, ?_, ?_⟩
  · refine ⟨_, rfl, _, _, rfl, rfl, ⟨by decide, by decide, by decide⟩, rfl, _, rfl, ?_⟩
    have hd : decide (V.int u.hi = (fun i j => V.int (i ^ j.toNat)) (10 : Int) (6 : Int)) = decide (u.hi = 1000000) := by
      rw [decide_eq_decide]
      constructor
      · intro e
        have e : V.int u.hi = V.int (10 ^ (6 : Int).toNat) := e
        injection e with e
      · intro e
        show V.int u.hi = V.int (10 ^ (6 : Int).toNat)
        rw [e]
        exact congrArg V.int e6.symm
    rw [hd]
    unfold partsC
    by_cases h : u.hi = 1000000
    · rw [decide_eq_true h, if_pos h]
      exact iteF ⟨XB, rfl, z1, by rw [tB, show restL [] = [] from rfl, List.append_nil], Nat.le_trans lB (by decide)⟩
    · rw [decide_eq_false h, if_neg h]
      have b1 := app_le lB (show (", most=" : Str).length ≤ 7 by decide +kernel)
      have b2 := app_le b1 n3
      refine iteT ⟨_, rfl, _, _, rfl, rfl, Nat.le_trans (Nat.add_le_add lB (show (", most=" : Str).length ≤ 7 by decide +kernel)) (by decide), _, rfl, _, rfl, num_log0 (n := u.hi) (by omega) (by omega), _, _, rfl, rfl, Nat.le_trans (Nat.add_le_add b1 n3) (by decide), _, rfl, z1, ?_, Nat.le_trans b2 (by decide)⟩
      rw [TL.tl_append, TL.tl_append, tB]
      show _ = TL.tl "Lot(" ++ (TL.tl (partA u) ++ (restL (partsB u) ++ (TL.tl ", " ++ (TL.tl (Str.empty ++ "most=" ++ Str.ofString (toString u.hi)) ++ []))))
      simp only [TL.tl_append, List.append_assoc, List.append_nil]
      rfl
  rintro σ' H2 ⟨XC, rfl, z2, tC, lC⟩
  refine ⟨fun σ' H' => ∃ (X : Str) (w7 : Option V), σ' = [some (.ref a), some (.str u.called), some (.int u.space), some (.int u.lo), some (.int u.hi), some (.ref t), some (.str X), w7, none] ∧ Same H H' ∧ TL.tl X = TL.tl "Lot(" ++ (TL.tl (partA u) ++ (restL (partsB u) ++ (restL (partsC u) ++ restL (partsD u)))) ∧ X.length ≤ 800, ?_, ?_⟩
  · refine ⟨_, rfl, Nat.zero_le _, fun t0 ht0 => ?_⟩
    have x0 := same_upd ht0 (o := .tup [])
    have z3 := z2.trans x0
    have ht3 := z3 _ _ ht
    refine ⟨.tuple (strsD u.hues), .tuple [], .tup (.inl (.inl ht3)) (strs_dp _), .tup (.inl (.inl upd_same)) .nil, tupD_sh g.hues, rfl, _, rfl, ?_⟩
    rw [eqv_nilT]
    unfold partsD
    by_cases h : u.hues.isEmpty = true
    · rw [h, if_pos rfl]
      exact iteF ⟨XC, _, rfl, z3, by rw [tC, show restL [] = [] from rfl, List.append_nil], Nat.le_trans lC (by decide)⟩
    · rw [if_neg h]
      rw [Bool.not_eq_true] at h
      rw [h]
      have q1 : ("'" : Str).length ≤ 1 := by decide +kernel
      refine iteT ⟨rfl, _, rfl, t, rfl, ⟨_, .inl (.inl ht3)⟩, fun D hD => lc_genT (K := K) hD ht3 (by rw [List.length_map]; have := g.few; omega) (fun j v _ => ∀ x, u.hues[j]? = some x → v = .str (qt x)) (fun j v H1 H2 s h => h) ?_ ?_⟩
      · intro i x H4 R C hx s4 hR
        rw [List.getElem?_map] at hx
        cases hz : u.hues[i]? with
        | none => rw [hz] at hx; cases hx
        | some z =>
          rw [hz] at hx
          cases hx
          have lz := hues_le g z (List.mem_of_getElem? hz)
          have k1 := app_le q1 lz
          exact ⟨rfl, yesT ⟨_, rfl, _, _, rfl, rfl, Nat.le_trans (Nat.add_le_add q1 lz) (by decide), _, _, rfl, rfl, Nat.le_trans (Nat.add_le_add k1 q1) (by decide), hR _ _ (Same.refl _) fun y hy => by
            rw [hz] at hy
            cases hy
            rfl⟩⟩
      intro H4 acc s4 e4 l4 g4
      have hacc : acc = (u.hues.map qt).map V.str := by
        refine List.ext_getElem? fun i => ?_
        rw [List.length_map] at l4
        by_cases hi : i < acc.length
        · have hi2 : i < u.hues.length := by omega
          have := g4 i _ (List.getElem?_eq_getElem hi) _ (List.getElem?_eq_getElem hi2)
          rw [List.getElem?_eq_getElem hi, this, List.getElem?_map, List.getElem?_map, List.getElem?_eq_getElem hi2]
          rfl
        · rw [List.getElem?_eq_none (by omega), List.getElem?_eq_none (by rw [List.length_map, List.length_map]; omega)]
      rw [hacc] at e4
      have few := g.few
      have e2' : (", " : Str).length = 2 := by decide +kernel
      have jb := joins_le (s := ", ") (xs := u.hues.map qt) (m := 10) fun z hz => by
        obtain ⟨y, hy, rfl⟩ := List.mem_map.mp hz
        exact app_le (app_le q1 (hues_le g y hy)) q1
      have jb : ((u.hues.map qt).map (·.length)).sum + (u.hues.map qt).length * (", " : Str).length ≤ 100 := by
        refine Nat.le_trans jb ?_
        rw [e2', List.length_map]
        omega
      have jl := jn_le jb
      refine ⟨_, D, _, rfl, rfl, .inl (SqL.of e4), Nat.le_trans jb (by decide), ?_⟩
      have z4 := z3.trans s4
      have m1 := app_le lC (show (", shades=(" : Str).length ≤ 10 by decide +kernel)
      have m2 := app_le m1 jl
      have k1 : ("," : Str).length ≤ 1 := by decide +kernel
      refine ⟨_, rfl, _, _, rfl, rfl, Nat.le_trans (Nat.add_le_add lC (show (", shades=(" : Str).length ≤ 10 by decide +kernel)) (by decide), _, rfl, _, _, rfl, rfl, Nat.le_trans (Nat.add_le_add m1 jl) (by decide), _, rfl, t, _, rfl, .inr (.inl (.inl (z4 _ _ ht))), rfl, .inr ⟨_, rfl, _, _, rfl, rfl, Nat.le_trans k1 (by decide), ?_⟩⟩
      have k2 : (if decide (V.int ((u.hues.map V.str).length : Nat) = V.int 1) = true then ("," : Str) else Str.empty).length ≤ 1 := by
        split
        · exact k1
        · exact Nat.zero_le _
      have m3 := app_le m2 k2
      have m4 := app_le m3 (show (")" : Str).length ≤ 1 by decide +kernel)
      refine ⟨_, _, rfl, rfl, Nat.le_trans (Nat.add_le_add m2 k2) (by decide), _, _, rfl, rfl, Nat.le_trans (Nat.add_le_add m3 (show (")" : Str).length ≤ 1 by decide +kernel)) (by decide), ?_⟩
      refine ⟨_, _, rfl, z4, ?_, Nat.le_trans m4 (by decide)⟩
      have eq1 : (u.hues.map qt).map TL.tl = (u.hues.map PySem.reprText).map TL.tl := by
        rw [List.map_map, List.map_map]
        refine List.map_congr_left fun z hz => ?_
        show TL.tl (("'" : Str) ++ z ++ "'") = TL.tl (PySem.reprText z)
        rw [repr_name (g.hues z hz), TL.tl_append, TL.tl_append]
        rfl
      have eq2 : decide (V.int ((u.hues.map V.str).length : Nat) = V.int 1) = ((u.hues.map PySem.reprText).length == 1) := by
        rw [dec_int, List.length_map, List.length_map, Bool.eq_iff_iff, decide_eq_true_eq, beq_iff_eq]
        omega
      rw [eq2]
      show _ = TL.tl "Lot(" ++ (TL.tl (partA u) ++ (restL (partsB u) ++ (restL (partsC u) ++ (TL.tl ", " ++ (TL.tl (Str.empty ++ "shades=" ++ tupleText (u.hues.map PySem.reprText)) ++ [])))))
      unfold tupleText
      rw [← TL.join_eq]
      simp only [TL.tl_append, tC, TL.join_eq, TL.tl_join, eq1, List.append_assoc, List.append_nil]
      have x1 : TL.tl ", shades=(" = TL.tl ", " ++ (TL.tl "shades=" ++ TL.tl "(") := by decide +kernel
      have x3 : TL.tl Str.empty = [] := rfl
      rw [x1, x3]
      cases ((u.hues.map PySem.reprText).length == 1) <;> simp only [List.append_assoc, List.nil_append] <;> rfl
  rintro σ' H5 ⟨XD, w7, rfl, z5, tD, lD⟩
  refine ⟨_, rfl, _, _, rfl, rfl, Nat.le_trans (Nat.add_le_add lD (show (")" : Str).length ≤ 1 by decide +kernel)) (by decide), ?_⟩
  have hz : XD ++ ")" = lotR u := TL.ext_tl (by
    rw [TL.tl_append, tD, lotR_tl]
    simp only [List.append_assoc])
  rw [hz]
  exact q H5 z5
def spLawStr : Sp := fun vs H Q _ => ∃ (a : Addr) (u : Pt), vs = [.ref a] ∧ PtAt H a u ∧ GoodPt u ∧ ∀ H', Same H H' → Q (.str (lotS u)) H'
theorem ok_str (T : Tx K mg) : FnOk P w K mg base CX0 1 T.A_str T.fd_str ["_law_parts_here"] (spLawStr) := by
  refine T.F_str.ok sc_str (fun vs H Q E h => ?_) (fun cdv A outer s H vs Q E hr h => ?_)
  · obtain ⟨a, u, rfl, ⟨t, ha, ht⟩, g, q⟩ := h
    rfl
  obtain ⟨a, u, rfl, ⟨t, ha, ht⟩, g, q⟩ := h
  refine ⟨_, (pss_cons (ps_asg (pv 0) (pg_unl rfl (pgs_cons (pg_name (i := 1) sc_str.nd rfl (Or.inl rfl)) (pgs_cons (pg_name (i := 2) sc_str.nd rfl (Or.inl rfl)) (pgs_cons (pg_name (i := 3) sc_str.nd rfl (Or.inl rfl)) (pgs_cons (pg_name (i := 4) sc_str.nd rfl (Or.inl rfl)) (pgs_cons (pg_name (i := 5) sc_str.nd rfl (Or.inl rfl)) pgs_nil))))) (by rfl)))
      (pss_one (ps_ret (pe_bm PySem.F.plainAttrs_str PySem.F.slot_str_join PySem.F.type_str_join mt_join pe_str (pa_cons (pe_lst (pa_cons (pv 1) (pa_cons (pe_callTy call_str_int (by rfl) T.z_str (by decide +kernel) (pa_cons (pv 2) pa_nil)) (pa_cons (pe_callTy call_str_int (by rfl) T.z_str (by decide +kernel) (pa_cons (pv 3) pa_nil)) (pa_cons (pe_callTy call_str_int (by rfl) T.z_str (by decide +kernel) (pa_cons (pv 4) pa_nil)) (pa_cons (pe_op op_add_str (pe_bm PySem.F.plainAttrs_str PySem.F.slot_str_join PySem.F.type_str_join mt_join pe_str (pa_cons (pv 5) pa_nil)) (pe_op op_mul01 pe_str (pe_callTy call_int1 (by rfl) T.z_int (by decide +kernel) (pa_cons (pe_cmpR (op_eqD hr.units) (pv 5) (pe_tup pa_nil) (nomark _)) pa_nil)))) pa_nil)))))) pa_nil))))), ?_⟩
  have s0 := g.s0
  have s1 := g.s1
  have l0 := g.l0
  have lh := g.lh
  have h1 := g.h1
  have n1 := num_le (n := u.space) s0 (by omega)
  have n2 := num_le (n := u.lo) (by omega) (by omega)
  have n3 := num_le (n := u.hi) (by omega) (by omega)
  have nc := (nm_low g.name).1
  have few := g.few
  refine ⟨_, rfl, a, _, rfl, SqL.of ha, rfl, _, _, rfl, _, _, rfl, _, _, rfl, _, _, rfl, _, _, rfl, rfl, ?_⟩
  have e1 : ("," : Str).length = 1 := by decide +kernel
  have jb := joins_le (s := ",") (hues_le g)
  have jb : (u.hues.map (·.length)).sum + u.hues.length * ("," : Str).length ≤ 72 := by
    rw [e1] at jb ⊢
    omega
  have jl := jn_le jb
  refine ⟨rfl, _, rfl, _, rfl, _, rfl, num_log0 s0 (by omega), _, rfl, _, rfl, num_log0 (n := u.lo) (by omega) (by omega), _, rfl, _, rfl, num_log0 (n := u.hi) (by omega) (by omega), rfl, _, rfl, _, t, u.hues, rfl, rfl, .inr (.inl (.inl ht)), Nat.le_trans jb (by decide), ?_⟩
  refine ⟨_, rfl, Nat.zero_le _, fun t0 ht0 => ?_⟩
  have x0 := same_upd ht0 (o := .tup [])
  refine ⟨.tuple (strsD u.hues), .tuple [], .tup (.inl (.inl (x0 _ _ ht))) (strs_dp _), .tup (.inl (.inl upd_same)) .nil, tupD_sh g.hues, rfl, .inr ⟨_, rfl, _, _, rfl, rfl, (by decide +kernel), ?_⟩⟩
  rw [eqv_nilT]
  have k2 : (if u.hues.isEmpty = true then ("-" : Str) else Str.empty).length ≤ 1 := by
    split
    · decide +kernel
    · exact Nat.zero_le _
  refine ⟨_, _, rfl, rfl, Nat.le_trans (Nat.add_le_add jl k2) (by decide), (by show 5 ≤ sizeLine; decide), fun l hl => ?_⟩
  have x1 := same_upd hl (o := .lst [.str u.called, .str (Str.ofString (toString u.space)), .str (Str.ofString (toString u.lo)), .str (Str.ofString (toString u.hi)), .str (Txt.join "," u.hues ++ (if u.hues.isEmpty = true then ("-" : Str) else Str.empty))])
  have m5 := app_le jl k2
  have b1 : (" " : Str).length = 1 := by decide +kernel
  refine ⟨_, l, [u.called, Str.ofString (toString u.space), Str.ofString (toString u.lo), Str.ofString (toString u.hi), Txt.join "," u.hues ++ (if u.hues.isEmpty = true then ("-" : Str) else Str.empty)], rfl, rfl, .inl (SqL.of upd_same), ?_, ?_⟩
  · simp only [List.map_cons, List.map_nil, List.sum_cons, List.sum_nil, List.length_cons, List.length_nil, b1]
    omega
  · have hz : Txt.join " " [u.called, Str.ofString (toString u.space), Str.ofString (toString u.lo), Str.ofString (toString u.hi), Txt.join "," u.hues ++ (if u.hues.isEmpty = true then ("-" : Str) else Str.empty)] = lotS u := lotS_of (by
      rw [TL.join_eq, TL.tl_join]
      unfold lotL nL
      simp only [List.map_cons, List.map_nil, TL.joinL, TL.tl_append, List.append_assoc]
      by_cases h : u.hues.isEmpty = true
      · rw [if_pos h, if_pos h, List.isEmpty_iff.mp h]
        rfl
      · rw [if_neg h, if_neg h]
        show _ ++ (_ ++ (_ ++ (_ ++ (_ ++ (_ ++ (_ ++ (_ ++ (_ ++ []))))))) ) = _
        rw [List.append_nil])
    rw [hz]
    exact q _ (x0.trans x1)
end
end KB
namespace KB
open PySem PySem.Spec PyProof.Rows L2 KA
section
variable {P : Program} {w : World} {K : PySem.W.Frag} {mg : Str → Option Value} {base : Heap}
/-- what is no name -/
def OddN (K : PySem.W.Frag) (d : Addr) (H : Hp) (v : V) : Prop := Th K H v ∧ Sh v ∧ nm v = false ∧ ∀ a, v = .ref a → a ≠ d
def spOddName (K : PySem.W.Frag) : Sp := fun vs H Q _ => ∃ (d : Addr) (z : Str) (n : Nat), vs = [.ref d, .str z] ∧ nm (.str z) = true ∧ Dr PM d n H ∧ n ≤ 100000 ∧ ∀ (H' : Hp) (v : V), OddN K d H' v → But d H H' → Dr PM d (n + 2) H' → Q v H'
/-- what is no number from lo to hi -/
def OddI (K : PySem.W.Frag) (d : Addr) (lo hi : Int) (H : Hp) (v : V) : Prop := Th K H v ∧ whl v lo hi = false ∧ ∀ a, v = .ref a → a ≠ d
def spOddNum (K : PySem.W.Frag) : Sp := fun vs H Q _ => ∃ (d : Addr) (lo hi : Int) (n : Nat), vs = [.ref d, .int lo, .int hi] ∧ 0 ≤ lo ∧ lo ≤ hi ∧ hi ≤ 1000000 ∧ Dr PM d n H ∧ n ≤ 100000 ∧ ∀ (H' : Hp) (v : V), OddI K d lo hi H' v → But d H H' → Dr PM d (n + 2) H' → Q v H'
/-- five things that make no lot, in a list -/
def spOddParts (K : PySem.W.Frag) : Sp := fun vs H Q _ => ∃ (d a : Addr) (n : Nat) (u : Pt), vs = [.ref d, .ref a] ∧ a ≠ d ∧ PtAt H a u ∧ GoodPt u ∧ Dr PM d n H ∧ n ≤ 90000 ∧
  ∀ (H' : Hp) (l : Addr) (x1 x2 x3 x4 x5 : V), H' l = some (.lst [x1, x2, x3, x4, x5]) → NoLot K H' x1 x2 x3 x4 x5 → But d H H' → Dr PM d (n + 20) H' → Q (.ref l) H'
theorem nopart {σ : L2.St} {H : Hp} {Q : Option Int → Hp → Prop} (h : Q none H) : tNoPart σ H Q := h
theorem bad_text {y : Str} {c : Nat} (hc : c ∈ TL.tl y) (hl : lower c = false) : nm (.str y) = false := by
  cases h : nm (.str y) with
  | false => rfl
  | true =>
    have := (nm_is h).2.2 c hc
    rw [hl] at this
    cases this
theorem long_text {y : Str} (h : 8 < y.length) : nm (.str y) = false := by
  cases h2 : nm (.str y) with
  | false => rfl
  | true =>
    have := (nm_is h2).2.1
    omega
theorem sign_bad {x : V} {i : Nat} (h : ([.str "A", .str " ", .str "1", .str "-", .str "\n"] : List V)[i]? = some x) : ∃ s : Str, x = .str s ∧ s.length ≤ 1 ∧ ∃ c, c ∈ TL.tl s ∧ lower c = false := by
  have h := List.mem_of_getElem? h
  simp only [List.mem_cons, List.not_mem_nil, or_false] at h
  rcases h with rfl | rfl | rfl | rfl | rfl
  · exact ⟨_, rfl, by decide +kernel, 65, by decide +kernel, by decide +kernel⟩
  · exact ⟨_, rfl, by decide +kernel, 32, by decide +kernel, by decide +kernel⟩
  · exact ⟨_, rfl, by decide +kernel, 49, by decide +kernel, by decide +kernel⟩
  · exact ⟨_, rfl, by decide +kernel, 45, by decide +kernel, by decide +kernel⟩
  · exact ⟨_, rfl, by decide +kernel, 10, by decide +kernel, by decide +kernel⟩
theorem odd_str {K : PySem.W.Frag} {d : Addr} {H : Hp} {y : Str} (h : nm (.str y) = false) (hl : y.length ≤ 100000) : OddN K d H (.str y) := ⟨.str y, fun z e => (by injection e with e; rw [← e]; exact hl), h, fun a e => by cases e⟩
theorem ok_odd_name (T : Tx K mg) : FnOk P w K mg base CX0 3 T.A_odd_name T.fd_odd_name ["_law_source", "_law_called"] (spOddName K) := by
  refine T.F_odd_name.ok sc_odd_name (fun vs H Q E h => ?_) (fun cdv A outer s H vs Q E hr h => ?_)
  · obtain ⟨d, z, n, rfl, hz, dr, hn, q⟩ := h
    rfl
  obtain ⟨d, z, n, rfl, hz, dr, hn, q⟩ := h
  refine ⟨_, (pss_cons (ps_set (i := 2) sc_odd_name.nd rfl (Or.inr rfl) (pe_call (ok_draw T) (hr.mono (by decide)) (by rfl) T.g_draw T.F_draw.kp T.b_draw .nil pass0 (pa_cons (pv 0) (pa_cons (pe_op op_add (pe_callB call_len_str (by rfl) T.z_len PySem.boot_len (pa_cons (pv 1) pa_nil)) pe_int) pa_nil))))
      (pss_cons (ps_setLc (i := 3) (own := [("_law_sign", 4)]) (g := gName 4) (tt := tYes) rfl sc_odd_name.nd rfl rfl (sw_true rfl rfl rfl (by decide +kernel)) (pi_list (pe_lst (pa_cons pe_str (pa_cons pe_str (pa_cons pe_str (pa_cons pe_str (pa_cons pe_str pa_nil))))))) (blkOk_by (N := ["_law_source", "_law_called", "_law_at", "_law_some", "_law_sign"]) (sc := defScope s_odd_name) (by decide +kernel)) (fun _ _ _ _ _ => (pg_name (i := 4) sc_odd_name.nd rfl (Or.inl rfl))) (fun _ _ _ _ _ => pts_nil) (fun _ _ _ _ _ => (pe_op op_add_str (pe_op op_add_str (pe_slice sl_str (pv 1) po_none (po_some (pv 2))) (pv 4)) (pe_slice sl_str (pv 1) (po_some (pv 2)) po_none))))
      (pss_one (ps_ret (pe_call (ok_one T) (hr.mono (by decide)) (by rfl) T.g_one T.F_one.kp T.b_one .nil pass0 (pa_cons (pv 0) (pa_cons (pe_op op_cat (pv 3) (pe_lst (pa_cons pe_str (pa_cons (pe_op op_add_str (pv 1) pe_str) (pa_cons pe_non (pa_cons pe_int (pa_cons (pe_tup (pa_cons (pv 1) pa_nil)) (pa_cons (pe_lst (pa_cons (pv 1) pa_nil)) (pa_cons pe_bl pa_nil))))))))) pa_nil))))))), ?_⟩
  have lz := (nm_is hz).2.1
  have lp : (0 : Int) < ((z.length : Nat) : Int) + 1 := by omega
  refine ⟨_, rfl, _, rfl, z, rfl, Nat.le_trans lz (by decide), _, _, rfl, rfl, d, ((z.length : Nat) : Int) + 1, n, rfl, lp, log_tiny lp (by omega), dr, by omega, fun H1 r a1 c1 b1 dr1 => ?_⟩
  refine ⟨(by show 5 ≤ sizeLine; decide), fun l1 hl1 => ⟨l1, rfl, ⟨_, SqL.of upd_same⟩, fun D hD => lc_gen (K := K) hD (SqL.of upd_same) (by decide) (fun j v _ => ∃ y : Str, v = .str y ∧ nm (.str y) = false ∧ y.length ≤ 100) (fun j v H1 H2 s h => h) ?_ ?_⟩⟩
  · intro i x H2 R C hx s2 hR
    obtain ⟨s, rfl, ls, c, hc, hl⟩ := sign_bad hx
    have k1 : (cutS z none (some r)).length ≤ 8 := Nat.le_trans (cutS_length _ _ _) lz
    have k2 : (cutS z (some r) none).length ≤ 8 := Nat.le_trans (cutS_length _ _ _) lz
    have k3 := app_le k1 ls
    have k4 := app_le k3 k2
    refine ⟨rfl, yesT ⟨_, rfl, _, rfl, _, rfl, _, rfl, Nat.le_trans lz (by decide), _, rfl, _, _, rfl, rfl, Nat.le_trans (Nat.add_le_add k1 ls) (by decide), _, rfl, _, rfl, _, rfl, nopart ⟨_, rfl, Nat.le_trans lz (by decide), _, _, rfl, rfl, Nat.le_trans (Nat.add_le_add k3 k2) (by decide), hR _ _ (Same.refl _) ⟨_, rfl, bad_text (c := c) ?_ hl, Nat.le_trans k4 (by decide)⟩⟩⟩⟩
    rw [TL.tl_append, TL.tl_append]
    exact List.mem_append_left _ (List.mem_append_right _ hc)
  intro H2 acc s2 e2 la g2
  have dr2 := dr1.same ((same_upd hl1).trans s2)
  have b2 := b1.trans (But.of ((same_upd hl1 (o := .lst [.str "A", .str " ", .str "1", .str "-", .str "\n"])).trans s2))
  have k8 : ("abcdefgh" : Str).length = 8 := by decide +kernel
  refine ⟨_, rfl, _, rfl, _, rfl, _, _, rfl, rfl, Nat.le_trans (Nat.add_le_add lz (Nat.le_of_eq k8)) (by decide), _, rfl, (by show 1 ≤ sizeLine; decide), fun t1 ht1 => ⟨_, rfl, (by show 1 ≤ sizeLine; decide), fun l2 hl2 => ⟨(by show 7 ≤ sizeLine; decide), fun l3 hl3 => ?_⟩⟩⟩
  have x1 := same_upd ht1 (o := .tup [.str z])
  have x2 := same_upd hl2 (o := .lst [.str z])
  have x3 := same_upd hl3 (o := .lst [.str "", .str (z ++ "abcdefgh"), .non, .int 7, .ref t1, .ref l2, .bl true])
  have x13 := x1.trans (x2.trans x3)
  refine ⟨D, l3, acc, _, rfl, rfl, x13 _ _ e2, upd_same, sz _ (by rw [la]; show 5 + 7 ≤ 100000; decide), fun l4 hl4 => ?_⟩
  have x4 := same_upd hl4 (o := .lst (acc ++ [.str "", .str (z ++ "abcdefgh"), .non, .int 7, .ref t1, .ref l2, .bl true]))
  have n1 := dr2.ne ht1
  have n2 := (dr2.same x1).ne hl2
  have n4 := (dr2.same x13).ne hl4
  refine ⟨d, l4, _, _, rfl, n4, SqL.of upd_same, by simp, by rw [List.length_append, la]; show 5 + 7 ≤ 1000; decide, dr2.same (x13.trans x4), by omega, fun H5 v hv b5 dr5 => ?_⟩
  have bA := b2.trans ((But.of (x13.trans x4)).trans b5)
  refine q H5 v ?_ bA dr5
  have et := b5 _ _ n1 ((x2.trans (x3.trans x4)) _ _ upd_same)
  have el := b5 _ _ n2 ((x3.trans x4) _ _ upd_same)
  rcases List.mem_append.mp hv with hv | hv
  · obtain ⟨i, hi⟩ := List.getElem?_of_mem hv
    obtain ⟨y, rfl, h1, h2⟩ := g2 i v hi
    exact odd_str h1 (Nat.le_trans h2 (by decide))
  · simp only [List.mem_cons, List.not_mem_nil, or_false] at hv
    rcases hv with rfl | rfl | rfl | rfl | rfl | rfl | rfl
    · exact odd_str (by decide +kernel) (by decide +kernel)
    · exact odd_str (long_text (by rw [Str.length_append, k8]; have := (nm_is hz).1; omega)) (by rw [Str.length_append, k8]; omega)
    · exact ⟨.non, fun z e => (by cases e), rfl, fun a e => by cases e⟩
    · exact ⟨.int 7, fun z e => (by cases e), rfl, fun a e => by cases e⟩
    · exact ⟨.tup (.base (.tup et)), fun z e => (by cases e), rfl, fun a e => by injection e with e; rw [← e]; exact n1⟩
    · exact ⟨.lst (.base (.lst el)), fun z e => (by cases e), rfl, fun a e => by injection e with e; rw [← e]; exact n2⟩
    · exact ⟨.bl true, fun z e => (by cases e), rfl, fun a e => by cases e⟩
theorem whl_no {i lo hi : Int} (h : i < lo ∨ hi < i) : whl (.int i) lo hi = false := by
  show (decide (lo ≤ i) && decide (i ≤ hi)) = false
  rcases h with h | h
  · rw [decide_eq_false (by omega)]
    rfl
  · rw [decide_eq_false (show ¬ i ≤ hi by omega), Bool.and_false]
theorem ok_odd_number (T : Tx K mg) : FnOk P w K mg base CX0 3 T.A_odd_number T.fd_odd_number ["_law_source", "_law_low", "_law_high"] (spOddNum K) := by
  refine T.F_odd_number.ok sc_odd_number (fun vs H Q E h => ?_) (fun cdv A outer s H vs Q E hr h => ?_)
  · obtain ⟨d, lo, hi, n, rfl, h0, h1, h2, dr, hn, q⟩ := h
    rfl
  obtain ⟨d, lo, hi, n, rfl, h0, h1, h2, dr, hn, q⟩ := h
  refine ⟨_, (pss_cons (ps_set (i := 3) sc_odd_number.nd rfl (Or.inl rfl) (pe_op op_add pe_int (pe_call (ok_draw T) (hr.mono (by decide)) (by rfl) T.g_draw T.F_draw.kp T.b_draw .nil pass0 (pa_cons (pv 0) (pa_cons pe_int pa_nil)))))
      (pss_one (ps_ret (pe_call (ok_one T) (hr.mono (by decide)) (by rfl) T.g_one T.F_one.kp T.b_one .nil pass0 (pa_cons (pv 0) (pa_cons (pe_lst (pa_cons (pe_op op_sub (pv 1) (pv 3)) (pa_cons (pe_op op_add (pv 2) (pv 3)) (pa_cons pe_bl (pa_cons pe_non (pa_cons (pe_callTy call_str_int (by rfl) T.z_str (by decide +kernel) (pa_cons (pv 1) pa_nil)) (pa_cons (pe_lst (pa_cons (pv 1) pa_nil)) (pa_cons (pe_tup (pa_cons (pv 2) pa_nil)) (pa_cons (pe_un un_neg (pe_op op_pow pe_int pe_int)) (pa_cons (pe_op op_pow pe_int pe_int) pa_nil)))))))))) pa_nil)))))), ?_⟩
  refine ⟨_, rfl, d, 9, n, rfl, by decide, log_tiny (by decide) (by decide), dr, by omega, fun H1 r a1 c1 b1 dr1 => ⟨_, _, rfl, rfl, ?_⟩⟩
  refine ⟨_, rfl, _, rfl, _, rfl, _, _, rfl, rfl, _, rfl, _, rfl, _, _, rfl, rfl, _, rfl, _, rfl, num_log0 h0 (by omega), _, rfl, (by show 1 ≤ sizeLine; decide), fun l1 hl1 => ⟨_, rfl, (by show 1 ≤ sizeLine; decide), fun t1 ht1 => ?_⟩⟩
  have x1 := same_upd hl1 (o := .lst [.int lo])
  have x2 := same_upd ht1 (o := .tup [.int hi])
  refine ⟨_, _, rfl, rfl, ⟨by decide, by decide, by decide⟩, _, rfl, _, _, rfl, rfl, ⟨by decide, by decide, by decide⟩, (by show 9 ≤ sizeLine; decide), fun l3 hl3 => ?_⟩
  have x3 := same_upd hl3 (o := .lst [.int (lo - (1 + r)), .int (hi + (1 + r)), .bl true, .non, .str (toString lo), .ref l1, .ref t1, .int (-(10 ^ (40 : Int).toNat)), .int (10 ^ (40 : Int).toNat)])
  have n1 := dr1.ne hl1
  have n2 := (dr1.same x1).ne ht1
  have n3 := (dr1.same (x1.trans x2)).ne hl3
  have x13 := x1.trans (x2.trans x3)
  refine ⟨d, l3, _, _, rfl, n3, SqL.of upd_same, by simp, by show 9 ≤ 1000; decide, dr1.same x13, by omega, fun H5 v hv b5 dr5 => ?_⟩
  refine q H5 v ?_ (b1.trans ((But.of x13).trans b5)) dr5
  have el := b5 _ _ n1 ((x2.trans x3) _ _ upd_same)
  have et := b5 _ _ n2 (x3 _ _ upd_same)
  have e40 : (10 : Int) ^ (40 : Int).toNat = 10000000000000000000000000000000000000000 := by decide
  simp only [List.mem_cons, List.not_mem_nil, or_false] at hv
  rcases hv with rfl | rfl | rfl | rfl | rfl | rfl | rfl | rfl | rfl
  · exact ⟨.int _, whl_no (.inl (by omega)), fun a e => by cases e⟩
  · exact ⟨.int _, whl_no (.inr (by omega)), fun a e => by cases e⟩
  · exact ⟨.bl _, rfl, fun a e => by cases e⟩
  · exact ⟨.non, rfl, fun a e => by cases e⟩
  · exact ⟨.str _, rfl, fun a e => by cases e⟩
  · exact ⟨.lst (.base (.lst el)), rfl, fun a e => by injection e with e; rw [← e]; exact n1⟩
  · exact ⟨.tup (.base (.tup et)), rfl, fun a e => by injection e with e; rw [← e]; exact n2⟩
  · exact ⟨.int _, whl_no (.inl (by rw [e40]; omega)), fun a e => by cases e⟩
  · exact ⟨.int _, whl_no (.inr (by rw [e40]; omega)), fun a e => by cases e⟩
theorem tyx_but {K : PySem.W.Frag} {H H' : Hp} {d a : Addr} (s : But d H H') (n : a ≠ d) {t : Value} (h : TyX K H (.ref a) t) : TyX K H' (.ref a) t := by
  cases h with
  | base h =>
    cases h with
    | lst e => exact .base (.lst (s _ _ n e))
    | frz e => exact .base (.frz (s _ _ n e))
    | tup e => exact .base (.tup (s _ _ n e))
    | dK e => exact .base (.dK (s _ _ n e))
    | dT e => exact .base (.dT (s _ _ n e))
    | ins e cl ha hn htk hm => exact .base (.ins (s _ _ n e) cl ha hn htk hm)
  | set e => exact .set (s _ _ n e)
  | kList e c => exact .kList e c
  | kTuple e c => exact .kTuple e c
  | kDict e c => exact .kDict e c
  | fTuple e => exact .fTuple (s _ _ n e)
  | fDict e => exact .fDict (s _ _ n e)
theorem th_but {K : PySem.W.Frag} {H H' : Hp} {d : Addr} {v : V} (s : But d H H') (ne : ∀ a, v = .ref a → a ≠ d) (h : Th K H v) : Th K H' v := by
  cases h with
  | int i => exact .int i
  | bl b => exact .bl b
  | str z => exact .str z
  | non => exact .non
  | lst h => exact .lst (tyx_but s (ne _ rfl) h)
  | tup h => exact .tup (tyx_but s (ne _ rfl) h)
  | dct h => exact .dct (tyx_but s (ne _ rfl) h)
theorem OddN.but {K : PySem.W.Frag} {d : Addr} {H H' : Hp} {v : V} (h : OddN K d H v) (b : But d H H') : OddN K d H' v := ⟨th_but b h.2.2.2 h.1, h.2.1, h.2.2.1, h.2.2.2⟩
theorem OddN.same {K : PySem.W.Frag} {d : Addr} {H H' : Hp} {v : V} (h : OddN K d H v) (s : Same H H') : OddN K d H' v := ⟨h.1.same s, h.2⟩
theorem tail_odd {K : PySem.W.Frag} {D : Ends} {σ : L2.St} {H : Hp} {a : Addr} {xs : List V} {k : Int} {odd : V} (h1 : σ[1]? = some (some (.ref a))) (h7 : σ[7]? = some (some (.int k))) (h8 : σ[8]? = some (some odd)) (ha : H a = some (.lst xs)) (hl : xs.length = 5)
    (fin : ∀ H' l, Same H H' → H' l = some (.lst (cutV xs none (some k) ++ [odd] ++ cutV xs (some (k + 1)) none)) → D.rt (.ref l) H') :
    tRet (tOp rCat (tOp rCat (tSl (rSlL K) (tVar 1) tNoPart (tPart (tVar 7))) (tLst (tCons (tVar 8) tNil))) (tSl (rSlL K) (tVar 1) (tPart (tOp (rI0 fun i j => V.int (i + j)) (tVar 7) (tC (V.int 1)))) tNoPart)) D σ H := by
  have c1 := len_cut xs none (some k)
  have c2 := len_cut xs (some (k + 1)) none
  refine ⟨_, h1, _, h7, _, rfl, a, xs, rfl, SqL.of ha, fun l1 hl1 => ⟨_, h8, (by show 1 ≤ sizeLine; decide), fun l2 hl2 => ?_⟩⟩
  have x1 := same_upd hl1 (o := .lst (cutV xs none (some k)))
  have x2 := same_upd hl2 (o := .lst [odd])
  refine ⟨l1, l2, _, _, rfl, rfl, x2 _ _ upd_same, upd_same, sz _ (by rw [List.length_singleton]; omega), fun l3 hl3 => ?_⟩
  have x3 := same_upd hl3 (o := .lst (cutV xs none (some k) ++ [odd]))
  have x13 := x1.trans (x2.trans x3)
  refine ⟨_, h1, _, h7, _, _, rfl, rfl, _, rfl, nopart ⟨a, xs, rfl, SqL.of (x13 _ _ ha), fun l4 hl4 => ?_⟩⟩
  have x4 := same_upd hl4 (o := .lst (cutV xs (some (k + 1)) none))
  refine ⟨l3, l4, _, _, rfl, rfl, x4 _ _ upd_same, upd_same, sz _ (by rw [List.length_append, List.length_singleton]; omega), fun l5 hl5 => ?_⟩
  exact fin _ l5 (x13.trans (x4.trans (same_upd hl5))) upd_same
theorem pt_len (u : Pt) (t : Addr) : (ptV u t).length = 5 := rfl
theorem cut_take {zs : List Str} : cutV (zs.map V.str) none (some 2) = (zs.take 2).map V.str := by
  unfold cutV
  have e1 : HT.sIx (zs.map V.str).length 0 none = 0 := rfl
  have e2 : HT.sIx (zs.map V.str).length (zs.map V.str).length (some 2) = min 2 zs.length := by
    show HT.sIx (zs.map V.str).length (zs.map V.str).length (some ((2 : Nat) : Int)) = _
    rw [HT.sIx_nat, List.length_map]
  rw [e1, e2, List.drop_zero, Nat.sub_zero, ← List.map_take]
  congr 1
  by_cases h : 2 ≤ zs.length
  · rw [Nat.min_eq_left h]
  · rw [Nat.min_eq_right (by omega), List.take_of_length_le (Nat.le_refl _), List.take_of_length_le (by omega)]
theorem ok_odd_parts (T : Tx K mg) : FnOk P w K mg base CX0 4 T.A_odd_parts T.fd_odd_parts ["_law_source", "_law_parts_here"] (spOddParts K) := by
  refine T.F_odd_parts.ok sc_odd_parts (fun vs H Q E h => ?_) (fun cdv A outer s H vs Q E hr h => ?_)
  · obtain ⟨d, a, n, u, rfl, nad, ⟨t, ha, ht⟩, g, dr, hn, q⟩ := h
    rfl
  obtain ⟨d, a, n, u, rfl, nad, ⟨t, ha, ht⟩, g, dr, hn, q⟩ := h
  refine ⟨_, (pss_cons (ps_asg (pv 1) (pg_unl rfl (pgs_cons (pg_name (i := 2) sc_odd_parts.nd rfl (Or.inl rfl)) (pgs_cons (pg_name (i := 3) sc_odd_parts.nd rfl (Or.inl rfl)) (pgs_cons (pg_name (i := 4) sc_odd_parts.nd rfl (Or.inl rfl)) (pgs_cons (pg_name (i := 5) sc_odd_parts.nd rfl (Or.inl rfl)) (pgs_cons (pg_name (i := 6) sc_odd_parts.nd rfl (Or.inl rfl)) pgs_nil))))) (by rfl)))
      (pss_cons (ps_set (i := 7) sc_odd_parts.nd rfl (Or.inl rfl) (pe_call (ok_draw T) (hr.mono (by decide)) (by rfl) T.g_draw T.F_draw.kp T.b_draw .nil pass0 (pa_cons (pv 0) (pa_cons pe_int pa_nil))))
      (pss_cons (ps_if (pt_cmpR op_eq (pv 7) pe_int (nomark _)) (pss_one (ps_set (i := 8) sc_odd_parts.nd rfl (Or.inl rfl) (pe_call (ok_odd_name T) (hr.mono (by decide)) (by rfl) T.g_odd_name T.F_odd_name.kp T.b_odd_name .nil pass0 (pa_cons (pv 0) (pa_cons (pv 2) pa_nil))))) (pss_one (ps_if (pt_cmpR op_eq (pv 7) pe_int (nomark _)) (pss_one (ps_set (i := 8) sc_odd_parts.nd rfl (Or.inl rfl) (pe_call (ok_odd_number T) (hr.mono (by decide)) (by rfl) T.g_odd_number T.F_odd_number.kp T.b_odd_number .nil pass0 (pa_cons (pv 0) (pa_cons pe_int (pa_cons pe_int pa_nil)))))) (pss_one (ps_if (pt_cmpR op_eq (pv 7) pe_int (nomark _)) (pss_one (ps_set (i := 8) sc_odd_parts.nd rfl (Or.inl rfl) (pe_call (ok_odd_number T) (hr.mono (by decide)) (by rfl) T.g_odd_number T.F_odd_number.kp T.b_odd_number .nil pass0 (pa_cons (pv 0) (pa_cons pe_int (pa_cons (pv 5) pa_nil)))))) (pss_one (ps_if (pt_cmpR op_eq (pv 7) pe_int (nomark _)) (pss_one (ps_set (i := 8) sc_odd_parts.nd rfl (Or.inl rfl) (pe_call (ok_odd_number T) (hr.mono (by decide)) (by rfl) T.g_odd_number T.F_odd_number.kp T.b_odd_number .nil pass0 (pa_cons (pv 0) (pa_cons (pv 4) (pa_cons (pe_op op_pow pe_int pe_int) pa_nil)))))) (pss_cons (ps_set (i := 9) sc_odd_parts.nd rfl (Or.inl rfl) (pe_lst (pa_cons (pe_callTy call_list_of (by rfl) T.z_list (by decide +kernel) (pa_cons (pv 6) pa_nil)) (pa_cons pe_str (pa_cons pe_int (pa_cons pe_bl (pa_cons (pe_op op_catA (pv 6) (pe_tup (pa_cons (pe_call (ok_odd_name T) (hr.mono (by decide)) (by rfl) T.g_odd_name T.F_odd_name.kp T.b_odd_name .nil pass0 (pa_cons (pv 0) (pa_cons pe_str pa_nil))) pa_nil))) (pa_cons (pe_op op_catA (pv 6) (pe_tup (pa_cons (pv 2) (pa_cons (pv 2) pa_nil)))) pa_nil))))))))
      (pss_one (ps_set (i := 8) sc_odd_parts.nd rfl (Or.inl rfl) (pe_call (ok_one T) (hr.mono (by decide)) (by rfl) T.g_one T.F_one.kp T.b_one .nil pass0 (pa_cons (pv 0) (pa_cons (pe_op op_cat (pv 9) (pe_lst (pa_cons (pe_op op_catA (pe_slice sl_tupA (pv 6) po_none (po_some pe_int)) (pe_tup (pa_cons pe_str (pa_cons pe_str (pa_cons pe_str pa_nil))))) (pa_cons pe_dnewK (pa_cons (pe_tup (pa_cons (pe_tup (pa_cons pe_str pa_nil)) pa_nil)) pa_nil))))) pa_nil)))))))))))))
      (pss_one (ps_ret (pe_op op_cat (pe_op op_cat (pe_slice sl_list (pv 1) po_none (po_some (pv 7))) (pe_lst (pa_cons (pv 8) pa_nil))) (pe_slice sl_list (pv 1) (po_some (pe_op op_add (pv 7) pe_int)) po_none))))))), ?_⟩
  have ntd : t ≠ d := by
    obtain ⟨_, _, _, e, _⟩ := dr
    exact fun z => by rw [z, e] at ht; cases ht
  refine ⟨_, rfl, a, _, rfl, SqL.of ha, rfl, _, _, rfl, _, _, rfl, _, _, rfl, _, _, rfl, _, _, rfl, rfl, ?_⟩
  refine ⟨_, rfl, d, 5, n, rfl, by decide, log_tiny (by decide) (by decide), dr, by omega, fun H1 r a1 c1 b1 dr1 => ?_⟩
  have ha1 := b1 _ _ nad ha
  have ht1 := b1 _ _ ntd ht
  have wl : ∀ {i : Int}, 1 ≤ i → i ≤ 1000000 → whl (.int i) 1 1000000 = true := fun h1 h2 => whl_ok h1 h2
  have s0 := g.s0
  have s1 := g.s1
  have l0 := g.l0
  have lh := g.lh
  have h1 := g.h1
  refine ⟨_, rfl, rfl, _, rfl, ite2 (fun e => ?_) (fun f0 => ?_)⟩
  · have e := of_decide_eq_true e
    injection e with e
    subst e
    refine ⟨_, rfl, _, rfl, d, u.called, _, rfl, g.name, dr1, by omega, fun H2 v ov b2 dr2 => ?_⟩
    refine tail_odd (K := K) rfl rfl rfl (b2 _ _ nad ha1) (pt_len u t) fun H3 l s3 e3 => ?_
    exact q H3 l v (.int u.space) (.int u.lo) (.int u.hi) (.ref t) e3 (.name (ov.1.same s3) ov.2.1 ov.2.2.1) (b1.trans (b2.trans (But.of s3))) ((dr2.same s3).mono (by omega))
  refine ⟨_, rfl, rfl, _, rfl, ite2 (fun e => ?_) (fun f1 => ?_)⟩
  · have e := of_decide_eq_true e
    injection e with e
    subst e
    refine ⟨_, rfl, d, 0, 20, _, rfl, by decide, by decide, by decide, dr1, by omega, fun H2 v ov b2 dr2 => ?_⟩
    refine tail_odd (K := K) rfl rfl rfl (b2 _ _ nad ha1) (pt_len u t) fun H3 l s3 e3 => ?_
    exact q H3 l (.str u.called) v (.int u.lo) (.int u.hi) (.ref t) e3 (.room g.name (ov.1.same s3) ov.2.1) (b1.trans (b2.trans (But.of s3))) ((dr2.same s3).mono (by omega))
  refine ⟨_, rfl, rfl, _, rfl, ite2 (fun e => ?_) (fun f2 => ?_)⟩
  · have e := of_decide_eq_true e
    injection e with e
    subst e
    refine ⟨_, rfl, _, rfl, d, 1, u.hi, _, rfl, by decide, by omega, h1, dr1, by omega, fun H2 v ov b2 dr2 => ?_⟩
    refine tail_odd (K := K) rfl rfl rfl (b2 _ _ nad ha1) (pt_len u t) fun H3 l s3 e3 => ?_
    refine q H3 l (.str u.called) (.int u.space) v (.int u.hi) (.ref t) e3 ?_ (b1.trans (b2.trans (But.of s3))) ((dr2.same s3).mono (by omega))
    cases hv : whl v 1 1000000 with
    | false => exact .least g.name (whl_ok s0 s1) (ov.1.same s3) hv
    | true =>
      obtain ⟨i, rfl⟩ := whl_int hv
      have w2 := ov.2.1
      have hv' := whl_of hv
      have : u.hi < i := by
        by_cases hh : u.hi < i
        · exact hh
        · rw [whl_ok hv'.1 (by omega)] at w2
          cases w2
      exact .less g.name (whl_ok s0 s1) hv (whl_ok (by omega) h1) this
  refine ⟨_, rfl, rfl, _, rfl, ite2 (fun e => ?_) (fun f3 => ?_)⟩
  · have e := of_decide_eq_true e
    injection e with e
    subst e
    refine ⟨_, rfl, _, rfl, _, _, rfl, rfl, ⟨by decide, by decide, by decide⟩, d, u.lo, 1000000, _, (by rw [← e6]; rfl), by omega, by omega, by decide, dr1, by omega, fun H2 v ov b2 dr2 => ?_⟩
    refine tail_odd (K := K) rfl rfl rfl (b2 _ _ nad ha1) (pt_len u t) fun H3 l s3 e3 => ?_
    refine q H3 l (.str u.called) (.int u.space) (.int u.lo) v (.ref t) e3 ?_ (b1.trans (b2.trans (But.of s3))) ((dr2.same s3).mono (by omega))
    have wlo : whl (.int u.lo) 1 1000000 = true := whl_ok l0 (by omega)
    cases hv : whl v 1 1000000 with
    | false => exact .most g.name (whl_ok s0 s1) wlo (ov.1.same s3) hv
    | true =>
      obtain ⟨i, rfl⟩ := whl_int hv
      have w2 := ov.2.1
      have hv' := whl_of hv
      have : i < u.lo := by
        by_cases hh : i < u.lo
        · exact hh
        · rw [whl_ok (by omega) hv'.2] at w2
          cases w2
      exact .less g.name (whl_ok s0 s1) wlo hv this
  have hr : r = 4 := by
    have f0 : ¬ r = 0 := fun z => f0 (by rw [z]; rfl)
    have f1 : ¬ r = 1 := fun z => f1 (by rw [z]; rfl)
    have f2 : ¬ r = 2 := fun z => f2 (by rw [z]; rfl)
    have f3 : ¬ r = 3 := fun z => f3 (by rw [z]; rfl)
    omega
  subst hr
  have gr : nm (.str "rose") = true := by decide +kernel
  refine ⟨_, rfl, t, _, rfl, .inr (.inl (.inl ht1)), fun lA hlA => ?_⟩
  have xA := same_upd hlA (o := .lst (u.hues.map V.str))
  have nA := dr1.ne hlA
  refine ⟨_, rfl, _, rfl, d, "rose", _, rfl, gr, dr1.same xA, by omega, fun H2 vB ov b2 dr2 => ⟨(by show 1 ≤ sizeLine; decide), fun tB htB => ?_⟩⟩
  have eA2 := b2 _ _ nA (show (upd H1 lA (.lst (u.hues.map V.str))) lA = some (.lst (u.hues.map V.str)) from upd_same)
  have ht2 := b2 _ _ ntd (xA _ _ ht1)
  have xB := same_upd htB (o := .tup [vB])
  refine cata_of (xB _ _ ht2) upd_same (by rw [List.length_map, sizeLine_eq]; have := g.few; show u.hues.length + 1 ≤ _; omega) fun H3 cB xcB eB => ?_
  have x3 := xB.trans xcB
  refine ⟨_, rfl, _, rfl, _, rfl, (by show 2 ≤ sizeLine; decide), fun tC htC => ?_⟩
  have xC := same_upd htC (o := .tup [.str u.called, .str u.called])
  refine cata_of (xC _ _ (x3 _ _ ht2)) upd_same (by rw [List.length_map, sizeLine_eq]; have := g.few; show u.hues.length + 2 ≤ _; omega) fun H4 cC xcC eC => ?_
  have x4 := x3.trans (xC.trans xcC)
  refine ⟨(by show 6 ≤ sizeLine; decide), fun lS hlS => ?_⟩
  have xS := same_upd hlS (o := .lst [.ref lA, .str "rose", .int 0, .bl true, .ref cB, .ref cC])
  have x5 := x4.trans xS
  have ht5 := x5 _ _ ht2
  refine ⟨_, rfl, _, rfl, _, rfl, 2, rfl, sla_of ht5 fun H6 c6 x6 e6' => ⟨(by show 3 ≤ sizeLine; decide), fun tD htD => ?_⟩⟩
  rw [cut_take] at e6'
  have xD := same_upd htD (o := .tup [.str "x", .str "y", .str "x"])
  refine cata_of (xD _ _ e6') upd_same (by rw [List.length_map, List.length_take, sizeLine_eq]; show min 2 u.hues.length + 3 ≤ _; omega) fun H7 cD xcD eD => ?_
  have x57 := x6.trans (xD.trans xcD)
  intro D hD
  have xDD := same_upd hD (o := .dK [])
  refine ⟨(by show 1 ≤ sizeLine; decide), fun tE htE => ⟨(by show 1 ≤ sizeLine; decide), fun tF htF => ⟨(by show 3 ≤ sizeLine; decide), fun lT hlT => ?_⟩⟩⟩
  have xE := same_upd htE (o := .tup [.str "x"])
  have xF := same_upd htF (o := .tup [.ref tE])
  have xT := same_upd hlT (o := .lst [.ref cD, .ref D, .ref tF])
  have x7T := (xDD.trans (xE.trans xF)).trans xT
  have x5T := x57.trans x7T
  have eS := x5T _ _ (show (upd H4 lS (.lst [.ref lA, .str "rose", .int 0, .bl true, .ref cB, .ref cC])) lS = some (.lst [.ref lA, .str "rose", .int 0, .bl true, .ref cB, .ref cC]) from upd_same)
  refine ⟨lS, lT, _, _, rfl, rfl, eS, upd_same, (by show 6 + 3 ≤ sizeLine; decide), fun lU hlU => ?_⟩
  have xU := same_upd hlU (o := .lst ([.ref lA, .str "rose", .int 0, .bl true, .ref cB, .ref cC] ++ [.ref cD, .ref D, .ref tF]))
  have x2T := x5.trans x5T
  have x2U := x2T.trans xU
  have nU := (dr2.same x2T).ne hlU
  refine ⟨d, lU, _, _, rfl, nU, SqL.of upd_same, by simp, by show 9 ≤ 1000; decide, dr2.same x2U, by omega, fun H9 v hv b9 dr9 => ?_⟩
  have bb : But d H2 H9 := (But.of x2U).trans b9
  have b19 : But d H1 H9 := (But.of xA).trans (b2.trans bb)
  refine tail_odd (K := K) rfl rfl rfl (b19 _ _ nad ha1) (pt_len u t) fun HA l sA eA => ?_
  have nl9 : NL H2 H9 := dr_nl dr2 bb
  have kt : ∀ {a : Addr} {xs : List V} {H0 : Hp}, NL H0 HA → H0 a = some (.tup xs) → HA a = some (.tup xs) := fun n e => n _ _ (fun _ z => by cases z) e
  have n2A : NL H2 HA := nl9.trans (NL.of sA)
  have n3A : ∀ {H0 : Hp}, Same H2 H0 → Same H0 (upd (upd (upd (upd (upd H7 D (.dK [])) tE (.tup [.str "x"])) tF (.tup [.ref tE])) lT (.lst [.ref cD, .ref D, .ref tF])) lU (.lst ([.ref lA, .str "rose", .int 0, .bl true, .ref cB, .ref cC] ++ [.ref cD, .ref D, .ref tF]))) → NL H0 HA := fun {H0} s s' => (NL.of s').trans ((dr_nl (dr2.same (s.trans s')) b9).trans (NL.of sA))
  have eBA := kt (n3A x3 ((xC.trans xcC).trans (xS.trans (x5T.trans xU)))) eB
  have eCA := kt (n3A x4 (xS.trans (x5T.trans xU))) eC
  have eDA := kt (n3A (x5.trans x57) (x7T.trans xU)) eD
  have eEA : HA tE = some (.tup [.str "x"]) := kt (n3A (x5.trans (x57.trans (xDD.trans xE))) (xF.trans (xT.trans xU))) upd_same
  have eFA : HA tF = some (.tup [.ref tE]) := kt (n3A (x5.trans (x57.trans (xDD.trans (xE.trans xF)))) (xT.trans xU)) upd_same
  have eDD : HA D = some (.dK []) := (n3A (x5.trans (x57.trans xDD)) ((xE.trans xF).trans (xT.trans xU))) _ _ (fun _ z => by cases z) upd_same
  have eLA : HA lA = some (.lst (u.hues.map V.str)) := sA _ _ (bb _ _ nA eA2)
  have ovA : OddN K d HA vB := (ov.but bb).same sA
  refine q HA l (.str u.called) (.int u.space) (.int u.lo) (.int u.hi) v eA ?_ (b1.trans (b19.trans (But.of sA))) ((dr9.same sA).mono (by omega))
  have fin : v ≠ .non → ShV K HA v false → NoLot K HA (.str u.called) (.int u.space) (.int u.lo) (.int u.hi) v := fun h1' h2' => .shades g.name (whl_ok s0 s1) (whl_ok l0 (by omega)) (whl_ok (by omega) h1) lh h1' h2'
  have goods : ∀ z ∈ u.hues, Th K HA (.str z) ∧ Sh (.str z) := fun z hz => th_nm (g.hues z hz)
  have txtF : ∀ {l : Addr} {zs : List Str}, HA l = some (.tup (zs.map V.str)) → (∀ z ∈ zs, nm (.str z) = true) → zs.length ≤ 100 → ¬ zs.Nodup → ShV K HA (.ref l) false := fun {l zs} h1 h2 h3 h4 => by
    have := ShV.txt (K := K) h1 h2 h3
    rwa [decide_eq_false h4] at this
  have few := g.few
  rcases List.mem_append.mp hv with hv | hv
  · simp only [List.mem_cons, List.not_mem_nil, or_false] at hv
    rcases hv with rfl | rfl | rfl | rfl | rfl | rfl
    · exact fin (fun z => by cases z) (.no (.base (.lst eLA)) (kit_ty (r := false) (by decide +kernel)))
    · exact fin (fun z => by cases z) (.no (.base (.str _)) (kit_ty (r := false) (by decide +kernel)))
    · exact fin (fun z => by cases z) (.no (.base (.int _)) (kit_ty (r := false) (by decide +kernel)))
    · exact fin (fun z => by cases z) (.no (.base (.bl _)) (kit_ty (r := false) (by decide +kernel)))
    · refine fin (fun z => by cases z) (.odd eBA (fun x hx => ?_) (by rw [List.length_append, List.length_map, List.length_singleton]; omega) ?_)
      · rcases List.mem_append.mp hx with hx | hx
        · obtain ⟨z, hz, rfl⟩ := List.mem_map.mp hx
          exact goods z hz
        · rw [List.mem_singleton.mp hx]
          exact ⟨ovA.1, ovA.2.1⟩
      · rw [List.map_append, List.all_append]
        show (_ && (nm vB && true)) = false
        rw [ovA.2.2.1]
        simp
    · refine fin (fun z => by cases z) (txtF (zs := u.hues ++ [u.called, u.called]) (by rw [List.map_append]; exact eCA) (fun z hz => ?_) (by rw [List.length_append]; show u.hues.length + 2 ≤ 100; omega) fun h => ?_)
      · rcases List.mem_append.mp hz with hz | hz
        · exact g.hues z hz
        · simp only [List.mem_cons, List.not_mem_nil, or_false, or_self] at hz
          rw [hz]
          exact g.name
      · have := (List.nodup_append.mp h).2.1
        simp at this
  · simp only [List.mem_cons, List.not_mem_nil, or_false] at hv
    rcases hv with rfl | rfl | rfl
    · refine fin (fun z => by cases z) (txtF (zs := u.hues.take 2 ++ (["x", "y", "x"] : List Str)) (by rw [List.map_append]; exact eDA) (fun z hz => ?_) (by rw [List.length_append, List.length_take]; show min 2 u.hues.length + 3 ≤ 100; omega) fun h => ?_)
      · rcases List.mem_append.mp hz with hz | hz
        · exact g.hues z (List.mem_of_mem_take hz)
        · simp only [List.mem_cons, List.not_mem_nil, or_false] at hz
          rcases hz with rfl | rfl | rfl <;> decide +kernel
      · have := (List.nodup_append.mp h).2.1
        simp at this
    · exact fin (fun z => by cases z) (.no (.base (.dK eDD)) (kit_ty (r := false) (by decide +kernel)))
    · refine fin (fun z => by cases z) (.odd eFA (fun x hx => ?_) (by show 1 ≤ 100; decide) rfl)
      rw [List.mem_singleton.mp hx]
      exact ⟨.tup (.base (.tup eEA)), fun z e => by cases e⟩
end
end KB
namespace KB
open PySem PySem.Spec PyProof.Rows L2 KA
section
variable {P : Program} {w : World} {K : PySem.W.Frag} {mg : Str → Option Value} {base : Heap}
theorem NoLot.same {K : PySem.W.Frag} {H H' : Hp} {a b c d e : V} (s : Same H H') (h : NoLot K H a b c d e) : NoLot K H' a b c d e := by
  cases h with
  | name ta sa h => exact .name (ta.same s) sa h
  | room na tb h => exact .room na (tb.same s) h
  | least na wb tc h => exact .least na wb (tc.same s) h
  | most na wb wc td h => exact .most na wb wc (td.same s) h
  | less na wb wc wd h => exact .less na wb wc wd h
  | shades na wb wc wd le ne h => exact .shades na wb wc wd le ne (h.same s)
def spRefused (K : PySem.W.Frag) : Sp := fun vs H Q _ => ∃ (l : Addr) (x1 x2 x3 x4 x5 : V), vs = [.ref l] ∧ H l = some (.lst [x1, x2, x3, x4, x5]) ∧ NoLot K H x1 x2 x3 x4 x5 ∧ ∀ H', Same H H' → Q (.bl true) H'
theorem ok_is_refused (T : Tx K mg) : FnOk P w K mg base CX0 8 T.A_is_refused T.fd_is_refused ["_law_parts_here"] (spRefused K) := by
  refine T.F_is_refused.ok sc_is_refused (fun vs H Q E h => ?_) (fun cdv A outer s H vs Q E hr h => ?_)
  · obtain ⟨l, x1, x2, x3, x4, x5, rfl, hl, hno, q⟩ := h
    rfl
  obtain ⟨l, x1, x2, x3, x4, x5, rfl, hl, hno, q⟩ := h
  refine ⟨_, (pss_cons (ps_asg (pv 0) (pg_unl rfl (pgs_cons (pg_name (i := 1) sc_is_refused.nd rfl (Or.inl rfl)) (pgs_cons (pg_name (i := 2) sc_is_refused.nd rfl (Or.inl rfl)) (pgs_cons (pg_name (i := 3) sc_is_refused.nd rfl (Or.inl rfl)) (pgs_cons (pg_name (i := 4) sc_is_refused.nd rfl (Or.inl rfl)) (pgs_cons (pg_name (i := 5) sc_is_refused.nd rfl (Or.inl rfl)) pgs_nil))))) (by rfl)))
      (pss_cons (ps_set (i := 6) sc_is_refused.nd rfl (Or.inl rfl) (pe_lst pa_nil))
      (pss_cons (ps_try_as (i := 7) rfl rfl sc_is_refused.nd rfl rfl ⟨rfl, by decide, .inl T.g_PearlError⟩ L2.takes0 (fun W pn xe tk _ => (pss_one (ps_expr (pe_makeT T.mk_Lot (ok_Lot_init T) (hr.mono (by decide)) (by rfl) T.g_Lot T.b_Lot_init .nil (fun σ => passAt tk σ) (pa_cons (pv 1) (pa_cons (pv 2) (pa_cons (pv 3) (pa_cons (pv 4) (pa_cons (pv 5) pa_nil)))))))))
        (fun a oe cls d pn hz hf => (pss_cons (ps_set (i := 8) sc_is_refused.nd rfl (Or.inl rfl) (pe_callB (call_isDT hz hf) (by rfl) T.z_isinstance (by decide +kernel) (pa_cons (pv 7) (pa_cons (pe_tup (pa_cons (pe_glob (v := .ref T.C_BadBead) (by rfl) T.g_BadBead rfl) (pa_cons (pe_glob (v := .ref T.C_BadDeed) (by rfl) T.g_BadDeed rfl) (pa_cons (pe_glob (v := .ref T.C_BadRule) (by rfl) T.g_BadRule rfl) (pa_cons (pe_glob (v := .ref T.C_BadText) (by rfl) T.g_BadText rfl) (pa_cons (pe_glob (v := .ref T.C_NoRow) (by rfl) T.g_NoRow rfl) (pa_cons (pe_glob (v := .ref T.C_NotLet) (by rfl) T.g_NotLet rfl) (pa_cons (pe_glob (v := .ref T.C_TooLate) (by rfl) T.g_TooLate rfl) pa_nil)))))))) pa_nil))))
      (pss_one (ps_set (i := 6) sc_is_refused.nd rfl (Or.inl rfl) (pe_lst (pa_cons (pe_callB (call_isD hz hf) (by rfl) T.z_isinstance (by decide +kernel) (pa_cons (pv 7) (pa_cons (pe_glob (v := .ref T.C_BadLot) (by rfl) T.g_BadLot rfl) pa_nil))) (pa_cons (pe_callB (call_isD hz hf) (by rfl) T.z_isinstance (by decide +kernel) (pa_cons (pv 7) (pa_cons (pe_bltn (v := .ty "ValueError") (by rfl) T.z_ValueError (by decide +kernel) rfl) pa_nil))) (pa_cons (pv 8) pa_nil)))))))))
      (pss_one (ps_ret (pe_cmpR (op_eqD hr.units) (pv 6) (pe_lst (pa_cons pe_bl (pa_cons pe_bl (pa_cons pe_bl pa_nil)))) (nomark _))))))), ?_⟩
  refine ⟨_, rfl, l, _, rfl, SqL.of hl, rfl, _, _, rfl, _, _, rfl, _, _, rfl, _, _, rfl, _, _, rfl, rfl, ?_⟩
  refine ⟨Nat.zero_le _, fun l0 hl0 => ?_⟩
  have x0 := same_upd hl0 (o := .lst [])
  refine ⟨_, rfl, _, rfl, _, rfl, _, rfl, _, rfl, fun x dx nx ndx ne => ?_⟩
  have z0 : Same (upd H l0 (.lst [])) (upd (upd (upd H l0 (.lst [])) dx (.own x)) x (.ins T.C_Lot dx [])) := fun b o e => by
    rw [upd_ne (ne_of_none e nx), upd_ne (ne_of_none e ndx)]
    exact e
  refine ⟨x, dx, _, _, _, _, _, rfl, upd_same, .inr ⟨hno.same (x0.trans z0), fun H1 dd z s1 hd => ?_⟩⟩
  have s01 := (x0.trans z0).trans s1
  refine ⟨true, T.em_BadLot_PearlError, fun _ y hy => ?_, fun z => by cases z⟩
  refine ⟨_, rfl, (by show 7 ≤ sizeLine; decide), fun tp htp => ?_⟩
  have s2 := same_upd htp (o := .tup [.ref T.C_BadBead, .ref T.C_BadDeed, .ref T.C_BadRule, .ref T.C_BadText, .ref T.C_NoRow, .ref T.C_NotLet, .ref T.C_TooLate])
  have hd2 := s2 _ _ hd
  refine ⟨T.C_BadLot, dd, tp, _, _, [.ref T.C_BadBead, .ref T.C_BadDeed, .ref T.C_BadRule, .ref T.C_BadText, .ref T.C_NoRow, .ref T.C_NotLet, .ref T.C_TooLate], false, rfl, rfl, rfl, hd2, T.xc_BadLot, upd_same, .cons (.own _) (.cons (.own _) (.cons (.own _) (.cons (.own _) (.cons (.own _) (.cons (.own _) (.cons (.own _) .nil)))))), T.ki_no, ?_⟩
  refine ⟨_, rfl, T.C_BadLot, dd, _, _, _, true, rfl, rfl, rfl, hd2, T.xc_BadLot, .own _, T.ki_me, _, rfl, T.C_BadLot, dd, _, _, _, true, rfl, rfl, rfl, hd2, T.xc_BadLot, .ty _, T.ki_ve, _, rfl, (by show 3 ≤ sizeLine; decide), fun l3 hl3 => ?_⟩
  have s3 := same_upd hl3 (o := .lst [.bl true, .bl true, .bl false])
  refine ⟨_, rfl, (by show 3 ≤ sizeLine; decide), fun l4 hl4 => ?_⟩
  have s4 := same_upd hl4 (o := .lst [.bl true, .bl true, .bl false])
  refine ⟨.list [.bool true, .bool true, .bool false], .list [.bool true, .bool true, .bool false], .lst (SqL.of (s4 _ _ upd_same)) (.cons (.bl _) (.cons (.bl _) (.cons (.bl _) .nil))), .lst (SqL.of upd_same) (.cons (.bl _) (.cons (.bl _) (.cons (.bl _) .nil))), rfl, rfl, ?_⟩
  exact q _ (s01.trans (s2.trans (s3.trans s4)))
theorem cut7_tl (z : Str) : TL.tl (cutS z none (some 7)) = (TL.tl z).take (min 7 z.length) := by
  show ((z.cps.toList.drop (HT.sIx z.length 0 none)).take (HT.sIx z.length z.length (some ((7 : Nat) : Int)) - HT.sIx z.length 0 none)).toArray.toList = _
  rw [HT.sIx_nat]
  rfl
theorem cut7_len (z : Str) : (cutS z none (some 7)).length = min 7 z.length := by
  rw [TL.len_tl, cut7_tl, List.length_take, ← TL.len_tl]
  omega
theorem fits_in : ∀ {ws zs : List Str}, ws.Nodup → (∀ w ∈ ws, w ∈ zs) → ws.length ≤ zs.length
  | [], _, _, _ => Nat.zero_le _
  | w :: ws, zs, h, hs => by
    obtain ⟨h1, h2⟩ := List.nodup_cons.mp h
    have hw := hs w (List.mem_cons_self ..)
    have := fits_in (ws := ws) (zs := zs.erase w) h2 fun x hx => (List.mem_erase_of_ne fun e => h1 (by rw [← e]; exact hx)).mpr (hs x (List.mem_cons_of_mem _ hx))
    rw [List.length_erase_of_mem hw] at this
    have := List.length_pos_of_mem hw
    rw [List.length_cons]
    omega
theorem one_new {zs : List Str} (h : zs.length ≤ 4) : ∃ wd rest, (([.str "zz", .str "zzz", .str "zzzz", .str "y", .str "x"] : List V).filter fun x => !inV x (zs.map V.str)) = .str wd :: rest ∧ wd ∉ zs ∧ nm (.str wd) = true := by
  cases e : (([.str "zz", .str "zzz", .str "zzzz", .str "y", .str "x"] : List V).filter fun x => !inV x (zs.map V.str)) with
  | nil =>
    have all : ∀ w ∈ (["zz", "zzz", "zzzz", "y", "x"] : List Str), w ∈ zs := fun w hw => by
      have := List.filter_eq_nil_iff.mp e (.str w) (by
        have : V.str w ∈ (["zz", "zzz", "zzzz", "y", "x"] : List Str).map V.str := List.mem_map.mpr ⟨w, hw, rfl⟩
        exact this)
      rw [inV_strs] at this
      simpa using this
    have := fits_in (ws := ["zz", "zzz", "zzzz", "y", "x"]) (by decide +kernel) all
    have : 5 ≤ zs.length := this
    omega
  | cons v rest =>
    have m : v ∈ (([.str "zz", .str "zzz", .str "zzzz", .str "y", .str "x"] : List V).filter fun x => !inV x (zs.map V.str)) := by
      rw [e]
      exact List.mem_cons_self ..
    obtain ⟨m1, m2⟩ := List.mem_filter.mp m
    have fin : ∀ wd : Str, v = .str wd → nm (.str wd) = true → ∃ wd' rest', v :: rest = .str wd' :: rest' ∧ wd' ∉ zs ∧ nm (.str wd') = true := fun wd hv hn => ⟨wd, rest, by rw [hv], fun hz => by
      rw [hv, inV_strs] at m2
      simp [hz] at m2, hn⟩
    simp only [List.mem_cons, List.not_mem_nil, or_false] at m1
    rcases m1 with h | h | h | h | h
    · exact fin _ h (by decide +kernel)
    · exact fin _ h (by decide +kernel)
    · exact fin _ h (by decide +kernel)
    · exact fin _ h (by decide +kernel)
    · exact fin _ h (by decide +kernel)
theorem cut_drop {zs : List Str} : cutV (zs.map V.str) (some 1) none = (zs.drop 1).map V.str := by
  have e1 : HT.sIx (zs.map V.str).length 0 (some 1) = min 1 zs.length := by
    show HT.sIx (zs.map V.str).length 0 (some ((1 : Nat) : Int)) = _
    rw [HT.sIx_nat, List.length_map]
  unfold cutV
  have e2 : HT.sIx (zs.map V.str).length (zs.map V.str).length none = (zs.map V.str).length := rfl
  rw [e1, e2]
  cases zs with
  | nil => rfl
  | cons z zs =>
    rw [List.length_cons, Nat.min_eq_left (by omega)]
    show ((zs.map V.str)).take (((z :: zs).map V.str).length - 1) = zs.map V.str
    refine List.take_of_length_le ?_
    rw [List.length_map, List.length_map, List.length_cons]
    omega
def spOther : Sp := fun vs H Q _ => ∃ (d a : Addr) (n : Nat) (u : Pt), vs = [.ref d, .ref a] ∧ a ≠ d ∧ PtAt H a u ∧ GoodPt u ∧ u.hues.length ≤ 4 ∧ Dr PM d n H ∧ n ≤ 90000 ∧
  ∀ (H' : Hp) (l : Addr) (v : Pt), l ≠ d → PtAt H' l v → GoodPt v → likeLot u v = false → But d H H' → Dr PM d (n + 1) H' → Q (.ref l) H'
theorem ok_other_parts (T : Tx K mg) : FnOk P w K mg base CX0 2 T.A_other_parts T.fd_other_parts ["_law_source", "_law_parts_here"] (spOther) := by
  refine T.F_other_parts.ok sc_other_parts (fun vs H Q E h => ?_) (fun cdv A outer s H vs Q E hr h => ?_)
  · obtain ⟨d, a, n, u, rfl, nad, ⟨t, ha, ht⟩, g, few4, dr, hn, q⟩ := h
    rfl
  obtain ⟨d, a, n, u, rfl, nad, ⟨t, ha, ht⟩, g, few4, dr, hn, q⟩ := h
  refine ⟨_, (pss_cons (ps_asg (pv 1) (pg_unl rfl (pgs_cons (pg_name (i := 2) sc_other_parts.nd rfl (Or.inl rfl)) (pgs_cons (pg_name (i := 3) sc_other_parts.nd rfl (Or.inl rfl)) (pgs_cons (pg_name (i := 4) sc_other_parts.nd rfl (Or.inl rfl)) (pgs_cons (pg_name (i := 5) sc_other_parts.nd rfl (Or.inl rfl)) (pgs_cons (pg_name (i := 6) sc_other_parts.nd rfl (Or.inr rfl)) pgs_nil))))) (by rfl)))
      (pss_cons (ps_set (i := 7) sc_other_parts.nd rfl (Or.inl rfl) (pe_call (ok_draw T) (hr.mono (by decide)) (by rfl) T.g_draw T.F_draw.kp T.b_draw .nil pass0 (pa_cons (pv 0) (pa_cons pe_int pa_nil))))
      (pss_cons (ps_if (pt_cmpR op_eq (pv 7) pe_int (nomark _)) (pss_one (ps_ret (pe_lst (pa_cons (pe_op op_add_str (pe_slice sl_str (pv 2) po_none (po_some pe_int)) (pe_ix ix_str pe_str (pe_callTy call_int1 (by rfl) T.z_int (by decide +kernel) (pa_cons (pe_cmpR op_eq (pe_op op_add_str (pe_slice sl_str (pv 2) po_none (po_some pe_int)) pe_str) (pv 2) (nomark _)) pa_nil)) (fun _ _ => rfl))) (pa_cons (pv 3) (pa_cons (pv 4) (pa_cons (pv 5) (pa_cons (pv 6) pa_nil)))))))) pss_nil)
      (pss_cons (ps_if (pt_cmpR op_eq (pv 7) pe_int (nomark _)) (pss_one (ps_ret (pe_lst (pa_cons (pv 2) (pa_cons (pe_op op_mod (pe_op op_add (pv 3) pe_int) pe_int) (pa_cons (pv 4) (pa_cons (pv 5) (pa_cons (pv 6) pa_nil)))))))) pss_nil)
      (pss_cutJ (ps_if (PW.pt (pw_and (pt_cmpR op_eq (pv 7) pe_int (nomark _)) (pw_and1 (pt_cmpR op_lt (pv 4) (pv 5) (nomark _))))) (pss_one (ps_ret (pe_lst (pa_cons (pv 2) (pa_cons (pv 3) (pa_cons (pe_op op_add (pv 4) pe_int) (pa_cons (pv 5) (pa_cons (pv 6) pa_nil)))))))) pss_nil)
      (pss_cutJ (ps_if (PW.pt (pw_and (pt_cmpR op_eq (pv 7) pe_int (nomark _)) (pw_and1 (pt_cmpR op_lt (pv 4) (pv 5) (nomark _))))) (pss_one (ps_ret (pe_lst (pa_cons (pv 2) (pa_cons (pv 3) (pa_cons (pv 4) (pa_cons (pe_op op_sub (pv 5) pe_int) (pa_cons (pv 6) pa_nil)))))))) pss_nil)
      (pss_cons (ps_set (i := 8) sc_other_parts.nd rfl (Or.inl rfl) (pe_ix ix_list (pe_lc (own := [("_law_one_here", 9)]) (g := gName 9) (tt := _) rfl sc_other_parts.nd (pi_list (pe_lst (pa_cons pe_str (pa_cons pe_str (pa_cons pe_str (pa_cons pe_str (pa_cons pe_str pa_nil))))))) (blkOk_by (N := ["_law_source", "_law_parts_here", "_law_called", "_law_space", "_law_bottom", "_law_top", "_law_hues", "_law_way", "_law_other", "_law_one_here"]) (sc := defScope s_other_parts) (by decide +kernel)) (fun _ _ _ _ _ => (pg_name (i := 9) sc_other_parts.nd rfl (Or.inl rfl))) (fun _ _ _ _ _ => (pts_one (pt_cmpR (op_notIn_seqK (K' := K) rfl) (pv 9) (pv 6) (by rfl)))) (fun _ _ _ _ _ => (pv 9))) pe_int (fun _ _ => rfl)))
      (pss_one (ps_ret (pe_lst (pa_cons (pv 2) (pa_cons (pv 3) (pa_cons (pv 4) (pa_cons (pv 5) (pa_cons (pe_ix ix_list (pe_lst (pa_cons (pe_op op_catA (pv 6) (pe_tup (pa_cons (pv 8) pa_nil))) (pa_cons (pe_slice sl_tupA (pv 6) (po_some pe_int) po_none) pa_nil))) (pe_callTy call_int1 (by rfl) T.z_int (by decide +kernel) (pa_cons (pe_and (pe_cmpR op_gt (pe_callB call_len_seq (by rfl) T.z_len PySem.boot_len (pa_cons (pv 6) pa_nil)) pe_int (nomark _)) (pe_one (pe_cmpR op_eq (pv 7) pe_int (nomark _)))) pa_nil)) (fun _ _ => rfl)) pa_nil))))))))))))))), ?_⟩
  have s0 := g.s0
  have s1 := g.s1
  have l0 := g.l0
  have lh := g.lh
  have h1 := g.h1
  have nc := nm_is g.name
  have ntd : t ≠ d := by
    obtain ⟨_, _, _, e, _⟩ := dr
    exact fun z => by rw [z, e] at ht; cases ht
  refine ⟨_, rfl, a, _, rfl, SqL.of ha, rfl, _, _, rfl, _, _, rfl, _, _, rfl, _, _, rfl, _, _, rfl, rfl, ?_⟩
  refine ⟨_, rfl, d, 5, n, rfl, by decide, log_tiny (by decide) (by decide), dr, by omega, fun H1 r a1 c1 b1 dr1 => ?_⟩
  have ht1 := b1 _ _ ntd ht
  have fin : ∀ {H2 : Hp} {l : Addr} {v : Pt} {t2 : Addr}, Same H1 H2 → H2 l = none → H2 t2 = some (.tup (v.hues.map V.str)) → GoodPt v → likeLot u v = false → Q (.ref l) (upd H2 l (.lst (ptV v t2))) := fun {H2 l v t2} s hl e gv lk => by
    have x := same_upd hl (o := .lst (ptV v t2))
    exact q _ l v ((dr1.same s).ne hl) ⟨t2, upd_same, x _ _ e⟩ gv lk (b1.trans (But.of (s.trans x))) (dr1.same (s.trans x))
  refine ⟨_, rfl, rfl, _, rfl, ite2 (fun e => ?_) (fun f0 => ?_)⟩
  · have lz : u.called.length ≤ sizeLine := Nat.le_trans nc.2.1 (by decide)
    have lc := cut7_len u.called
    have lc7 : (cutS u.called none (some 7)).length ≤ 7 := by omega
    have la : ("a" : Str).length = 1 := by decide +kernel
    obtain ⟨b, hb⟩ : ∃ b, b = decide (V.str (cutS u.called none (some 7) ++ "a") = V.str u.called) := ⟨_, rfl⟩
    have hc : atI ("ab" : Str).cps.toList (if b = true then 1 else 0) = some (if b = true then 98 else 97) := by
      cases b <;> decide +kernel
    rw [hb] at hc
    have one : (⟨#[if decide (V.str (cutS u.called none (some 7) ++ "a") = V.str u.called) = true then 98 else 97]⟩ : Str).length = 1 := rfl
    refine ⟨_, rfl, 7, rfl, _, rfl, lz, _, rfl, 7, rfl, _, rfl, lz, _, _, rfl, rfl, Nat.le_trans (Nat.add_le_add lc7 (Nat.le_of_eq la)) (by decide), _, rfl, rfl, .inr ⟨_, rfl, _, _, _, rfl, rfl, (by decide +kernel), hc, _, _, rfl, rfl, Nat.le_trans (Nat.add_le_add lc7 (Nat.le_of_eq one)) (by decide), _, rfl, _, rfl, _, rfl, _, rfl, (by show 5 ≤ sizeLine; decide), fun l hl => ?_⟩⟩
    rw [← hb] at one ⊢
    have low : lower (if b = true then 98 else 97) = true := by cases b <;> decide +kernel
    have nmw : nm (.str (cutS u.called none (some 7) ++ (⟨#[if b = true then 98 else 97]⟩ : Str))) = true := nm_of (by rw [Str.length_append, one]; omega) (by rw [Str.length_append, one]; omega) fun c hc => by
      rw [TL.tl_append] at hc
      rcases List.mem_append.mp hc with h | h
      · rw [cut7_tl] at h
        exact nc.2.2 c (List.mem_of_mem_take h)
      · rw [tl_one, List.mem_singleton] at h
        rw [h]
        exact low
    refine fin (v := ⟨cutS u.called none (some 7) ++ (⟨#[if b = true then 98 else 97]⟩ : Str), u.space, u.lo, u.hi, u.hues⟩) (Same.refl _) hl ht1 ⟨nmw, s0, s1, l0, lh, h1, g.hues, g.un, g.few⟩ ?_
    have ne : decide (u.called = cutS u.called none (some 7) ++ (⟨#[if b = true then 98 else 97]⟩ : Str)) = false := decide_eq_false fun z => by
      cases b with
      | true =>
        have hb := of_decide_eq_true hb.symm
        injection hb with hb
        have := congrArg TL.tl (hb.trans z)
        rw [TL.tl_append, TL.tl_append] at this
        have := List.append_cancel_left this
        exact absurd this (by decide +kernel)
      | false =>
        have hb := of_decide_eq_false hb.symm
        exact hb (congrArg V.str z.symm)
    unfold likeLot
    rw [ne]
    rfl
  refine ⟨_, rfl, rfl, _, rfl, ite2 (fun e => ?_) (fun f0 => ?_)⟩
  · refine ⟨_, rfl, _, rfl, _, _, rfl, rfl, _, _, rfl, rfl, (by show (0 : Int) < 21; decide), _, rfl, _, rfl, _, rfl, (by show 5 ≤ sizeLine; decide), fun l hl => ?_⟩
    have m0 := Int.emod_nonneg (u.space + 1) (show (21 : Int) ≠ 0 by decide)
    have m1 := Int.emod_lt_of_pos (u.space + 1) (show (0 : Int) < 21 by decide)
    refine fin (v := ⟨u.called, (u.space + 1) % 21, u.lo, u.hi, u.hues⟩) (Same.refl _) hl ht1 ⟨g.name, m0, by show (u.space + 1) % 21 ≤ 20; omega, l0, lh, h1, g.hues, g.un, g.few⟩ ?_
    unfold likeLot
    rw [show decide (u.space = (u.space + 1) % 21) = false from decide_eq_false (by omega)]
    simp
  refine ⟨fun σ' H' => σ' = [some (.ref d), some (.ref a), some (.str u.called), some (.int u.space), some (.int u.lo), some (.int u.hi), some (.ref t), some (.int r), none, none] ∧ Same H1 H', ?_, ?_⟩
  · refine ⟨_, rfl, rfl, _, rfl, ite2 (fun e => ?_) (fun f0 => iteF ⟨rfl, Same.refl _⟩)⟩
    refine ⟨_, rfl, _, rfl, _, _, rfl, rfl, _, rfl, ite2 (fun e => ?_) (fun f0 => ⟨rfl, Same.refl _⟩)⟩
    have e := of_decide_eq_true e
    refine ⟨_, rfl, _, rfl, _, rfl, _, _, rfl, rfl, _, rfl, _, rfl, (by show 5 ≤ sizeLine; decide), fun l hl => ?_⟩
    refine fin (v := ⟨u.called, u.space, u.lo + 1, u.hi, u.hues⟩) (Same.refl _) hl ht1 ⟨g.name, s0, s1, by show 1 ≤ u.lo + 1; omega, by show u.lo + 1 ≤ u.hi; omega, h1, g.hues, g.un, g.few⟩ ?_
    unfold likeLot
    rw [show decide (u.lo = u.lo + 1) = false from decide_eq_false (by omega)]
    simp
  rintro σ' H2 ⟨rfl, z2⟩
  refine ⟨fun σ' H' => σ' = [some (.ref d), some (.ref a), some (.str u.called), some (.int u.space), some (.int u.lo), some (.int u.hi), some (.ref t), some (.int r), none, none] ∧ Same H1 H', ?_, ?_⟩
  · refine ⟨_, rfl, rfl, _, rfl, ite2 (fun e => ?_) (fun f0 => iteF ⟨rfl, z2⟩)⟩
    refine ⟨_, rfl, _, rfl, _, _, rfl, rfl, _, rfl, ite2 (fun e => ?_) (fun f0 => ⟨rfl, z2⟩)⟩
    have e := of_decide_eq_true e
    refine ⟨_, rfl, _, rfl, _, rfl, _, rfl, _, _, rfl, rfl, _, rfl, (by show 5 ≤ sizeLine; decide), fun l hl => ?_⟩
    refine fin (v := ⟨u.called, u.space, u.lo, u.hi - 1, u.hues⟩) z2 hl (z2 _ _ ht1) ⟨g.name, s0, s1, l0, by show u.lo ≤ u.hi - 1; omega, by show u.hi - 1 ≤ 1000000; omega, g.hues, g.un, g.few⟩ ?_
    unfold likeLot
    rw [show decide (u.hi = u.hi - 1) = false from decide_eq_false (by omega)]
    simp
  rintro σ' H3 ⟨rfl, z3⟩
  have ht3 := z3 _ _ ht1
  refine ⟨(by show 5 ≤ sizeLine; decide), fun l5 hl5 => ⟨l5, rfl, ⟨_, SqL.of upd_same⟩, fun D hD => lc_some (K := K) hD (SqL.of upd_same) (by decide) (fun x => !inV x (u.hues.map V.str)) id ?_ ?_⟩⟩
  · intro i x H4 R C hx s4 r1 r2
    have hf : flatV x = true := by
      have := List.mem_of_getElem? hx
      simp only [List.mem_cons, List.not_mem_nil, or_false] at this
      rcases this with rfl | rfl | rfl | rfl | rfl <;> rfl
    refine ⟨rfl, _, rfl, _, rfl, t, _, rfl, .inr (.inl (.inl (s4 _ _ (same_upd hl5 _ _ ht3)))), hf, flat_strs _, _, rfl, ?_⟩
    show if (!inV x (u.hues.map V.str)) = true then _ else _
    cases hb : (!inV x (u.hues.map V.str)) with
    | true => exact iteT ⟨_, rfl, r1 hb⟩
    | false => exact iteF (r2 hb)
  intro H4 s4 e4
  have x5 := same_upd hl5 (o := .lst [.str "zz", .str "zzz", .str "zzzz", .str "y", .str "x"])
  have z4 := z3.trans (x5.trans s4)
  rw [List.map_id] at e4
  obtain ⟨wd, rest, hw, wno, nmw⟩ := one_new few4
  rw [hw] at e4
  refine ⟨D, _, _, _, rfl, rfl, SqL.of e4, atI_nat (j := 0) rfl, ?_⟩
  have ht4 := z4 _ _ ht1
  refine ⟨_, rfl, _, rfl, _, rfl, _, rfl, _, rfl, _, rfl, (by show 1 ≤ sizeLine; decide), fun tA htA => ?_⟩
  have xA := same_upd htA (o := .tup [.str wd])
  refine cata_of (xA _ _ ht4) upd_same (by rw [List.length_map, sizeLine_eq]; show u.hues.length + 1 ≤ _; omega) fun HA cA xcA eA => ?_
  have z5 := z4.trans (xA.trans xcA)
  refine ⟨_, rfl, 1, rfl, nopart (sla_of (z5 _ _ ht1) fun HB cB xB eB => ⟨(by show 2 ≤ sizeLine; decide), fun lL hlL => ?_⟩)⟩
  have xLL := same_upd hlL (o := .lst [.ref cA, .ref cB])
  have xL : Same H3 _ := ((x5.trans s4).trans ((xA.trans xcA).trans xB)).trans xLL
  refine ⟨_, rfl, t, _, rfl, .inr (.inl (.inl ((z3.trans xL) _ _ ht1))), _, _, rfl, rfl, _, rfl, ite2 (fun h5 => ?_) (fun h5 => ?_)⟩
  · refine ⟨_, rfl, rfl, .inr ⟨_, rfl, ?_⟩⟩
    by_cases h6 : decide (V.int r = V.int 4) = true
    · rw [h6]
      have h5 := of_decide_eq_true h5
      rw [List.length_map] at h5
      refine ⟨lL, _, _, _, rfl, rfl, SqL.of upd_same, atI_nat (j := 1) rfl, (by show 5 ≤ sizeLine; decide), fun l hl => ?_⟩
      refine fin (v := ⟨u.called, u.space, u.lo, u.hi, u.hues.drop 1⟩) (z3.trans xL) hl (by rw [cut_drop] at eB; exact xLL _ _ eB) ⟨g.name, s0, s1, l0, lh, h1, fun z hz => g.hues z (List.mem_of_mem_drop hz), List.Sublist.nodup (List.drop_sublist 1 _) g.un, by rw [List.length_drop]; show u.hues.length - 1 ≤ 8; omega⟩ ?_
      unfold likeLot
      rw [show decide (u.hues.Perm (u.hues.drop 1)) = false from decide_eq_false fun p => by
        have := p.length_eq
        rw [List.length_drop] at this
        omega]
      simp
    · rw [Bool.not_eq_true] at h6
      rw [h6]
      refine ⟨lL, _, _, _, rfl, rfl, SqL.of upd_same, atI_nat (j := 0) rfl, (by show 5 ≤ sizeLine; decide), fun l hl => ?_⟩
      refine fin (v := ⟨u.called, u.space, u.lo, u.hi, u.hues ++ [wd]⟩) (z3.trans xL) hl (by show _ = some (HO.tup ((u.hues ++ [wd]).map V.str)); rw [List.map_append]; exact (xB.trans xLL) _ _ eA) ⟨g.name, s0, s1, l0, lh, h1, fun z hz => ?_, ?_, by rw [List.length_append]; show u.hues.length + 1 ≤ 8; omega⟩ ?_
      · rcases List.mem_append.mp hz with hz | hz
        · exact g.hues z hz
        · rw [List.mem_singleton.mp hz]
          exact nmw
      · refine List.nodup_append.mpr ⟨g.un, by simp, fun x hx y hy e => ?_⟩
        rw [e, List.mem_singleton.mp hy] at hx
        exact wno hx
      · unfold likeLot
        rw [show decide (u.hues.Perm (u.hues ++ [wd])) = false from decide_eq_false fun p => by
          have := p.length_eq
          rw [List.length_append, List.length_singleton] at this
          omega]
        simp
  · refine .inr ⟨_, rfl, ?_⟩
    refine ⟨lL, _, _, _, rfl, rfl, SqL.of upd_same, atI_nat (j := 0) rfl, (by show 5 ≤ sizeLine; decide), fun l hl => ?_⟩
    refine fin (v := ⟨u.called, u.space, u.lo, u.hi, u.hues ++ [wd]⟩) (z3.trans xL) hl (by show _ = some (HO.tup ((u.hues ++ [wd]).map V.str)); rw [List.map_append]; exact (xB.trans xLL) _ _ eA) ⟨g.name, s0, s1, l0, lh, h1, fun z hz => ?_, ?_, by rw [List.length_append]; show u.hues.length + 1 ≤ 8; omega⟩ ?_
    · rcases List.mem_append.mp hz with hz | hz
      · exact g.hues z hz
      · rw [List.mem_singleton.mp hz]
        exact nmw
    · refine List.nodup_append.mpr ⟨g.un, by simp, fun x hx y hy e => ?_⟩
      rw [e, List.mem_singleton.mp hy] at hx
      exact wno hx
    · unfold likeLot
      rw [show decide (u.hues.Perm (u.hues ++ [wd])) = false from decide_eq_false fun p => by
        have := p.length_eq
        rw [List.length_append, List.length_singleton] at this
        omega]
      simp
end
end KB
namespace KA
open PySem PySem.Spec PyProof.Rows L2
/-- an instance beside anything, == without a look at who they are -/
theorem rcB_own1 {X : Cx} {n : Nat} {CX : CXT} {C f : Addr} {fd : FuncData} {ps : List Str} {R : Addr → V → Bool → Hp → Prop} {E : XK} (F : FnOk X.prog X.w X.K X.mg X.base CX n f fd ps (spEqO R)) (hs : PySem.W.findIn X.K (.ref C) "__eq__" = some (some (.ref f))) (hf : PySem.W.isFn X.K (.ref f) = true) (hb : Binds X.K fd ps []) (hx : Passes CX X E) :
    RcB X n false (BOwn1 X.K C R) := by
  intro A pins s σ H x y u v b sb I rx ry d
  obtain ⟨a, dx, fs, t, rfl, ha, ty, nf, hR⟩ := d
  cases rx
  obtain ⟨mA, J, _⟩ := ins_get I.hok ha
  obtain ⟨od, J, _⟩ := J.look
  obtain ⟨Pz, Z, p, _⟩ := kit_of I ry ty
  obtain ⟨m, hF⟩ := I.fr
  have fin : (false ^^ b) = b := Bool.false_xor b
  rw [fin]
  exact PySem.W.cmp_K (op := .Eq) (tb := t) sb.room.units0 hF I.ok.mod.kin J (Z.ty _ _ I.kIn p) nf hs hf (run_eqO F hb hx sb I ry hR)
end KA
namespace KB
open PySem PySem.Spec PyProof.Rows L2 KA
section
variable {P : Program} {w : World} {K : PySem.W.Frag} {mg : Str → Option Value} {base : Heap}
theorem rlot_mon {K : PySem.W.Frag} {CB C : Addr} : ∀ a y b H H', Ext H H' → RLot K CB C a y b H → RLot K CB C a y b H' := fun a y b H H' e ⟨u, h1, h2, h⟩ => by
  refine ⟨u, h1.same e, h2, ?_⟩
  rcases h with ⟨p, v, h3, h4, h5, h6⟩ | ⟨t, h3, h4, h5⟩ | ⟨p, r, h3, ⟨dx, h4⟩, h5⟩
  · exact .inl ⟨p, v, h3, h4.same e, h5, h6⟩
  · exact .inr (.inl ⟨t, h3, tyx_same e h4, h5⟩)
  · exact .inr (.inr ⟨p, r, h3, ⟨dx, e _ _ h4⟩, h5⟩)
def DLot (K : PySem.W.Frag) (CB C : Addr) : BEq2 := fun x y b H => BOwn K C (RLot K CB C) x y b H ∨ BFlip K C (RLot K CB C) x y b H
theorem monB_lot {K : PySem.W.Frag} {CB C : Addr} : MonB (DLot K CB C) := (monB_own rlot_mon).or (monB_flip rlot_mon)
theorem eqB_lot {X : Cx} (T : Tx X.K X.mg) : EqB X 1 (DLot X.K T.C_Bead T.C_Lot) :=
  (eqB_own (E := E0) (ok_Lot_eq (P := X.prog) (w := X.w) (base := X.base) T) T.m_Lot_eq.at_ T.m_Lot_eq.fn T.b_Lot_eq pass0 T.sn_NoneType).or
  (eqB_flip (E := E0) (ok_Lot_eq (P := X.prog) (w := X.w) (base := X.base) T) T.m_Lot_eq.at_ T.m_Lot_eq.fn T.b_Lot_eq pass0 fun t ht => by
    simp only [List.mem_cons, List.not_mem_nil, or_false] at ht
    rcases ht with rfl | rfl | rfl | rfl | rfl | rfl
    · exact T.sn_int
    · exact T.sn_str
    · exact T.sn_bool
    · exact T.sn_NoneType
    · exact T.sn_list
    · exact T.sn_tuple)
theorem rcB_lot {X : Cx} (T : Tx X.K X.mg) : RcB X 1 false (BOwn1 X.K T.C_Lot (RLot X.K T.C_Bead T.C_Lot)) :=
  rcB_own1 (E := E0) (ok_Lot_eq (P := X.prog) (w := X.w) (base := X.base) T) T.m_Lot_eq.at_ T.m_Lot_eq.fn T.b_Lot_eq pass0
theorem rcB_lot_ne {X : Cx} (T : Tx X.K X.mg) : RcB X 2 true (BOwn1 X.K T.C_Lot (RLot X.K T.C_Bead T.C_Lot)) :=
  rcB_ownNe (E := E0) (ok_Lot_eq (P := X.prog) (w := X.w) (base := X.base) T) T.m_Lot_eq.at_ T.m_Lot_eq.fn T.b_Lot_eq pass0 T.hm_Lot T.hne_Lot
theorem lot_lot {K : PySem.W.Frag} {mg : Str → Option Value} (T : Tx K mg) {H : Hp} {p q : Addr} {u v : Pt} (h1 : LotAt T.C_Lot H p u) (g1 : GoodPt u) (h2 : LotAt T.C_Lot H q v) (g2 : GoodPt v) : BOwn1 K T.C_Lot (RLot K T.C_Bead T.C_Lot) (.ref p) (.ref q) (likeLot u v) H := by
  obtain ⟨dx, t, a1, a2⟩ := id h1
  obtain ⟨dy, t2, b1, b2⟩ := id h2
  exact ⟨p, dx, _, .ref T.C_Lot, rfl, a1, T.ic_Lot.ty T.cl_Lot b1, by simp [PySem.W.notFirst], u, h1, g1, .inl ⟨q, v, rfl, h2, g2, rfl⟩⟩
theorem due_val {K : PySem.W.Frag} {σ : L2.St} {H : Hp} {Q : VK} {u : Pt} {r : Rw} {t : Addr} (h5 : σ[5]? = some (some (.int u.lo))) (h9 : σ[9]? = some (some (.int r.ac))) (h6 : σ[6]? = some (some (.int u.hi))) (h7 : σ[7]? = some (some (.ref t))) (h8 : σ[8]? = some (some (.str r.sh))) (ht : H t = some (.tup (u.hues.map V.str))) (g : GoodPt u) (q : ∀ H', Same H H' → Q (.bl (fitsB u r)) H') :
    tAndV (tChain (rI0 fun i j => V.bl (decide (i ≤ j))) (rI0 fun i j => V.bl (decide (i ≤ j))) (tVar 5) (tVar 9) (tVar 6)) (tOrV (tOp (rEqD K) (tVar 7) (tTup tNil)) (tOp (rIn K false) (tVar 8) (tVar 7))) σ H Q := by
  have e : fitsB u r = (decide (u.lo ≤ r.ac) && decide (r.ac ≤ u.hi) && (u.hues.isEmpty || u.hues.contains r.sh)) := rfl
  refine ⟨_, h5, _, h9, _, _, rfl, rfl, _, rfl, ite2 (fun h1 => ?_) (fun h1 => ?_)⟩
  rotate_left
  · rw [Bool.not_eq_true] at h1
    rw [h1] at e
    have q := q H (Same.refl H)
    rw [e] at q
    exact ⟨_, rfl, iteF q⟩
  rw [h1, Bool.true_and] at e
  refine ⟨_, h6, _, _, rfl, rfl, _, rfl, ite2 (fun h2 => ?_) (fun h2 => ?_)⟩
  rotate_left
  · rw [Bool.not_eq_true] at h2
    rw [h2, Bool.false_and] at e
    have q := q H (Same.refl H)
    rw [e] at q
    exact q
  rw [h2, Bool.true_and] at e
  refine ⟨_, h7, Nat.zero_le _, fun t0 ht0 => ?_⟩
  have z := same_upd ht0 (o := .tup [])
  refine ⟨.tuple (strsD u.hues), .tuple [], .tup (.inl (.inl (z _ _ ht))) (strs_dp _), .tup (.inl (.inl upd_same)) .nil, tupD_sh g.hues, rfl, _, rfl, ?_⟩
  rw [eqv_nilT]
  refine ite2 (fun h3 => ?_) (fun h3 => ?_)
  · rw [h3, Bool.true_or] at e
    have q := q _ z
    rw [e] at q
    exact q
  · rw [Bool.not_eq_true] at h3
    rw [h3, Bool.false_or] at e
    refine ⟨_, h8, _, h7, t, _, rfl, .inr (.inl (.inl (z _ _ ht))), rfl, flat_strs _, ?_⟩
    have q := q _ z
    rw [e, ← inV_strs] at q
    exact q
theorem lf_fits (u : Pt) (t : Addr) : (lf u t).lookup ("fits" : Str) = none := lf_no u t (by decide +kernel) (by decide +kernel) (by decide +kernel) (by decide +kernel) (by decide +kernel)
def spFitsRight (C : Addr) : Sp := fun vs H Q _ => ∃ (d q a : Addr) (n : Nat) (u : Pt), vs = [.ref d, .ref q, .ref a] ∧ a ≠ d ∧ PtAt H a u ∧ GoodPt u ∧ LotAt C H q u ∧ Dr PM d n H ∧ n ≤ 90000 ∧ ∀ H', But d H H' → Dr PM d (n + 30) H' → Q (.bl true) H'
theorem ok_fits_right (T : Tx K mg) : FnOk P w K mg base CX0 10 T.A_fits_right T.fd_fits_right ["_law_source", "_law_lot", "_law_parts_here"] (spFitsRight T.C_Lot) := by
  refine T.F_fits_right.ok sc_fits_right (fun vs H Q E h => ?_) (fun cdv A outer s H vs Q E hr h => ?_)
  · obtain ⟨d, p, a, n, u, rfl, nad, ⟨t, ha, ht⟩, g, hL, dr, hn, q⟩ := h
    rfl
  obtain ⟨d, p, a, n, u, rfl, nad, ⟨t, ha, ht⟩, g, hL, dr, hn, q⟩ := h
  refine ⟨_, (pss_cons (ps_asg (pv 2) (pg_unl rfl (pgs_cons (pg_name (i := 3) sc_fits_right.nd rfl (Or.inl rfl)) (pgs_cons (pg_name (i := 4) sc_fits_right.nd rfl (Or.inl rfl)) (pgs_cons (pg_name (i := 5) sc_fits_right.nd rfl (Or.inl rfl)) (pgs_cons (pg_name (i := 6) sc_fits_right.nd rfl (Or.inl rfl)) (pgs_cons (pg_name (i := 7) sc_fits_right.nd rfl (Or.inl rfl)) pgs_nil))))) (by rfl)))
      (pss_cons (ps_set (i := 8) sc_fits_right.nd rfl (Or.inl rfl) (pe_call (ok_one T) (hr.mono (by decide)) (by rfl) T.g_one T.F_one.kp T.b_one .nil pass0 (pa_cons (pv 0) (pa_cons (pe_op op_cat (pe_callTy call_list_of (by rfl) T.z_list (by decide +kernel) (pa_cons (pv 7) pa_nil)) (pe_lst (pa_cons (pe_op op_add_str pe_str (pe_op op_mul01 pe_str (pe_callTy call_int1 (by rfl) T.z_int (by decide +kernel) (pa_cons (pe_cmpR op_in_seq pe_str (pv 7) (by rfl)) pa_nil)))) pa_nil))) pa_nil))))
      (pss_cons (ps_for PassesOwn.never rfl (pi_tup (pe_tup (pa_cons (pv 5) (pa_cons (pv 6) (pa_cons (pe_op op_sub (pv 5) pe_int) (pa_cons (pe_op op_add (pv 6) pe_int) (pa_cons (pe_op op_add pe_int (pe_call (ok_draw T) (hr.mono (by decide)) (by rfl) T.g_draw T.F_draw.kp T.b_draw .nil pass0 (pa_cons (pv 0) (pa_cons (pe_op op_pow pe_int pe_int) pa_nil)))) pa_nil))))))) (pg_name (i := 9) sc_fits_right.nd rfl (Or.inl rfl))
        (pss_one (ps_if (pt_chain op_le op_le pe_int (pv 9) (pe_op op_pow pe_int pe_int)) (pss_cons (ps_set (i := 10) sc_fits_right.nd rfl (Or.inl rfl) (pe_make T.mk_Bead (ok_Bead_init T) (hr.mono (by decide)) (by rfl) T.g_Bead T.b_Bead_init .nil pass0 (pa_cons (pe_op op_add pe_int (pe_call (ok_draw T) (hr.mono (by decide)) (by rfl) T.g_draw T.F_draw.kp T.b_draw .nil pass0 (pa_cons (pv 0) (pa_cons pe_int pa_nil)))) (pa_cons (pv 9) (pa_cons (pe_op op_add pe_int (pe_call (ok_draw T) (hr.mono (by decide)) (by rfl) T.g_draw T.F_draw.kp T.b_draw .nil pass0 (pa_cons (pv 0) (pa_cons pe_int pa_nil)))) (pa_cons (pv 8) (pa_cons pe_str (pa_cons pe_bl pa_nil))))))))
      (pss_cons (ps_set (i := 11) sc_fits_right.nd rfl (Or.inl rfl) (pe_and (pe_chain op_le op_le (pv 5) (pv 9) (pv 6)) (pe_one (pe_or (pe_cmpR (op_eqD hr.units) (pv 7) (pe_tup pa_nil) (nomark _)) (pe_one (pe_cmpR op_in_seq (pv 8) (pv 7) (by rfl)))))))
      (pss_one (ps_if (PW.pt (pw_or (pt_not (pt_val (pe_callB call_isi (by rfl) T.z_isinstance (by decide +kernel) (pa_cons (pe_meth (pv 1) T.cl_Lot T.m_Lot_fits (ok_Lot_fits T) (hr.mono (by decide)) T.b_Lot_fits .nil pass0 (pa_cons (pv 10) pa_nil)) (pa_cons (pe_bltn (v := .ty "bool") (by rfl) T.z_bool (by decide +kernel) rfl) pa_nil))))) (pw_or1 (pt_cmpR op_ne (pe_meth (pv 1) T.cl_Lot T.m_Lot_fits (ok_Lot_fits T) (hr.mono (by decide)) T.b_Lot_fits .nil pass0 (pa_cons (pv 10) pa_nil)) (pv 11) (nomark _))))) (pss_one (ps_ret pe_bl)) pss_nil)))) pss_nil)))
      (pss_one (ps_ret (pe_not (pe_cmpR (op_eqB (rcB_lot T) (hr.mono (by decide))) (pv 1) (pe_make T.mk_Bead (ok_Bead_init T) (hr.mono (by decide)) (by rfl) T.g_Bead T.bd4_Bead T.hd4_Bead pass0 (pa_cons pe_int (pa_cons pe_int (pa_cons pe_int (pa_cons (pv 3) pa_nil))))) (nomark _)))))))), ?_⟩
  have s0 := g.s0
  have s1 := g.s1
  have l0 := g.l0
  have lh := g.lh
  have h1 := g.h1
  have few := g.few
  have ntd : t ≠ d := by
    obtain ⟨_, _, _, e, _⟩ := dr
    exact fun z => by rw [z, e] at ht; cases ht
  refine ⟨_, rfl, a, _, rfl, SqL.of ha, rfl, _, _, rfl, _, _, rfl, _, _, rfl, _, _, rfl, _, _, rfl, rfl, ?_⟩
  -- the shade
  have k4 : ("rosy" : Str).length ≤ 4 := by decide +kernel
  have k1 : ("q" : Str).length ≤ 1 := by decide +kernel
  refine ⟨_, rfl, _, rfl, t, _, rfl, .inr (.inl (.inl ht)), fun l1 hl1 => ?_⟩
  have x1 := same_upd hl1 (o := .lst (u.hues.map V.str))
  refine ⟨_, rfl, t, _, rfl, .inr (.inl (.inl (x1 _ _ ht))), rfl, flat_strs _, .inr ⟨_, rfl, _, _, rfl, rfl, Nat.le_trans k1 (by decide), ?_⟩⟩
  generalize (if false = true then !inV (V.str "rosy") (u.hues.map V.str) else inV (V.str "rosy") (u.hues.map V.str)) = bq
  have nmr : nm (.str ("rosy" ++ (if bq = true then ("q" : Str) else Str.empty))) = true := by cases bq <;> decide +kernel
  have k2 : (if bq = true then ("q" : Str) else Str.empty).length ≤ 1 := by cases bq <;> decide +kernel
  refine ⟨_, _, rfl, rfl, Nat.le_trans (Nat.add_le_add k4 k2) (by decide), (by show 1 ≤ sizeLine; decide), fun l2 hl2 => ?_⟩
  have x2 := same_upd hl2 (o := .lst [.str ("rosy" ++ (if bq = true then ("q" : Str) else Str.empty))])
  refine ⟨l1, l2, _, _, rfl, rfl, x2 _ _ upd_same, upd_same, sz _ (by rw [List.length_map]; show u.hues.length + 1 ≤ _; omega), fun l3 hl3 => ?_⟩
  have x3 := same_upd hl3 (o := .lst (u.hues.map V.str ++ [.str ("rosy" ++ (if bq = true then ("q" : Str) else Str.empty))]))
  have x13 := x1.trans (x2.trans x3)
  have n3 := (dr.same (x1.trans x2)).ne hl3
  refine ⟨d, l3, _, _, rfl, n3, SqL.of upd_same, by simp, by rw [List.length_append, List.length_map]; show u.hues.length + 1 ≤ 1000; omega, dr.same x13, by omega, fun H5 v hv b5 dr5 => ?_⟩
  obtain ⟨sh, rfl, nsh⟩ : ∃ sh, v = .str sh ∧ nm (.str sh) = true := by
    rcases List.mem_append.mp hv with h | h
    · obtain ⟨z, hz, rfl⟩ := List.mem_map.mp h
      exact ⟨z, rfl, g.hues z hz⟩
    · exact ⟨_, List.mem_singleton.mp h, nmr⟩
  have b05 : But d H H5 := (But.of x13).trans b5
  refine ⟨_, rfl, _, rfl, _, rfl, _, _, rfl, rfl, _, rfl, _, _, rfl, rfl, _, rfl, _, _, rfl, rfl, ⟨by decide, by decide, by decide⟩, d, _, _, rfl, by decide, log_tiny (by decide) (by decide), dr5, by omega, fun H6 r a6 c6 b6 dr6 => ⟨_, _, rfl, rfl, (by show 5 ≤ sizeLine; decide), fun p5 hp5 => ?_⟩⟩
  have x6 := same_upd hp5 (o := .tup [.int u.lo, .int u.hi, .int (u.lo - 1), .int (u.hi + 1), .int (1 + r)])
  have n5 := dr6.ne hp5
  have b06 : But d H (upd H6 p5 (.tup [.int u.lo, .int u.hi, .int (u.lo - 1), .int (u.hi + 1), .int (1 + r)])) := b05.trans (b6.trans (But.of x6))
  have hLn : ∀ {H' : Hp}, But d H H' → LotAt T.C_Lot H' p u := fun b => hL.nl (dr_nl dr b)
  refine ⟨p5, rfl, ⟨_, .inl (.inl upd_same)⟩, for_tup (K := K) (a := p5) (xs := [.int u.lo, .int u.hi, .int (u.lo - 1), .int (u.hi + 1), .int (1 + r)]) (fun i σ H' => ∃ w9 w10 w11, σ = [some (.ref d), some (.ref p), some (.ref a), some (.str u.called), some (.int u.space), some (.int u.lo), some (.int u.hi), some (.ref t), some (.str sh), w9, w10, w11] ∧ H' p5 = some (.tup [.int u.lo, .int u.hi, .int (u.lo - 1), .int (u.hi + 1), .int (1 + r)]) ∧ But d H H' ∧ Dr PM d (n + 3 + 2 * i) H') ⟨_, _, _, rfl, upd_same, b06, (dr6.same x6).mono (by omega)⟩ (fun i σ H' _ h => ?_) ?_ ?_⟩
  · obtain ⟨_, _, _, _, e, _⟩ := h
    exact .inl (.inl e)
  · rintro i x σ H7 hx ⟨w9, w10, w11, rfl, e7, b7, dr7⟩
    have hi : i < 5 := (List.getElem?_eq_some_iff.mp hx).1
    obtain ⟨ac, rfl⟩ : ∃ ac, x = .int ac := by
      have := List.mem_of_getElem? hx
      simp only [List.mem_cons, List.not_mem_nil, or_false] at this
      rcases this with h | h | h | h | h <;> exact ⟨_, h⟩
    have ht7 := dr_nl dr b7 _ _ (fun _ z => by cases z) ht
    refine ⟨_, rfl, _, _, rfl, rfl, ?_⟩
    refine ⟨_, rfl, ite2 (fun g1 => ?_) (fun g1 => ⟨_, rfl, iteF ⟨_, _, _, rfl, e7, b7, dr7.mono (by omega)⟩⟩)⟩
    refine ⟨_, _, rfl, rfl, ⟨by decide, by decide, by decide⟩, _, _, rfl, rfl, _, rfl, ite2 (fun g2 => ?_) (fun g2 => ⟨_, _, _, rfl, e7, b7, dr7.mono (by omega)⟩)⟩
    have g1 := of_decide_eq_true g1
    have g2 := of_decide_eq_true g2
    rw [e6] at g2
    refine ⟨_, rfl, d, 9, _, rfl, by decide, log_tiny (by decide) (by decide), dr7, by omega, fun H8 r8 a8 c8 b8 dr8 => ⟨_, _, rfl, rfl, _, rfl, _, rfl, d, 9, _, rfl, by decide, log_tiny (by decide) (by decide), dr8, by omega, fun H9 r9 a9 c9 b9 dr9 => ⟨_, _, rfl, rfl, _, rfl, ?_⟩⟩⟩
    intro x dx nx ndx nex
    have gR : GoodRw ⟨1 + r8, ac, 1 + r9, sh, "round", false⟩ := ⟨whl_ok (i := 1 + r8) (by omega) (by omega), whl_ok g1 g2, whl_ok (i := 1 + r9) (by omega) (by omega), nsh, show nm (.str "round") = true by decide +kernel⟩
    refine ⟨x, dx, ⟨1 + r8, ac, 1 + r9, sh, "round", false⟩, rfl, upd_same, gR, fun HA hB kA => ⟨rfl, ?_⟩⟩
    have sA : Same H9 HA := fun b o e => kA b o (by rw [upd_ne (ne_of_none e nx), upd_ne (ne_of_none e ndx)]; exact e) (ne_of_none e nx)
    have b7A : But d H7 HA := (b8.trans b9).trans (But.of sA)
    have bA := b7.trans b7A
    have htA := dr_nl dr7 b7A _ _ (fun _ z => by cases z) ht7
    refine due_val (K := K) (u := u) (r := ⟨1 + r8, ac, 1 + r9, sh, "round", false⟩) (t := t) rfl rfl rfl rfl rfl htA g fun HB sB => ?_
    have hLB := hLn (bA.trans (But.of sB))
    obtain ⟨dl, tl, hl1, hl2⟩ := id hLB
    obtain ⟨dxb, hxb⟩ := hB
    have hBB : BeadAt T.C_Bead HB x ⟨1 + r8, ac, 1 + r9, sh, "round", false⟩ := ⟨dxb, sB _ _ hxb⟩
    refine ⟨_, rfl, p, dl, _, rfl, hl1, lf_fits u tl, _, rfl, p, x, u, _, rfl, hLB, g, hBB, fun HC sC => ⟨_, _, _, _, _, rfl, .ty _, .base (.bl _), kit_ty (r := true) (by decide +kernel), _, rfl, iteF ?_⟩⟩
    refine ⟨_, rfl, p, dl, _, rfl, sC _ _ hl1, lf_fits u tl, _, rfl, p, x, u, _, rfl, hLB.same sC, g, ⟨dxb, sC _ _ (sB _ _ hxb)⟩, fun HD sD => ⟨_, rfl, rfl, _, rfl, ?_⟩⟩
    rw [decide_eq_true rfl]
    have sAll := sB.trans (sC.trans sD)
    refine iteF ⟨_, _, _, rfl, sAll _ _ (sA _ _ ((b8.trans b9) _ _ n5 e7)), bA.trans (But.of sAll), ((dr9.same sA).same sAll).mono (by omega)⟩
  · rintro σ H7 ⟨w9, w10, w11, rfl, e7, b7, dr7⟩
    refine ⟨_, rfl, _, rfl, ?_⟩
    intro x dx nx ndx nex
    have gR : GoodRw ⟨1, 1, 1, u.called, "round", false⟩ := ⟨show whl (.int 1) 1 1000000000 = true by decide, show whl (.int 1) 1 1000000 = true by decide, show whl (.int 1) 1 1000000 = true by decide, g.name, show nm (.str "round") = true by decide +kernel⟩
    refine ⟨x, dx, ⟨1, 1, 1, u.called, "round", false⟩, rfl, upd_same, gR, fun HA hB kA => ⟨rfl, ?_⟩⟩
    have sA : Same H7 HA := fun b o e => kA b o (by rw [upd_ne (ne_of_none e nx), upd_ne (ne_of_none e ndx)]; exact e) (ne_of_none e nx)
    have hLA := (hLn b7).same sA
    obtain ⟨dl, tl, hl1, hl2⟩ := id hLA
    obtain ⟨dxb, hxb⟩ := id hB
    refine ⟨false, ⟨p, dl, _, .ref T.C_Bead, rfl, hl1, T.ic_Bead.ty T.cl_Bead hxb, T.nf_LB, u, hLA, g, .inr (.inr ⟨x, _, rfl, hB, rfl⟩)⟩, fun H' (e : Same _ _) => ⟨_, rfl, ?_⟩⟩
    exact q H' (b7.trans (But.of (sA.trans e))) ((dr7.same (sA.trans e)).mono (by show n + 3 + 2 * 5 ≤ _; omega))
end
end KB
namespace KB
open PySem PySem.Spec PyProof.Rows L2 KA
section
variable {P : Program} {w : World} {K : PySem.W.Frag} {mg : Str → Option Value} {base : Heap}
theorem ixn_at {n j : Nat} (hj : j < n) : ixN n (j : Int) = some j := by
  unfold ixN
  rw [if_pos (by omega), if_pos (by omega)]
  simp
theorem erase_strs : ∀ (xs : List Str) (k : Nat), (xs.map V.str).eraseIdx k = (xs.eraseIdx k).map V.str
  | [], _ => rfl
  | _ :: _, 0 => rfl
  | x :: xs, k + 1 => by
    show V.str x :: (xs.map V.str).eraseIdx k = V.str x :: (xs.eraseIdx k).map V.str
    rw [erase_strs xs k]
theorem perm_pop : ∀ {xs : List Str} {k : Nat} (h : k < xs.length), (xs[k] :: xs.eraseIdx k).Perm xs
  | _ :: _, 0, _ => .refl _
  | x :: xs, k + 1, h => (List.Perm.swap x _ _).trans ((perm_pop (xs := xs) (by simpa using h)).cons x)
def ptD (u : Pt) : List PyData := [.str u.called, .int u.space, .int u.lo, .int u.hi, .tuple (strsD u.hues)]
theorem pt_dp {K : PySem.W.Frag} {H : Hp} {u : Pt} {t : Addr} (ht : H t = some (.tup (u.hues.map V.str))) : DpAll K H (ptV u t) (ptD u) := .cons (.str _) (.cons (.int _) (.cons (.int _) (.cons (.int _) (.cons (.tup (.inl (.inl ht)) (strs_dp _)) .nil))))
theorem pt_sh {u : Pt} (g : GoodPt u) : SeqAt.shaped (.list (ptD u)) = true := by
  obtain ⟨a1, a2⟩ := strsD_ok g.hues
  show ((PyData.canLay0 (.str u.called) && (true && (true && (true && (PyData.canLayAll0 (strsD u.hues) && true))))) && decide (max 0 (max 0 (max 0 (max 0 (max (PyData.depthAll (strsD u.hues) + 1) 0)))) + 1 ≤ 64)) = true
  rw [sh_name g.name, a1, decide_eq_true (by omega)]
  rfl
theorem like_perm {u : Pt} {zs : List Str} (p : zs.Perm u.hues) : likeLot u ⟨u.called, u.space, u.lo, u.hi, zs⟩ = true := by
  unfold likeLot
  rw [show decide (u.hues.Perm zs) = true from decide_eq_true p.symm]
  simp
theorem like_symm (u v : Pt) : likeLot v u = likeLot u v := by
  unfold likeLot
  have e1 : decide (v.called = u.called) = decide (u.called = v.called) := by rw [decide_eq_decide]; exact ⟨Eq.symm, Eq.symm⟩
  have e2 : decide (v.space = u.space) = decide (u.space = v.space) := by rw [decide_eq_decide]; exact ⟨Eq.symm, Eq.symm⟩
  have e3 : decide (v.lo = u.lo) = decide (u.lo = v.lo) := by rw [decide_eq_decide]; exact ⟨Eq.symm, Eq.symm⟩
  have e4 : decide (v.hi = u.hi) = decide (u.hi = v.hi) := by rw [decide_eq_decide]; exact ⟨Eq.symm, Eq.symm⟩
  have e5 : decide (v.hues.Perm u.hues) = decide (u.hues.Perm v.hues) := by rw [decide_eq_decide]; exact ⟨List.Perm.symm, List.Perm.symm⟩
  rw [e1, e2, e3, e4, e5]
theorem like_self (u : Pt) : likeLot u u = true := like_perm (u := u) (.refl _)
theorem LotAt.inj {C : Addr} {H : Hp} {p : Addr} {u v : Pt} (h1 : LotAt C H p u) (h2 : LotAt C H p v) : likeLot u v = true := by
  obtain ⟨dx, t, a1, a2⟩ := h1
  obtain ⟨dy, t2, b1, b2⟩ := h2
  have e := Option.some.inj (a1.symm.trans b1)
  injection e with _ _ e
  have e1 := lf_name u t
  have e2 := lf_room u t
  have e3 := lf_least u t
  have e4 := lf_most u t
  have e5 := lf_shades u t
  rw [e] at e1 e2 e3 e4 e5
  rw [lf_name] at e1
  rw [lf_room] at e2
  rw [lf_least] at e3
  rw [lf_most] at e4
  rw [lf_shades] at e5
  injection e1 with e1
  injection e1 with e1
  injection e2 with e2
  injection e2 with e2
  injection e3 with e3
  injection e3 with e3
  injection e4 with e4
  injection e4 with e4
  injection e5 with e5
  injection e5 with e5
  rw [e5, a2] at b2
  have e6 := Option.some.inj b2
  injection e6 with e6
  have e7 : u.hues = v.hues := by
    have inj : ∀ {xs ys : List Str}, xs.map V.str = ys.map V.str → xs = ys := fun {xs ys} h => by
      induction xs generalizing ys with
      | nil =>
        cases ys with
        | nil => rfl
        | cons y ys => cases h
      | cons x xs ih =>
        cases ys with
        | nil => cases h
        | cons y ys =>
          injection h with h1 h2
          injection h1 with h1
          rw [h1, ih h2]
    exact inj e6
  unfold likeLot
  rw [e1, e2, e3, e4, e7]
  simp
def spLaw (K : PySem.W.Frag) : Sp := fun vs H Q _ => ∃ (a : Addr) (ns : List Int), vs = [.ref a] ∧ SqL K H a (ns.map V.int) ∧ ns.length ≤ 63 ∧ ∀ H', Q (.bl true) H'
theorem ok_law {f : Addr} {fd : FuncData} (T : Tx K mg) (F : Fun K "law" "law" s_law f fd) : FnG P w K mg base CX0 17 f fd ["_law_script"] (spLaw K) := by
  refine fun_okG F sc_law (fun vs H Q E h => ?_) (fun cdv A outer s H vs Q E hr gd h => ?_)
  · obtain ⟨a, ns, rfl, hS, hlen, q⟩ := h
    rfl
  obtain ⟨a, ns, rfl, hS, hlen, q⟩ := h
  refine ⟨_, (pss_cons (ps_for PassesOwn.never rfl (pi_list (pe_op op_cat (pe_lst (pa_cons (pe_call (ok_cell_at T) (hr.mono (by decide)) (by rfl) T.g_cell_at T.F_cell_at.kp T.b_cell_at .nil pass0 (pa_cons (pv 0) (pa_cons pe_int pa_nil))) pa_nil)) (pe_slice sl_list (pv 0) (po_some pe_int) (po_some pe_int)))) (pg_name (i := 1) sc_law.nd rfl (Or.inl rfl))
        (pss_cons (ps_set (i := 2) sc_law.nd rfl (Or.inr rfl) (pe_call (ok_begin T) (hr.mono (by decide)) (by rfl) T.g_begin T.F_begin.kp T.b_begin .nil pass0 (pa_cons (pv 1) pa_nil)))
      (pss_cons (ps_set (i := 3) sc_law.nd rfl (Or.inl rfl) (pe_call (ok_parts T) (hr.mono (by decide)) (by rfl) T.g_parts T.F_parts.kp T.b_parts .nil pass0 (pa_cons (pv 2) pa_nil)))
      (pss_cons (ps_set (i := 4) sc_law.nd rfl (Or.inl rfl) (pe_call (ok_made T) (hr.mono (by decide)) (by rfl) T.g_made T.F_made.kp T.b_made .nil pass0 (pa_cons (pv 2) (pa_cons (pv 3) pa_nil))))
      (pss_cons (ps_if (PW.pt (pw_or (pt_cmpR (op_neD hr.units) (pe_lst (pa_cons (pe_fld (pv 4) rfl) (pa_cons (pe_fld (pv 4) rfl) (pa_cons (pe_fld (pv 4) rfl) (pa_cons (pe_fld (pv 4) rfl) (pa_cons (pe_fld (pv 4) rfl) pa_nil)))))) (pv 3) (nomark _)) (pw_or1 (pt_cmpR (op_neD hr.units) (pe_callB (call_lenO (E := E0) (ok_Lot_len T) T.m_Lot_len.at_ T.m_Lot_len.fn T.b_Lot_len pass0 (hr.mono (by decide))) (by rfl) T.z_len PySem.boot_len (pa_cons (pv 4) pa_nil)) (pe_ix ix_list (pv 3) pe_int (fun _ _ => rfl)) (nomark _))))) (pss_one (ps_ret pe_bl)) pss_nil)
      (pss_cons (ps_if (PW.pt (pw_or (pt_cmpR op_ne (pe_callB (call_reprOG (E := E0) (ok_Lot_repr T) T.m_Lot_repr.at_ T.m_Lot_repr.fn T.b_Lot_repr pass0 (hr.mono (by decide)) gd) (by rfl) T.z_repr (by decide +kernel) (pa_cons (pv 4) pa_nil)) (pe_call (ok_repr T) (hr.mono (by decide)) (by rfl) T.g_repr T.F_repr.kp T.b_repr .nil pass0 (pa_cons (pv 3) pa_nil)) (nomark _)) (pw_or1 (pt_cmpR op_ne (pe_callTy (call_strO (E := E0) (ok_Lot_str T) T.m_Lot_str.at_ T.m_Lot_str.fn T.b_Lot_str pass0 (hr.mono (by decide))) (by rfl) T.z_str (by decide +kernel) (pa_cons (pv 4) pa_nil)) (pe_call (ok_str T) (hr.mono (by decide)) (by rfl) T.g_str T.F_str.kp T.b_str .nil pass0 (pa_cons (pv 3) pa_nil)) (nomark _))))) (pss_one (ps_ret pe_bl)) pss_nil)
      (pss_cons (ps_set (i := 5) sc_law.nd rfl (Or.inr rfl) (pe_callTy call_list_of (by rfl) T.z_list (by decide +kernel) (pa_cons (pe_ix ix_list (pv 3) pe_int (fun _ _ => rfl)) pa_nil)))
      (pss_cons (ps_setLc (i := 6) (own := [("_law_k", 8)]) (g := gName 8) (tt := tYes) rfl sc_law.nd rfl rfl (sw_true rfl rfl rfl (by decide +kernel)) (pi_range1 (by rfl) T.z_range (pa_cons (pe_callB call_len_seq (by rfl) T.z_len PySem.boot_len (pa_cons (pe_ix ix_list (pv 3) pe_int (fun _ _ => rfl)) pa_nil)) pa_nil)) (blkOk_by (N := ["_law_script", "_law_cell", "_law_source", "_law_parts_here", "_law_lot", "_law_left", "_law_turned", "_law_other", "_law_k"]) (sc := defScope s_law) (by decide +kernel)) (fun _ _ _ _ _ => (pg_name (i := 8) sc_law.nd rfl (Or.inl rfl))) (fun _ _ _ _ _ => pts_nil) (fun _ _ _ _ _ => (pe_bmK (K' := K) rfl PySem.F.plainAttrs_list PySem.F.slot_list_pop PySem.F.type_list_pop mt_popAt (pv 5) (pa_cons (pe_call (ok_draw T) (hr.mono (by decide)) (by rfl) T.g_draw T.F_draw.kp T.b_draw .nil pass0 (pa_cons (pv 2) (pa_cons (pe_callB (call_len_seqK (K' := K) rfl) (by rfl) T.z_len PySem.boot_len (pa_cons (pv 5) pa_nil)) pa_nil))) pa_nil))))
      (pss_cons (ps_if (PW.pt (pw_or (pt_not (pt_cmpR (op_eqB (rcB_lot T) (hr.mono (by decide))) (pv 4) (pe_call (ok_made T) (hr.mono (by decide)) (by rfl) T.g_made T.F_made.kp T.b_made .nil pass0 (pa_cons (pv 2) (pa_cons (pe_op op_cat (pe_slice sl_list (pv 3) po_none (po_some pe_int)) (pe_lst (pa_cons (pe_callTy call_tuple_of (by rfl) T.z_tuple (by decide +kernel) (pa_cons (pv 6) pa_nil)) pa_nil))) pa_nil))) (nomark _))) (pw_or1 (pt_cmpR (op_neB (rcB_lot_ne T) (hr.mono (by decide))) (pv 4) (pv 4) (nomark _))))) (pss_one (ps_ret pe_bl)) pss_nil)
      (pss_cons (ps_set (i := 7) sc_law.nd rfl (Or.inl rfl) (pe_call (ok_made T) (hr.mono (by decide)) (by rfl) T.g_made T.F_made.kp T.b_made .nil pass0 (pa_cons (pv 2) (pa_cons (pe_call (ok_other_parts T) (hr.mono (by decide)) (by rfl) T.g_other_parts T.F_other_parts.kp T.b_other_parts .nil pass0 (pa_cons (pv 2) (pa_cons (pv 3) pa_nil))) pa_nil))))
      (pss_cons (ps_if (PW.pt (pw_or (pt_cmpR (op_eqB (rcB_lot T) (hr.mono (by decide))) (pv 4) (pv 7) (nomark _)) (pw_or (pt_not (pt_cmpR (op_neB (rcB_lot_ne T) (hr.mono (by decide))) (pv 4) (pv 7) (nomark _))) (pw_or1 (pt_cmpR (op_inB monB_lot (eqB_lot T) (hr.mono (by decide))) (pv 4) (pe_lst (pa_cons (pv 7) (pa_cons pe_non (pa_cons (pe_callTy (call_strO (E := E0) (ok_Lot_str T) T.m_Lot_str.at_ T.m_Lot_str.fn T.b_Lot_str pass0 (hr.mono (by decide))) (by rfl) T.z_str (by decide +kernel) (pa_cons (pv 4) pa_nil)) (pa_cons (pe_callTy call_tuple_of (by rfl) T.z_tuple (by decide +kernel) (pa_cons (pv 3) pa_nil)) pa_nil))))) (by rfl)))))) (pss_one (ps_ret pe_bl)) pss_nil)
      (pss_one (ps_if (PW.pt (pw_or (pt_not (pt_val (pe_call (ok_is_refused T) (hr.mono (by decide)) (by rfl) T.g_is_refused T.F_is_refused.kp T.b_is_refused .nil pass0 (pa_cons (pe_call (ok_odd_parts T) (hr.mono (by decide)) (by rfl) T.g_odd_parts T.F_odd_parts.kp T.b_odd_parts .nil pass0 (pa_cons (pv 2) (pa_cons (pv 3) pa_nil))) pa_nil)))) (pw_or1 (pt_not (pt_val (pe_call (ok_fits_right T) (hr.mono (by decide)) (by rfl) T.g_fits_right T.F_fits_right.kp T.b_fits_right .nil pass0 (pa_cons (pv 2) (pa_cons (pv 4) (pa_cons (pv 3) pa_nil))))))))) (pss_one (ps_ret pe_bl)) pss_nil)))))))))))))
      (pss_one (ps_ret pe_bl))), ?_⟩
  refine ⟨_, rfl, a, ns, rfl, hS, (by show 1 ≤ sizeLine; decide), fun p hp => ?_⟩
  have s1 : Same H (upd H p (.lst [.int (ns.headD 0)])) := same_upd hp
  refine ⟨_, rfl, _, rfl, _, rfl, a, _, rfl, s1.seq hS, fun p2 hp2 => ?_⟩
  have s2 : Same (upd H p (.lst [.int (ns.headD 0)])) (upd (upd H p (.lst [.int (ns.headD 0)])) p2 (.lst (cutV (ns.map V.int) (some 1) (some 12)))) := same_upd hp2
  have hcut : (cutV (ns.map V.int) (some 1) (some 12)).length ≤ 63 := by
    have := len_cut (ns.map V.int) (some 1) (some 12)
    rw [List.length_map] at this
    omega
  refine ⟨p, p2, _, _, rfl, rfl, s2 _ _ upd_same, upd_same, sz _ (by rw [List.length_singleton]; omega), fun p3 hp3 => ?_⟩
  refine ⟨p3, rfl, ⟨_, SqL.of upd_same⟩, for_list (K := K) (a := p3) (xs := [V.int (ns.headD 0)] ++ cutV (ns.map V.int) (some 1) (some 12)) (fun i σ H' => ∃ w1 w2 w3 w4 w5 w6 w7 w8, σ = [some (.ref a), w1, w2, w3, w4, w5, w6, w7, w8] ∧ H' p3 = some (.lst ([V.int (ns.headD 0)] ++ cutV (ns.map V.int) (some 1) (some 12)))) ⟨_, _, _, _, _, _, _, _, rfl, upd_same⟩ (fun i σ H' _ h => ?_) ?_ ?_⟩
  · obtain ⟨_, _, _, _, _, _, _, _, _, e⟩ := h
    exact SqL.of e
  rotate_left
  · rintro σ H' ⟨w1, w2, w3, w4, w5, w6, w7, w8, rfl, e0⟩
    exact q H'
  rintro i x σ H0 hi ⟨w1, w2, w3, w4, w5, w6, w7, w8, rfl, e0⟩
  obtain ⟨cell, rfl⟩ := cells_int hi
  refine ⟨_, rfl, cell, rfl, fun d H1 hd t1 dr1 => ?_⟩
  have np3 : p3 ≠ d := ne_of_none e0 hd
  refine ⟨_, rfl, d, 0, rfl, dr1, by omega, fun H2 pa u hpa npd hP g few4 b2 dr2 => ?_⟩
  have e2 := b2 _ _ np3 (t1 _ _ e0)
  refine ⟨_, rfl, _, rfl, d, pa, _, u, rfl, npd, hP, g, dr2, by omega, fun H3 lo hL b3 dr3 => ?_⟩
  have hP3 := hP.but dr2 npd b3
  have e3 := b3 _ _ np3 e2
  obtain ⟨dl, tl, hl1, hl2⟩ := id hL
  obtain ⟨t, ha, ht⟩ := id hP3
  -- the fields
  refine ⟨_, rfl, lo, _, dl, _, _, rfl, hl1, T.cl_Lot, T.n_Lot_name, lf_name u tl, _, rfl, lo, _, dl, _, _, rfl, hl1, T.cl_Lot, T.n_Lot_room, lf_room u tl, _, rfl, lo, _, dl, _, _, rfl, hl1, T.cl_Lot, T.n_Lot_least, lf_least u tl, _, rfl, lo, _, dl, _, _, rfl, hl1, T.cl_Lot, T.n_Lot_most, lf_most u tl, _, rfl, lo, _, dl, _, _, rfl, hl1, T.cl_Lot, T.n_Lot_shades, lf_shades u tl, (by show 5 ≤ sizeLine; decide), fun l1 hl1' => ?_⟩
  have x1 := same_upd hl1' (o := .lst (ptV u tl))
  refine ⟨_, rfl, .list (ptD u), .list (ptD u), .lst (SqL.of upd_same) (pt_dp (x1 _ _ hl2)), .lst (SqL.of (x1 _ _ ha)) (pt_dp (x1 _ _ ht)), pt_sh g, pt_sh g, _, rfl, ?_⟩
  rw [SeqAt.eqv_refl _ (SeqAt.canLay_of_shaped (pt_sh g))]
  refine iteF ?_
  have s0 := g.s0
  have s1' := g.s1
  have few := g.few
  refine ⟨_, rfl, lo, dl, _, rfl, x1 _ _ hl1, lo, u, rfl, hL.same x1, g, _, rfl, s0, by omega, _, rfl, pa, _, _, _, rfl, rfl, SqL.of (x1 _ _ ha), atI_nat (j := 1) rfl, .int u.space, .int u.space, .int _, .int _, rfl, rfl, _, rfl, ?_⟩
  rw [SeqAt.eqv_refl (.int u.space) rfl]
  refine iteF ?_
  -- how it is shown
  refine ⟨_, rfl, lo, dl, _, rfl, x1 _ _ hl1, lo, u, rfl, hL.same x1, g, fun H4 s4 => ⟨⟨_, rfl⟩, _, rfl, pa, u, rfl, hP3.same (x1.trans s4), g, fun H5 s5 => ⟨rfl, _, rfl, ?_⟩⟩⟩
  rw [decide_eq_true rfl]
  have z5 := x1.trans (s4.trans s5)
  refine iteF ⟨_, rfl, lo, dl, _, rfl, z5 _ _ hl1, lo, u, rfl, hL.same z5, g, fun H6 s6 => ⟨⟨_, rfl⟩, _, rfl, pa, u, rfl, hP3.same (z5.trans s6), g, fun H7 s7 => ⟨rfl, _, rfl, ?_⟩⟩⟩
  rw [decide_eq_true rfl]
  refine iteF ?_
  have z7 := z5.trans (s6.trans s7)
  -- turned
  refine ⟨_, rfl, pa, _, _, _, rfl, rfl, SqL.of (z7 _ _ ha), atI_nat (j := 4) rfl, t, _, rfl, .inr (.inl (.inl (z7 _ _ ht))), fun l2 hl2' => ?_⟩
  have x8 := same_upd hl2' (o := .lst (u.hues.map V.str))
  have z8 := z7.trans x8
  have dr8 := dr3.same z8
  have n2d := (dr3.same z7).ne hl2'
  generalize hH8 : upd H7 l2 (.lst (u.hues.map V.str)) = H8 at x8 z8 dr8
  have e8 : H8 l2 = some (.lst (u.hues.map V.str)) := by
    rw [← hH8]
    exact upd_same
  clear hH8
  have hP8 := hP3.same z8
  have hL8 := hL.same z8
  have e38 := z8 _ _ e3
  obtain ⟨t8, ha8, ht8⟩ := id hP8
  have nl2 : ∀ {b : Addr} {o : HO}, H7 b = some o → b ≠ l2 := fun e => ne_of_none e hl2'
  refine ⟨_, rfl, pa, _, _, _, rfl, rfl, SqL.of ha8, atI_nat (j := 4) rfl, t8, _, rfl, .inr (.inl (.inl ht8)), _, rfl, by omega, by rw [List.length_map]; omega, fun D hD => ?_⟩
  have nDd := dr8.ne hD
  have nD2 : D ≠ l2 := fun z => by rw [z, e8] at hD; cases hD
  refine lc_range (lo := 0) (n := (((u.hues.map V.str).length : Nat) : Int).toNat) (fun i H' => ∃ xs ys : List Str, H' l2 = some (.lst (xs.map V.str)) ∧ H' D = some (.lst (ys.map V.str)) ∧ (ys ++ xs).Perm u.hues ∧ ys.length = i ∧ (∀ b o, b ≠ d → b ≠ l2 → b ≠ D → H8 b = some o → H' b = some o) ∧ NL H8 H' ∧ Dr PM d (4 + 300 + i) H') ⟨u.hues, [], by rw [upd_ne nD2.symm]; exact e8, upd_same, .refl _, rfl, (fun b o _ _ n e => by rw [upd_ne n]; exact e), NL.of (same_upd hD), (dr8.upd nDd).mono (by omega)⟩ ?_ ?_
  · rintro i H9 hi ⟨xs, ys, e2', eD, pm, ly, kp, nl, dr9⟩
    rw [List.length_map] at hi
    have lsum := pm.length_eq
    rw [List.length_append] at lsum
    have hpos : 0 < xs.length := by omega
    have hp0 : (0 : Int) < (((xs.map V.str).length : Nat) : Int) := by rw [List.length_map]; omega
    refine ⟨rfl, yesT ⟨_, rfl, .inl ⟨rfl, _, SqL.of e2'⟩, _, rfl, _, rfl, l2, _, rfl, .inl (SqL.of e2'), d, _, _, rfl, hp0, log_tiny hp0 (by rw [List.length_map]; omega), dr9, by omega, fun H10 r a10 c10 b10 dr10 => ?_⟩⟩
    obtain ⟨k, rfl⟩ : ∃ k : Nat, r = (k : Int) := ⟨r.toNat, by omega⟩
    rw [List.length_map] at c10
    have hk : k < xs.length := by omega
    have e10 := b10 _ _ n2d e2'
    have eD10 := b10 _ _ nDd eD
    refine ⟨l2, _, _, k, .str xs[k], rfl, rfl, e10, by omega, by omega, (ixN_seq (ixn_at (by rw [List.length_map]; exact hk))).1, by rw [List.getElem?_map, List.getElem?_eq_getElem hk]; rfl, ys.map V.str, by rw [upd_ne nD2]; exact eD10, by rw [List.length_map]; exact Nat.lt_of_lt_of_le (show ys.length < 1000 by omega) (by decide), ?_⟩
    refine ⟨xs.eraseIdx k, ys ++ [xs[k]], ?_, ?_, ?_, by rw [List.length_append, ly]; rfl, fun b o n1 n2 n3 e => ?_, ?_, ?_⟩
    · rw [upd_ne nD2.symm, erase_strs]
      exact upd_same
    · rw [List.map_append]
      exact upd_same
    · refine List.Perm.trans ?_ pm
      rw [List.append_assoc]
      exact (perm_pop hk).append_left ys
    · rw [upd_ne n3, upd_ne n2]
      exact b10 _ _ n1 (kp b o n1 n2 n3 e)
    · refine (nl.trans (dr_nl dr9 b10)).trans ((NL.at_ e10).trans (NL.at_ (xs := ys.map V.str) ?_))
      rw [upd_ne nD2]
      exact eD10
    · exact ((dr10.upd n2d).upd nDd).mono (by omega)
  rintro H9 ⟨xs, ys, e2', eD, pm, ly, kp, nl, dr9⟩
  have lsum := pm.length_eq
  rw [List.length_append, ly, List.length_map] at lsum
  obtain rfl : xs = [] := List.length_eq_zero_iff.mp (by omega)
  rw [List.append_nil] at pm
  have ly' : ys.length = u.hues.length := pm.length_eq
  have gv : GoodPt ⟨u.called, u.space, u.lo, u.hi, ys⟩ := ⟨g.name, g.s0, g.s1, g.l0, g.lh, g.h1, fun z hz => g.hues z (pm.mem_iff.mp hz), pm.symm.nodup g.un, by rw [show ys.length = u.hues.length from ly']; exact g.few⟩
  have nLD : ∀ {b : Addr} {o : HO}, H8 b = some o → b ≠ D := fun e => ne_of_none e hD
  have nl38 : NL H7 H9 := (NL.of x8).trans nl
  have hL9 := hL.nl ((NL.of z7).trans nl38)
  have ha9 := kp _ _ npd (nl2 (z7 _ _ ha)) (nLD ha8) ha8
  have ht9 := nl _ _ (fun _ z => by cases z) ht8
  have hP9 : PtAt H9 pa u := ⟨t8, ha9, ht9⟩
  have e39 := kp _ _ np3 (nl2 (z7 _ _ e3)) (nLD e38) e38
  clear kp nl e2' lsum
  -- equal to the one turned
  refine ⟨_, rfl, _, rfl, _, rfl, 4, rfl, pa, _, rfl, SqL.of ha9, fun lA hlA => ?_⟩
  have xA := same_upd hlA (o := .lst (cutV (ptV u t8) none (some 4)))
  refine ⟨_, rfl, D, _, rfl, .inl ⟨SqL.of (xA _ _ eD), fun tB htB => ?_⟩⟩
  have xB := same_upd htB (o := .tup (ys.map V.str))
  refine ⟨(by show 1 ≤ sizeLine; decide), fun lC hlC => ?_⟩
  have xC := same_upd hlC (o := .lst [.ref tB])
  refine ⟨lA, lC, _, _, rfl, rfl, (xB.trans xC) _ _ upd_same, upd_same, (by show 4 + 1 ≤ sizeLine; decide), fun lE hlE => ?_⟩
  have xE := same_upd hlE (o := .lst (cutV (ptV u t8) none (some 4) ++ [.ref tB]))
  have zE := xA.trans (xB.trans (xC.trans xE))
  have nEd := (dr9.same (xA.trans (xB.trans xC))).ne hlE
  have hPE : PtAt _ lE ⟨u.called, u.space, u.lo, u.hi, ys⟩ := ⟨tB, upd_same, (xC.trans xE) _ _ upd_same⟩
  refine ⟨d, lE, _, _, rfl, nEd, hPE, gv, dr9.same zE, by omega, fun H10 q2 hL2 b10 dr10 => ?_⟩
  have bz : But d H9 H10 := (But.of zE).trans b10
  have nz : NL H9 H10 := dr_nl dr9 bz
  have hL10 := hL9.nl nz
  refine ⟨_, lot_lot T hL10 g hL2 gv, fun H11 (s11 : Same _ _) => ?_⟩
  refine ⟨_, rfl, ?_⟩
  rw [Bool.false_xor, like_perm pm]
  refine iteF ?_
  have hL11 := hL10.same s11
  refine ⟨_, rfl, _, rfl, _, lot_lot T hL11 g hL11 g, fun H12 (s12 : Same _ _) => ⟨_, rfl, ?_⟩⟩
  rw [like_self]
  refine iteF ?_
  have s1012 := s11.trans s12
  have b912 : But d H9 H12 := bz.trans (But.of s1012)
  have dr12 := dr10.same s1012
  have hP12 := hP9.but dr9 npd b912
  have hL12 := hL10.same s1012
  -- another one
  refine ⟨_, rfl, _, rfl, _, rfl, d, pa, _, u, rfl, npd, hP12, g, few4, dr12, by omega, fun H13 l v nld hPv gv' nlk b13 dr13 => ⟨d, l, _, v, rfl, nld, hPv, gv', dr13, by omega, fun H14 q3 hL3 b14 dr14 => ?_⟩⟩
  have b1214 := b13.trans b14
  have hL14 := hL12.nl (dr_nl dr12 b1214)
  have hP14 := hP12.but dr12 npd b1214
  refine ⟨_, rfl, _, rfl, _, lot_lot T hL14 g hL3 gv', fun H15 (s15 : Same _ _) => ⟨_, rfl, ?_⟩⟩
  rw [Bool.false_xor, nlk]
  refine iteF ?_
  refine ⟨_, rfl, _, rfl, _, lot_lot T (hL14.same s15) g (hL3.same s15) gv', fun H16 (s16 : Same _ _) => ⟨_, rfl, ?_⟩⟩
  rw [nlk]
  refine iteF ?_
  have s1416 := s15.trans s16
  have hL16 := hL14.same s1416
  obtain ⟨dl6, tl6, hq1, hq2⟩ := id hL16
  refine ⟨_, rfl, _, rfl, _, rfl, lo, dl6, _, rfl, hq1, lo, u, rfl, hL16, g, fun H17 s17 => ⟨⟨_, rfl⟩, ?_⟩⟩
  have s1417 := s1416.trans s17
  obtain ⟨t17, ha17, ht17⟩ := hP14.same s1417
  refine ⟨_, rfl, pa, _, rfl, .inl ⟨SqL.of ha17, fun tF htF => ⟨(by show 4 ≤ sizeLine; decide), fun lI hlI => ?_⟩⟩⟩
  have xF := same_upd htF (o := .tup (ptV u t17))
  have xI := same_upd hlI (o := .lst [.ref q3, .non, .str (lotS u), .ref tF])
  have s1418 := s1417.trans (xF.trans xI)
  have hL18 := hL14.same s1418
  have hL318 := hL3.same s1418
  have htF' : (upd (upd H17 tF (.tup (ptV u t17))) lI (.lst [.ref q3, .non, .str (lotS u), .ref tF])) tF = some (.tup (ptV u t17)) := xI _ _ upd_same
  generalize hH18 : upd (upd H17 tF (.tup (ptV u t17))) lI (.lst [.ref q3, .non, .str (lotS u), .ref tF]) = H18 at s1418 hL18 hL318 htF'
  have eI : H18 lI = some (.lst [.ref q3, .non, .str (lotS u), .ref tF]) := by
    rw [← hH18]
    exact upd_same
  obtain ⟨dl8, tl8, hr1, hr2⟩ := id hL18
  obtain ⟨dl9, tl9, hr3, hr4⟩ := id hL318
  refine ⟨lI, _, fun _ => false, rfl, eI, fun j z hz => ?_, fun H19 (s19 : Same _ _) => ?_⟩
  · have rr : ∀ tt, tt ∈ six → TyX K H18 z (.type tt) → RLot K T.C_Bead T.C_Lot lo z false H18 := fun tt h1 h2 => ⟨u, hL18, g, .inr (.inl ⟨tt, h1, h2, rfl⟩)⟩
    have hz := List.mem_of_getElem? hz
    simp only [List.mem_cons, List.not_mem_nil, or_false] at hz
    rcases hz with rfl | rfl | rfl | rfl
    · refine .inl (.inl ⟨q3, dl9, _, .ref T.C_Lot, rfl, hr3, T.ic_Lot.ty T.cl_Lot hr1, by simp [PySem.W.notFirst], ⟨v, hL318, gv', .inl ⟨lo, u, rfl, hL18, g, by rw [like_symm, nlk]⟩⟩, fun e => ?_⟩)
      injection e with e
      subst e
      have := LotAt.inj hL18 hL318
      rw [nlk] at this
      cases this
    · exact .inr ⟨lo, dl8, _, rfl, hr1, rr "NoneType" (by simp [six]) (.base .non), .inr (.inr (.inr (.inl rfl)))⟩
    · exact .inr ⟨lo, dl8, _, rfl, hr1, rr "str" (by simp [six]) (.base (.str _)), .inr (.inl ⟨_, rfl⟩)⟩
    · exact .inr ⟨lo, dl8, _, rfl, hr1, rr "tuple" (by simp [six]) (.base (.tup htF')), .inr (.inr (.inr (.inr (.inr ⟨tF, _, rfl, htF'⟩))))⟩
  have hF : (false ^^ anyF ([.ref q3, V.non, .str (lotS u), .ref tF] : List V).length (fun _ => false)) = false := by
    rw [anyF_false (fun _ _ => rfl)]
    rfl
  refine ⟨_, rfl, ?_⟩
  rw [hF]
  refine iteF ?_
  have s1419 := s1418.trans s19
  have dr19 := dr14.same s1419
  have hP19 := hP14.same s1419
  have hL19 := hL14.same s1419
  refine ⟨_, rfl, _, rfl, d, pa, _, u, rfl, npd, hP19, g, dr19, by omega, fun H20 l20 x1' x2' x3' x4' x5' el hno b20 dr20 => ⟨l20, x1', x2', x3', x4', x5', rfl, el, hno, fun H21 s21 => ⟨_, rfl, iteF ?_⟩⟩⟩
  have b1921 := b20.trans (But.of s21)
  refine ⟨_, rfl, _, rfl, _, rfl, d, lo, pa, _, u, rfl, npd, hP19.but dr19 npd b1921, g, hL19.nl (dr_nl dr19 b1921), dr20.same s21, by omega, fun H22 b22 dr22 => ⟨_, rfl, iteF ?_⟩⟩
  have b922 : But d H9 H22 := b912.trans (b1214.trans ((But.of s1419).trans (b1921.trans b22)))
  exact ⟨_, _, _, _, _, _, _, _, rfl, b922 _ _ np3 e39⟩
end
theorem all_mk {l : PySem.W.OpenLaw} {w : World} {K : PySem.W.Frag} {h : Heap} {mg : Str → Option Value} {fa : Addr} (X : K.In h) (G : h.Ns mainGlobals mg) (hfa : mg "law" = some (.ref fa))
    {C_Bead : Addr}
    {C_Lot : Addr}
    {C_PearlError : Addr}
    {C_BadBead : Addr}
    {C_BadRule : Addr}
    {C_BadDeed : Addr}
    {C_NoRow : Addr}
    {C_NotLet : Addr}
    {C_TooLate : Addr}
    {C_BadText : Addr}
    {C_BadLot : Addr}
    {f0 : Addr} {od0 an0 : Option Addr} {sl0 : Array (Option Value)} {oc0 kV0 dc0 pm0 cd0 ct0 : Value}
    {T0 : Addr} {oT0 : Value} {dT0 : Option Addr} {nT0 : Nat} {sT0 : Array (Option Value)} {td0_0 : Tok}
    {f1 : Addr} {od1 an1 : Option Addr} {sl1 : Array (Option Value)} {oc1 kV1 dc1 pm1 cd1 ct1 : Value}
    {f2 : Addr} {od2 an2 : Option Addr} {sl2 : Array (Option Value)} {oc2 kV2 dc2 pm2 cd2 ct2 : Value}
    {f3 : Addr} {od3 an3 : Option Addr} {sl3 : Array (Option Value)} {oc3 kV3 dc3 pm3 cd3 ct3 : Value}
    {f4 : Addr} {od4 an4 : Option Addr} {sl4 : Array (Option Value)} {oc4 kV4 dc4 pm4 cd4 ct4 : Value}
    {f5 : Addr} {od5 an5 : Option Addr} {sl5 : Array (Option Value)} {oc5 kV5 dc5 pm5 cd5 ct5 : Value}
    {f6 : Addr} {od6 an6 : Option Addr} {sl6 : Array (Option Value)} {oc6 kV6 dc6 pm6 cd6 ct6 : Value}
    {T6 : Addr} {oT6 : Value} {dT6 : Option Addr} {nT6 : Nat} {sT6 : Array (Option Value)} {td6_0 : Tok}
    {f7 : Addr} {od7 an7 : Option Addr} {sl7 : Array (Option Value)} {oc7 kV7 dc7 pm7 cd7 ct7 : Value}
    {f8 : Addr} {od8 an8 : Option Addr} {sl8 : Array (Option Value)} {oc8 kV8 dc8 pm8 cd8 ct8 : Value}
    {T8 : Addr} {oT8 : Value} {dT8 : Option Addr} {nT8 : Nat} {sT8 : Array (Option Value)} {td8_0 : Tok} {td8_1 : Tok}
    {f9 : Addr} {od9 an9 : Option Addr} {sl9 : Array (Option Value)} {oc9 kV9 dc9 pm9 cd9 ct9 : Value}
    {f10 : Addr} {od10 an10 : Option Addr} {sl10 : Array (Option Value)} {oc10 kV10 dc10 pm10 cd10 ct10 : Value}
    {f11 : Addr} {od11 an11 : Option Addr} {sl11 : Array (Option Value)} {oc11 kV11 dc11 pm11 cd11 ct11 : Value}
    {f12 : Addr} {od12 an12 : Option Addr} {sl12 : Array (Option Value)} {oc12 kV12 dc12 pm12 cd12 ct12 : Value}
    {f13 : Addr} {od13 an13 : Option Addr} {sl13 : Array (Option Value)} {oc13 kV13 dc13 pm13 cd13 ct13 : Value}
    {f14 : Addr} {od14 an14 : Option Addr} {sl14 : Array (Option Value)} {oc14 kV14 dc14 pm14 cd14 ct14 : Value}
    {f15 : Addr} {od15 an15 : Option Addr} {sl15 : Array (Option Value)} {oc15 kV15 dc15 pm15 cd15 ct15 : Value}
    {f16 : Addr} {od16 an16 : Option Addr} {sl16 : Array (Option Value)} {oc16 kV16 dc16 pm16 cd16 ct16 : Value}
    {f17 : Addr} {od17 an17 : Option Addr} {sl17 : Array (Option Value)} {oc17 kV17 dc17 pm17 cd17 ct17 : Value}
    {f18 : Addr} {od18 an18 : Option Addr} {sl18 : Array (Option Value)} {oc18 kV18 dc18 pm18 cd18 ct18 : Value}
    {f19 : Addr} {od19 an19 : Option Addr} {sl19 : Array (Option Value)} {oc19 kV19 dc19 pm19 cd19 ct19 : Value}
    {f20 : Addr} {od20 an20 : Option Addr} {sl20 : Array (Option Value)} {oc20 kV20 dc20 pm20 cd20 ct20 : Value}
    {f21 : Addr} {od21 an21 : Option Addr} {sl21 : Array (Option Value)} {oc21 kV21 dc21 pm21 cd21 ct21 : Value}
    {f22 : Addr} {od22 an22 : Option Addr} {sl22 : Array (Option Value)} {oc22 kV22 dc22 pm22 cd22 ct22 : Value}
    {f23 : Addr} {od23 an23 : Option Addr} {sl23 : Array (Option Value)} {oc23 kV23 dc23 pm23 cd23 ct23 : Value}
    {f24 : Addr} {od24 an24 : Option Addr} {sl24 : Array (Option Value)} {oc24 kV24 dc24 pm24 cd24 ct24 : Value}
    {f25 : Addr} {od25 an25 : Option Addr} {sl25 : Array (Option Value)} {oc25 kV25 dc25 pm25 cd25 ct25 : Value}
    {f26 : Addr} {od26 an26 : Option Addr} {sl26 : Array (Option Value)} {oc26 kV26 dc26 pm26 cd26 ct26 : Value}
    {f27 : Addr} {od27 an27 : Option Addr} {sl27 : Array (Option Value)} {oc27 kV27 dc27 pm27 cd27 ct27 : Value}
    {f28 : Addr} {od28 an28 : Option Addr} {sl28 : Array (Option Value)} {oc28 kV28 dc28 pm28 cd28 ct28 : Value}
    {f29 : Addr} {od29 an29 : Option Addr} {sl29 : Array (Option Value)} {oc29 kV29 dc29 pm29 cd29 ct29 : Value}
    {tc0 : Tok}
    {tc1 : Tok}
    {tc2 : Tok}
    {tc3 : Tok}
    {nm_BadLot q_BadLot : Str} {N_BadLot : Addr} {bs_BadLot : List Value} {sn_BadLot : List Str} {sub_BadLot : List Value} {ab_BadLot : Bool} {col_BadLot : Option Bool} {dd_BadLot : Option Addr} {m0_BadLot m1_BadLot m2_BadLot m3_BadLot m5_BadLot : Option Value}
    (aC_Bead : PySem.W.nsIn K mainGlobals "Bead" = some (some (.ref C_Bead)))
    (pg_Bead : PySem.W.plainGet K C_Bead Str.empty = true)
    (hd_Bead : PySem.W.hasDictIn K C_Bead = true)
    (po_Bead : PySem.W.plainOver K C_Bead = true)
    (sa_Bead : PySem.W.findIn K (.ref C_Bead) "__setattr__" = some (some (.builtin "object.__setattr__")))
    (mk_Bead : PySem.W.makesIn K C_Bead = true)
    (kc_Bead : PySem.W.keepIn K (.ref C_Bead) = true)
    (n_Bead_number : PySem.W.findIn K (.ref C_Bead) "number" = some none)
    (n_Bead_across : PySem.W.findIn K (.ref C_Bead) "across" = some none)
    (n_Bead_weight : PySem.W.findIn K (.ref C_Bead) "weight" = some none)
    (n_Bead_shade : PySem.W.findIn K (.ref C_Bead) "shade" = some none)
    (n_Bead_form : PySem.W.findIn K (.ref C_Bead) "form" = some none)
    (n_Bead_drilled : PySem.W.findIn K (.ref C_Bead) "drilled" = some none)
    (aC_Lot : PySem.W.nsIn K mainGlobals "Lot" = some (some (.ref C_Lot)))
    (pg_Lot : PySem.W.plainGet K C_Lot Str.empty = true)
    (hd_Lot : PySem.W.hasDictIn K C_Lot = true)
    (po_Lot : PySem.W.plainOver K C_Lot = true)
    (sa_Lot : PySem.W.findIn K (.ref C_Lot) "__setattr__" = some (some (.builtin "object.__setattr__")))
    (mk_Lot : PySem.W.makesIn K C_Lot = true)
    (kc_Lot : PySem.W.keepIn K (.ref C_Lot) = true)
    (n_Lot_name : PySem.W.findIn K (.ref C_Lot) "name" = some none)
    (n_Lot_room : PySem.W.findIn K (.ref C_Lot) "room" = some none)
    (n_Lot_least : PySem.W.findIn K (.ref C_Lot) "least" = some none)
    (n_Lot_most : PySem.W.findIn K (.ref C_Lot) "most" = some none)
    (n_Lot_shades : PySem.W.findIn K (.ref C_Lot) "shades" = some none)
    (aC_PearlError : PySem.W.nsIn K mainGlobals "PearlError" = some (some (.ref C_PearlError)))
    (aC_BadBead : PySem.W.nsIn K mainGlobals "BadBead" = some (some (.ref C_BadBead)))
    (aC_BadRule : PySem.W.nsIn K mainGlobals "BadRule" = some (some (.ref C_BadRule)))
    (aC_BadDeed : PySem.W.nsIn K mainGlobals "BadDeed" = some (some (.ref C_BadDeed)))
    (aC_NoRow : PySem.W.nsIn K mainGlobals "NoRow" = some (some (.ref C_NoRow)))
    (aC_NotLet : PySem.W.nsIn K mainGlobals "NotLet" = some (some (.ref C_NotLet)))
    (aC_TooLate : PySem.W.nsIn K mainGlobals "TooLate" = some (some (.ref C_TooLate)))
    (aC_BadText : PySem.W.nsIn K mainGlobals "BadText" = some (some (.ref C_BadText)))
    (aC_BadLot : PySem.W.nsIn K mainGlobals "BadLot" = some (some (.ref C_BadLot)))
    (a0 : PySem.W.findIn K (.ref C_PearlError) "__init__" = some (some (.ref f0)))
    (i0 : PySem.W.isFn K (.ref f0) = true)
    (l0 : K.lookup f0 = some ⟨oc0, od0, .func (PySem.W.fnOf "__init__" "PearlError.__init__" (defArgs s_PearlError_init) (defBody s_PearlError_init) (defScope s_PearlError_init) (.ref T0) kV0 dc0 pm0 an0 cd0 ct0), sl0⟩)
    (d0 : K.lookup T0 = some ⟨oT0, dT0, .seq (List.toArray [.str "" td0_0]) nT0, sT0⟩)
    (c0 : PySem.W.codeIn K cd0 "PearlError.__init__" = true)
    (k0 : PySem.W.keepIn K (.ref f0) = true)
    (a1 : PySem.W.nsIn K mainGlobals "is_int" = some (some (.ref f1)))
    (l1 : K.lookup f1 = some ⟨oc1, od1, .func (PySem.W.fnOf "is_int" "is_int" (defArgs s_is_int) (defBody s_is_int) (defScope s_is_int) .none kV1 dc1 pm1 an1 cd1 ct1), sl1⟩)
    (c1 : PySem.W.codeIn K cd1 "is_int" = true)
    (k1 : PySem.W.keepIn K (.ref f1) = true)
    (a2 : PySem.W.nsIn K mainGlobals "is_whole" = some (some (.ref f2)))
    (l2 : K.lookup f2 = some ⟨oc2, od2, .func (PySem.W.fnOf "is_whole" "is_whole" (defArgs s_is_whole) (defBody s_is_whole) (defScope s_is_whole) .none kV2 dc2 pm2 an2 cd2 ct2), sl2⟩)
    (c2 : PySem.W.codeIn K cd2 "is_whole" = true)
    (k2 : PySem.W.keepIn K (.ref f2) = true)
    (a3 : PySem.W.nsIn K mainGlobals "is_name" = some (some (.ref f3)))
    (l3 : K.lookup f3 = some ⟨oc3, od3, .func (PySem.W.fnOf "is_name" "is_name" (defArgs s_is_name) (defBody s_is_name) (defScope s_is_name) .none kV3 dc3 pm3 an3 cd3 ct3), sl3⟩)
    (c3 : PySem.W.codeIn K cd3 "is_name" = true)
    (k3 : PySem.W.keepIn K (.ref f3) = true)
    (a4 : PySem.W.nsIn K mainGlobals "is_number" = some (some (.ref f4)))
    (l4 : K.lookup f4 = some ⟨oc4, od4, .func (PySem.W.fnOf "is_number" "is_number" (defArgs s_is_number) (defBody s_is_number) (defScope s_is_number) .none kV4 dc4 pm4 an4 cd4 ct4), sl4⟩)
    (c4 : PySem.W.codeIn K cd4 "is_number" = true)
    (k4 : PySem.W.keepIn K (.ref f4) = true)
    (a5 : PySem.W.nsIn K mainGlobals "is_measure" = some (some (.ref f5)))
    (l5 : K.lookup f5 = some ⟨oc5, od5, .func (PySem.W.fnOf "is_measure" "is_measure" (defArgs s_is_measure) (defBody s_is_measure) (defScope s_is_measure) .none kV5 dc5 pm5 an5 cd5 ct5), sl5⟩)
    (c5 : PySem.W.codeIn K cd5 "is_measure" = true)
    (k5 : PySem.W.keepIn K (.ref f5) = true)
    (a6 : PySem.W.findIn K (.ref C_Bead) "__init__" = some (some (.ref f6)))
    (i6 : PySem.W.isFn K (.ref f6) = true)
    (l6 : K.lookup f6 = some ⟨oc6, od6, .func (PySem.W.fnOf "__init__" "Bead.__init__" (defArgs s_Bead_init) (defBody s_Bead_init) (defScope s_Bead_init) (.ref T6) kV6 dc6 pm6 an6 cd6 ct6), sl6⟩)
    (d6 : K.lookup T6 = some ⟨oT6, dT6, .seq (List.toArray [.str "round" td6_0, .bool false]) nT6, sT6⟩)
    (c6 : PySem.W.codeIn K cd6 "Bead.__init__" = true)
    (k6 : PySem.W.keepIn K (.ref f6) = true)
    (a7 : PySem.W.nsIn K mainGlobals "are_shades" = some (some (.ref f7)))
    (l7 : K.lookup f7 = some ⟨oc7, od7, .func (PySem.W.fnOf "are_shades" "are_shades" (defArgs s_are_shades) (defBody s_are_shades) (defScope s_are_shades) .none kV7 dc7 pm7 an7 cd7 ct7), sl7⟩)
    (c7 : PySem.W.codeIn K cd7 "are_shades" = true)
    (k7 : PySem.W.keepIn K (.ref f7) = true)
    (a8 : PySem.W.findIn K (.ref C_Lot) "__init__" = some (some (.ref f8)))
    (i8 : PySem.W.isFn K (.ref f8) = true)
    (l8 : K.lookup f8 = some ⟨oc8, od8, .func (PySem.W.fnOf "__init__" "Lot.__init__" (defArgs s_Lot_init) (defBody s_Lot_init) (defScope s_Lot_init) (.ref T8) kV8 dc8 pm8 an8 cd8 ct8), sl8⟩)
    (d8 : K.lookup T8 = some ⟨oT8, dT8, .seq (List.toArray [.int 1 td8_0, .int 1000000 td8_1, .none]) nT8, sT8⟩)
    (c8 : PySem.W.codeIn K cd8 "Lot.__init__" = true)
    (k8 : PySem.W.keepIn K (.ref f8) = true)
    (a9 : PySem.W.findIn K (.ref C_Lot) "fits" = some (some (.ref f9)))
    (i9 : PySem.W.isFn K (.ref f9) = true)
    (l9 : K.lookup f9 = some ⟨oc9, od9, .func (PySem.W.fnOf "fits" "Lot.fits" (defArgs s_Lot_fits) (defBody s_Lot_fits) (defScope s_Lot_fits) .none kV9 dc9 pm9 an9 cd9 ct9), sl9⟩)
    (c9 : PySem.W.codeIn K cd9 "Lot.fits" = true)
    (k9 : PySem.W.keepIn K (.ref f9) = true)
    (a10 : PySem.W.findIn K (.ref C_Lot) "__len__" = some (some (.ref f10)))
    (i10 : PySem.W.isFn K (.ref f10) = true)
    (l10 : K.lookup f10 = some ⟨oc10, od10, .func (PySem.W.fnOf "__len__" "Lot.__len__" (defArgs s_Lot_len) (defBody s_Lot_len) (defScope s_Lot_len) .none kV10 dc10 pm10 an10 cd10 ct10), sl10⟩)
    (c10 : PySem.W.codeIn K cd10 "Lot.__len__" = true)
    (k10 : PySem.W.keepIn K (.ref f10) = true)
    (a11 : PySem.W.findIn K (.ref C_Lot) "__eq__" = some (some (.ref f11)))
    (i11 : PySem.W.isFn K (.ref f11) = true)
    (l11 : K.lookup f11 = some ⟨oc11, od11, .func (PySem.W.fnOf "__eq__" "Lot.__eq__" (defArgs s_Lot_eq) (defBody s_Lot_eq) (defScope s_Lot_eq) .none kV11 dc11 pm11 an11 cd11 ct11), sl11⟩)
    (c11 : PySem.W.codeIn K cd11 "Lot.__eq__" = true)
    (k11 : PySem.W.keepIn K (.ref f11) = true)
    (a12 : PySem.W.findIn K (.ref C_Lot) "__repr__" = some (some (.ref f12)))
    (i12 : PySem.W.isFn K (.ref f12) = true)
    (l12 : K.lookup f12 = some ⟨oc12, od12, .func (PySem.W.fnOf "__repr__" "Lot.__repr__" (defArgs s_Lot_repr) (defBody s_Lot_repr) (defScope s_Lot_repr) .none kV12 dc12 pm12 an12 cd12 ct12), sl12⟩)
    (c12 : PySem.W.codeIn K cd12 "Lot.__repr__" = true)
    (k12 : PySem.W.keepIn K (.ref f12) = true)
    (a13 : PySem.W.findIn K (.ref C_Lot) "__str__" = some (some (.ref f13)))
    (i13 : PySem.W.isFn K (.ref f13) = true)
    (l13 : K.lookup f13 = some ⟨oc13, od13, .func (PySem.W.fnOf "__str__" "Lot.__str__" (defArgs s_Lot_str) (defBody s_Lot_str) (defScope s_Lot_str) .none kV13 dc13 pm13 an13 cd13 ct13), sl13⟩)
    (c13 : PySem.W.codeIn K cd13 "Lot.__str__" = true)
    (k13 : PySem.W.keepIn K (.ref f13) = true)
    (a14 : PySem.W.nsIn K mainGlobals "_law_cell_at" = some (some (.ref f14)))
    (l14 : K.lookup f14 = some ⟨oc14, od14, .func (PySem.W.fnOf "_law_cell_at" "_law_cell_at" (defArgs s_cell_at) (defBody s_cell_at) (defScope s_cell_at) .none kV14 dc14 pm14 an14 cd14 ct14), sl14⟩)
    (c14 : PySem.W.codeIn K cd14 "_law_cell_at" = true)
    (k14 : PySem.W.keepIn K (.ref f14) = true)
    (a15 : PySem.W.nsIn K mainGlobals "_law_begin" = some (some (.ref f15)))
    (l15 : K.lookup f15 = some ⟨oc15, od15, .func (PySem.W.fnOf "_law_begin" "_law_begin" (defArgs s_begin) (defBody s_begin) (defScope s_begin) .none kV15 dc15 pm15 an15 cd15 ct15), sl15⟩)
    (c15 : PySem.W.codeIn K cd15 "_law_begin" = true)
    (k15 : PySem.W.keepIn K (.ref f15) = true)
    (a16 : PySem.W.nsIn K mainGlobals "_law_draw" = some (some (.ref f16)))
    (l16 : K.lookup f16 = some ⟨oc16, od16, .func (PySem.W.fnOf "_law_draw" "_law_draw" (defArgs s_draw) (defBody s_draw) (defScope s_draw) .none kV16 dc16 pm16 an16 cd16 ct16), sl16⟩)
    (c16 : PySem.W.codeIn K cd16 "_law_draw" = true)
    (k16 : PySem.W.keepIn K (.ref f16) = true)
    (a17 : PySem.W.nsIn K mainGlobals "_law_one" = some (some (.ref f17)))
    (l17 : K.lookup f17 = some ⟨oc17, od17, .func (PySem.W.fnOf "_law_one" "_law_one" (defArgs s_one) (defBody s_one) (defScope s_one) .none kV17 dc17 pm17 an17 cd17 ct17), sl17⟩)
    (c17 : PySem.W.codeIn K cd17 "_law_one" = true)
    (k17 : PySem.W.keepIn K (.ref f17) = true)
    (a18 : PySem.W.nsIn K mainGlobals "_law_names" = some (some (.ref f18)))
    (l18 : K.lookup f18 = some ⟨oc18, od18, .func (PySem.W.fnOf "_law_names" "_law_names" (defArgs s_names) (defBody s_names) (defScope s_names) .none kV18 dc18 pm18 an18 cd18 ct18), sl18⟩)
    (c18 : PySem.W.codeIn K cd18 "_law_names" = true)
    (k18 : PySem.W.keepIn K (.ref f18) = true)
    (a19 : PySem.W.nsIn K mainGlobals "_law_parts" = some (some (.ref f19)))
    (l19 : K.lookup f19 = some ⟨oc19, od19, .func (PySem.W.fnOf "_law_parts" "_law_parts" (defArgs s_parts) (defBody s_parts) (defScope s_parts) .none kV19 dc19 pm19 an19 cd19 ct19), sl19⟩)
    (c19 : PySem.W.codeIn K cd19 "_law_parts" = true)
    (k19 : PySem.W.keepIn K (.ref f19) = true)
    (a20 : PySem.W.nsIn K mainGlobals "_law_made" = some (some (.ref f20)))
    (l20 : K.lookup f20 = some ⟨oc20, od20, .func (PySem.W.fnOf "_law_made" "_law_made" (defArgs s_made) (defBody s_made) (defScope s_made) .none kV20 dc20 pm20 an20 cd20 ct20), sl20⟩)
    (c20 : PySem.W.codeIn K cd20 "_law_made" = true)
    (k20 : PySem.W.keepIn K (.ref f20) = true)
    (a21 : PySem.W.nsIn K mainGlobals "_law_repr" = some (some (.ref f21)))
    (l21 : K.lookup f21 = some ⟨oc21, od21, .func (PySem.W.fnOf "_law_repr" "_law_repr" (defArgs s_repr) (defBody s_repr) (defScope s_repr) .none kV21 dc21 pm21 an21 cd21 ct21), sl21⟩)
    (c21 : PySem.W.codeIn K cd21 "_law_repr" = true)
    (k21 : PySem.W.keepIn K (.ref f21) = true)
    (a22 : PySem.W.nsIn K mainGlobals "_law_str" = some (some (.ref f22)))
    (l22 : K.lookup f22 = some ⟨oc22, od22, .func (PySem.W.fnOf "_law_str" "_law_str" (defArgs s_str) (defBody s_str) (defScope s_str) .none kV22 dc22 pm22 an22 cd22 ct22), sl22⟩)
    (c22 : PySem.W.codeIn K cd22 "_law_str" = true)
    (k22 : PySem.W.keepIn K (.ref f22) = true)
    (a23 : PySem.W.nsIn K mainGlobals "_law_odd_name" = some (some (.ref f23)))
    (l23 : K.lookup f23 = some ⟨oc23, od23, .func (PySem.W.fnOf "_law_odd_name" "_law_odd_name" (defArgs s_odd_name) (defBody s_odd_name) (defScope s_odd_name) .none kV23 dc23 pm23 an23 cd23 ct23), sl23⟩)
    (c23 : PySem.W.codeIn K cd23 "_law_odd_name" = true)
    (k23 : PySem.W.keepIn K (.ref f23) = true)
    (a24 : PySem.W.nsIn K mainGlobals "_law_odd_number" = some (some (.ref f24)))
    (l24 : K.lookup f24 = some ⟨oc24, od24, .func (PySem.W.fnOf "_law_odd_number" "_law_odd_number" (defArgs s_odd_number) (defBody s_odd_number) (defScope s_odd_number) .none kV24 dc24 pm24 an24 cd24 ct24), sl24⟩)
    (c24 : PySem.W.codeIn K cd24 "_law_odd_number" = true)
    (k24 : PySem.W.keepIn K (.ref f24) = true)
    (a25 : PySem.W.nsIn K mainGlobals "_law_odd_parts" = some (some (.ref f25)))
    (l25 : K.lookup f25 = some ⟨oc25, od25, .func (PySem.W.fnOf "_law_odd_parts" "_law_odd_parts" (defArgs s_odd_parts) (defBody s_odd_parts) (defScope s_odd_parts) .none kV25 dc25 pm25 an25 cd25 ct25), sl25⟩)
    (c25 : PySem.W.codeIn K cd25 "_law_odd_parts" = true)
    (k25 : PySem.W.keepIn K (.ref f25) = true)
    (a26 : PySem.W.nsIn K mainGlobals "_law_is_refused" = some (some (.ref f26)))
    (l26 : K.lookup f26 = some ⟨oc26, od26, .func (PySem.W.fnOf "_law_is_refused" "_law_is_refused" (defArgs s_is_refused) (defBody s_is_refused) (defScope s_is_refused) .none kV26 dc26 pm26 an26 cd26 ct26), sl26⟩)
    (c26 : PySem.W.codeIn K cd26 "_law_is_refused" = true)
    (k26 : PySem.W.keepIn K (.ref f26) = true)
    (a27 : PySem.W.nsIn K mainGlobals "_law_other_parts" = some (some (.ref f27)))
    (l27 : K.lookup f27 = some ⟨oc27, od27, .func (PySem.W.fnOf "_law_other_parts" "_law_other_parts" (defArgs s_other_parts) (defBody s_other_parts) (defScope s_other_parts) .none kV27 dc27 pm27 an27 cd27 ct27), sl27⟩)
    (c27 : PySem.W.codeIn K cd27 "_law_other_parts" = true)
    (k27 : PySem.W.keepIn K (.ref f27) = true)
    (a28 : PySem.W.nsIn K mainGlobals "_law_fits_right" = some (some (.ref f28)))
    (l28 : K.lookup f28 = some ⟨oc28, od28, .func (PySem.W.fnOf "_law_fits_right" "_law_fits_right" (defArgs s_fits_right) (defBody s_fits_right) (defScope s_fits_right) .none kV28 dc28 pm28 an28 cd28 ct28), sl28⟩)
    (c28 : PySem.W.codeIn K cd28 "_law_fits_right" = true)
    (k28 : PySem.W.keepIn K (.ref f28) = true)
    (a29 : PySem.W.nsIn K mainGlobals "law" = some (some (.ref f29)))
    (l29 : K.lookup f29 = some ⟨oc29, od29, .func (PySem.W.fnOf "law" "law" (defArgs s_law) (defBody s_law) (defScope s_law) .none kV29 dc29 pm29 an29 cd29 ct29), sl29⟩)
    (c29 : PySem.W.codeIn K cd29 "law" = true)
    (k29 : PySem.W.keepIn K (.ref f29) = true)
    (q0 : PySem.W.nsIn K mainGlobals "LONGEST_NAME" = some (some (.int 8 tc0)))
    (q1 : PySem.W.nsIn K mainGlobals "GREATEST_NUMBER" = some (some (.int 1000000000 tc1)))
    (q2 : PySem.W.nsIn K mainGlobals "GREATEST_MEASURE" = some (some (.int 1000000 tc2)))
    (q3 : PySem.W.nsIn K mainGlobals "MOST_ROOM" = some (some (.int 20 tc3)))
    (z0 : PySem.W.nsIn K mainGlobals "ValueError" = some none)
    (z1 : PySem.W.nsIn K mainGlobals "bool" = some none)
    (z2 : PySem.W.nsIn K mainGlobals "isinstance" = some none)
    (z3 : PySem.W.nsIn K mainGlobals "int" = some none)
    (z4 : PySem.W.nsIn K mainGlobals "len" = some none)
    (z5 : PySem.W.nsIn K mainGlobals "str" = some none)
    (z6 : PySem.W.nsIn K mainGlobals "all" = some none)
    (z7 : PySem.W.nsIn K mainGlobals "tuple" = some none)
    (z8 : PySem.W.nsIn K mainGlobals "set" = some none)
    (z9 : PySem.W.nsIn K mainGlobals "range" = some none)
    (z10 : PySem.W.nsIn K mainGlobals "sorted" = some none)
    (z11 : PySem.W.nsIn K mainGlobals "list" = some none)
    (z12 : PySem.W.nsIn K mainGlobals "repr" = some none)
    (xL_BadLot : K.lookup C_BadLot = some (excClassObj nm_BadLot q_BadLot C_BadLot N_BadLot bs_BadLot [.ref C_PearlError, .type "ValueError", .type "Exception", .type "BaseException", .type "object"] true sn_BadLot sub_BadLot ab_BadLot col_BadLot dd_BadLot m0_BadLot m1_BadLot m2_BadLot m3_BadLot m5_BadLot "ValueError.__new__"))
    (xsa_BadLot : PySem.W.findIn K (.ref C_BadLot) "__setattr__" = some (some (.builtin "object.__setattr__")))
    (xe_BadLot : PySem.W.subIn K (.ref C_BadLot) (.type "BaseException") = some true)
    (xt_BadLot : PySem.W.typeIn K (.ref C_BadLot) = some (.type "type"))
    (xk_BadLot : PySem.W.keepIn K (.ref C_BadLot) = true)
    (xi_BadLot : PySem.W.findIn K (.ref C_BadLot) "__init__" = some (some (.ref f0)))
    (xga_BadLot : PySem.W.findIn K (.ref C_BadLot) "__getattribute__" = some (some (.builtin "BaseException.__getattribute__")))
    (xgg_BadLot : PySem.W.findIn K (.ref C_BadLot) "__getattr__" = some none)
    (xhd_BadLot : PySem.W.hasDictIn K C_BadLot = true)
    (xca_BadLot : PySem.W.findIn K (.ref C_BadLot) "__class__" = some (some (.builtin "object.__class__")))
    (xcg_BadLot : PySem.W.specialIn K (.builtin "object.__class__") "__get__" = some (some (.builtin "getset_descriptor.__get__")))
    (xct_BadLot : PySem.W.takesIn K (.builtin "object.__class__") = some true)
    (xmo_BadLot : PySem.W.mroIn K C_BadLot (.type "object") = some true)
    (xn_BadLot_why : PySem.W.findIn K (.ref C_BadLot) "why" = some none)
    (xs_BadLot_PearlError : PySem.W.subIn K (.ref C_BadLot) (.ref C_PearlError) = some true)
    (ye_PearlError : PySem.W.subIn K (.ref C_PearlError) (.type "BaseException") = some true)
    (yh_PearlError : PySem.W.hasDictIn K C_PearlError = true)
    (yt_PearlError : PySem.W.typeIn K (.ref C_PearlError) = some (.type "type"))
    (vV : PySem.W.findCls K (.type "ValueError") (.type "type") "__init__" = some (.val (.builtin "ValueError.__init__")))
    (ki_ve : PySem.W.kitOne K (.ref C_BadLot) (.type "ValueError") = some true)
    (ki_no : PySem.W.kitAny K (.ref C_BadLot) [.ref C_BadBead, .ref C_BadDeed, .ref C_BadRule, .ref C_BadText, .ref C_NoRow, .ref C_NotLet, .ref C_TooLate] = some false)
    (ir1_Lot : PySem.W.findIn K (.ref C_Lot) "__class__" = some (some (.builtin "object.__class__")))
    (ir4_Lot : PySem.W.mroIn K C_Lot (.type "object") = some true)
    (ir1_Bead : PySem.W.findIn K (.ref C_Bead) "__class__" = some (some (.builtin "object.__class__")))
    (ir4_Bead : PySem.W.mroIn K C_Bead (.type "object") = some true)
    (xcg : PySem.W.specialIn K (.builtin "object.__class__") "__get__" = some (some (.builtin "getset_descriptor.__get__")))
    (xct : PySem.W.takesIn K (.builtin "object.__class__") = some true)
    (hne_Lot : PySem.W.findIn K (.ref C_Lot) "__ne__" = some (some (.builtin "object.__ne__")))
    (su_LB : PySem.W.subIn K (.ref C_Bead) (.ref C_Lot) = some false)
    (no_LB : PySem.W.kitOne K (.ref C_Bead) (.ref C_Lot) = some false)
    (sn_int : PySem.W.subIn K (.ref C_Lot) (.type "int") = some false)
    (su_int : PySem.W.subIn K (.type "int") (.ref C_Lot) = some false)
    (no_int : PySem.W.kitOne K (.type "int") (.ref C_Lot) = some false)
    (sn_str : PySem.W.subIn K (.ref C_Lot) (.type "str") = some false)
    (su_str : PySem.W.subIn K (.type "str") (.ref C_Lot) = some false)
    (no_str : PySem.W.kitOne K (.type "str") (.ref C_Lot) = some false)
    (sn_bool : PySem.W.subIn K (.ref C_Lot) (.type "bool") = some false)
    (su_bool : PySem.W.subIn K (.type "bool") (.ref C_Lot) = some false)
    (no_bool : PySem.W.kitOne K (.type "bool") (.ref C_Lot) = some false)
    (sn_NoneType : PySem.W.subIn K (.ref C_Lot) (.type "NoneType") = some false)
    (su_NoneType : PySem.W.subIn K (.type "NoneType") (.ref C_Lot) = some false)
    (no_NoneType : PySem.W.kitOne K (.type "NoneType") (.ref C_Lot) = some false)
    (sn_list : PySem.W.subIn K (.ref C_Lot) (.type "list") = some false)
    (su_list : PySem.W.subIn K (.type "list") (.ref C_Lot) = some false)
    (no_list : PySem.W.kitOne K (.type "list") (.ref C_Lot) = some false)
    (sn_tuple : PySem.W.subIn K (.ref C_Lot) (.type "tuple") = some false)
    (su_tuple : PySem.W.subIn K (.type "tuple") (.ref C_Lot) = some false)
    (no_tuple : PySem.W.kitOne K (.type "tuple") (.ref C_Lot) = some false) :
    ∃ fd : FuncData, (∀ (s : Shared) (v : Value), BindsTo s fd ⟨[v], []⟩ [("_law_script", v)]) ∧ ∀ base : Heap, K.In base → base.Ns mainGlobals mg → FnG l.prog w K mg base CX0 17 fa fd ["_law_script"] (spLaw K) := by
  have e := hfa.symm.trans (PySem.W.mg_of X G a29)
  cases e
  have F0 : FunD K "__init__" "PearlError.__init__" (defArgs s_PearlError_init) (defBody s_PearlError_init) (defScope s_PearlError_init) [.str ""] [] f0 (PySem.W.fnOf "__init__" "PearlError.__init__" (defArgs s_PearlError_init) (defBody s_PearlError_init) (defScope s_PearlError_init) (.ref T0) kV0 dc0 pm0 an0 cd0 ct0) := ⟨⟨_, _, _, _, _, _, _, _, _, _, rfl, l0, c0, .inr ⟨(fun z => nomatch z), _, _, _, _, rfl, d0, rfl, .cons ⟨_, rfl⟩ (.nil)⟩, .inl rfl⟩, k0⟩
  have F1 := fun_mk (st := s_is_int) l1 c1 k1
  have F2 := fun_mk (st := s_is_whole) l2 c2 k2
  have F3 := fun_mk (st := s_is_name) l3 c3 k3
  have F4 := fun_mk (st := s_is_number) l4 c4 k4
  have F5 := fun_mk (st := s_is_measure) l5 c5 k5
  have F6 : FunD K "__init__" "Bead.__init__" (defArgs s_Bead_init) (defBody s_Bead_init) (defScope s_Bead_init) [.str "round", .bl false] [] f6 (PySem.W.fnOf "__init__" "Bead.__init__" (defArgs s_Bead_init) (defBody s_Bead_init) (defScope s_Bead_init) (.ref T6) kV6 dc6 pm6 an6 cd6 ct6) := ⟨⟨_, _, _, _, _, _, _, _, _, _, rfl, l6, c6, .inr ⟨(fun z => nomatch z), _, _, _, _, rfl, d6, rfl, .cons ⟨_, rfl⟩ (.cons rfl (.nil))⟩, .inl rfl⟩, k6⟩
  have F7 := fun_mk (st := s_are_shades) l7 c7 k7
  have F8 : FunD K "__init__" "Lot.__init__" (defArgs s_Lot_init) (defBody s_Lot_init) (defScope s_Lot_init) [.int 1, .int 1000000, .non] [] f8 (PySem.W.fnOf "__init__" "Lot.__init__" (defArgs s_Lot_init) (defBody s_Lot_init) (defScope s_Lot_init) (.ref T8) kV8 dc8 pm8 an8 cd8 ct8) := ⟨⟨_, _, _, _, _, _, _, _, _, _, rfl, l8, c8, .inr ⟨(fun z => nomatch z), _, _, _, _, rfl, d8, rfl, .cons ⟨_, rfl⟩ (.cons ⟨_, rfl⟩ (.cons rfl (.nil)))⟩, .inl rfl⟩, k8⟩
  have F9 := fun_mk (st := s_Lot_fits) l9 c9 k9
  have F10 := fun_mk (st := s_Lot_len) l10 c10 k10
  have F11 := fun_mk (st := s_Lot_eq) l11 c11 k11
  have F12 := fun_mk (st := s_Lot_repr) l12 c12 k12
  have F13 := fun_mk (st := s_Lot_str) l13 c13 k13
  have F14 := fun_mk (st := s_cell_at) l14 c14 k14
  have F15 := fun_mk (st := s_begin) l15 c15 k15
  have F16 := fun_mk (st := s_draw) l16 c16 k16
  have F17 := fun_mk (st := s_one) l17 c17 k17
  have F18 := fun_mk (st := s_names) l18 c18 k18
  have F19 := fun_mk (st := s_parts) l19 c19 k19
  have F20 := fun_mk (st := s_made) l20 c20 k20
  have F21 := fun_mk (st := s_repr) l21 c21 k21
  have F22 := fun_mk (st := s_str) l22 c22 k22
  have F23 := fun_mk (st := s_odd_name) l23 c23 k23
  have F24 := fun_mk (st := s_odd_number) l24 c24 k24
  have F25 := fun_mk (st := s_odd_parts) l25 c25 k25
  have F26 := fun_mk (st := s_is_refused) l26 c26 k26
  have F27 := fun_mk (st := s_other_parts) l27 c27 k27
  have F28 := fun_mk (st := s_fits_right) l28 c28 k28
  have F29 := fun_mk (st := s_law) l29 c29 k29
  have b0 : Binds K (PySem.W.fnOf "__init__" "PearlError.__init__" (defArgs s_PearlError_init) (defBody s_PearlError_init) (defScope s_PearlError_init) (.ref T0) kV0 dc0 pm0 an0 cd0 ct0) ["self", "why"] [] := by
    obtain ⟨ds, hv, hb⟩ := F0.binds1 (ps := ["self", "why"]) 2 1 (fun z => nomatch z) rfl fun _ _ _ _ _ _ _ us its h1 h2 => match us, its, h1, h2 with | [_, _], [_], _, _ => ⟨_, rfl, rfl⟩
    cases hv
    exact hb
  have b1 := F1.binds (ps := ["thing"]) fun _ _ _ _ _ _ us hl => match us, hl with | [_], _ => rfl
  have b2 := F2.binds (ps := ["thing", "least", "most"]) fun _ _ _ _ _ _ us hl => match us, hl with | [_, _, _], _ => rfl
  have b3 := F3.binds (ps := ["thing"]) fun _ _ _ _ _ _ us hl => match us, hl with | [_], _ => rfl
  have b4 := F4.binds (ps := ["thing"]) fun _ _ _ _ _ _ us hl => match us, hl with | [_], _ => rfl
  have b5 := F5.binds (ps := ["thing"]) fun _ _ _ _ _ _ us hl => match us, hl with | [_], _ => rfl
  have b6 : Binds K (PySem.W.fnOf "__init__" "Bead.__init__" (defArgs s_Bead_init) (defBody s_Bead_init) (defScope s_Bead_init) (.ref T6) kV6 dc6 pm6 an6 cd6 ct6) ["self", "number", "across", "weight", "shade", "form", "drilled"] [] := by
    obtain ⟨ds, hv, hb⟩ := F6.binds1 (ps := ["self", "number", "across", "weight", "shade", "form", "drilled"]) 7 2 (fun z => nomatch z) rfl fun _ _ _ _ _ _ _ us its h1 h2 => match us, its, h1, h2 with | [_, _, _, _, _, _, _], [_, _], _, _ => ⟨_, rfl, rfl⟩
    cases hv
    exact hb
  have b7 := F7.binds (ps := ["thing"]) fun _ _ _ _ _ _ us hl => match us, hl with | [_], _ => rfl
  have b8 : Binds K (PySem.W.fnOf "__init__" "Lot.__init__" (defArgs s_Lot_init) (defBody s_Lot_init) (defScope s_Lot_init) (.ref T8) kV8 dc8 pm8 an8 cd8 ct8) ["self", "name", "room", "least", "most", "shades"] [] := by
    obtain ⟨ds, hv, hb⟩ := F8.binds1 (ps := ["self", "name", "room", "least", "most", "shades"]) 6 3 (fun z => nomatch z) rfl fun _ _ _ _ _ _ _ us its h1 h2 => match us, its, h1, h2 with | [_, _, _, _, _, _], [_, _, _], _, _ => ⟨_, rfl, rfl⟩
    cases hv
    exact hb
  have b9 := F9.binds (ps := ["self", "bead"]) fun _ _ _ _ _ _ us hl => match us, hl with | [_, _], _ => rfl
  have b10 := F10.binds (ps := ["self"]) fun _ _ _ _ _ _ us hl => match us, hl with | [_], _ => rfl
  have b11 := F11.binds (ps := ["self", "other"]) fun _ _ _ _ _ _ us hl => match us, hl with | [_, _], _ => rfl
  have b12 := F12.binds (ps := ["self"]) fun _ _ _ _ _ _ us hl => match us, hl with | [_], _ => rfl
  have b13 := F13.binds (ps := ["self"]) fun _ _ _ _ _ _ us hl => match us, hl with | [_], _ => rfl
  have b14 := F14.binds (ps := ["_law_script", "_law_k"]) fun _ _ _ _ _ _ us hl => match us, hl with | [_, _], _ => rfl
  have b15 := F15.binds (ps := ["_law_cell"]) fun _ _ _ _ _ _ us hl => match us, hl with | [_], _ => rfl
  have b16 := F16.binds (ps := ["_law_source", "_law_many"]) fun _ _ _ _ _ _ us hl => match us, hl with | [_, _], _ => rfl
  have b17 := F17.binds (ps := ["_law_source", "_law_some"]) fun _ _ _ _ _ _ us hl => match us, hl with | [_, _], _ => rfl
  have b18 := F18.binds (ps := ["_law_source", "_law_many"]) fun _ _ _ _ _ _ us hl => match us, hl with | [_, _], _ => rfl
  have b19 := F19.binds (ps := ["_law_source"]) fun _ _ _ _ _ _ us hl => match us, hl with | [_], _ => rfl
  have b20 := F20.binds (ps := ["_law_source", "_law_parts_here"]) fun _ _ _ _ _ _ us hl => match us, hl with | [_, _], _ => rfl
  have b21 := F21.binds (ps := ["_law_parts_here"]) fun _ _ _ _ _ _ us hl => match us, hl with | [_], _ => rfl
  have b22 := F22.binds (ps := ["_law_parts_here"]) fun _ _ _ _ _ _ us hl => match us, hl with | [_], _ => rfl
  have b23 := F23.binds (ps := ["_law_source", "_law_called"]) fun _ _ _ _ _ _ us hl => match us, hl with | [_, _], _ => rfl
  have b24 := F24.binds (ps := ["_law_source", "_law_low", "_law_high"]) fun _ _ _ _ _ _ us hl => match us, hl with | [_, _, _], _ => rfl
  have b25 := F25.binds (ps := ["_law_source", "_law_parts_here"]) fun _ _ _ _ _ _ us hl => match us, hl with | [_, _], _ => rfl
  have b26 := F26.binds (ps := ["_law_parts_here"]) fun _ _ _ _ _ _ us hl => match us, hl with | [_], _ => rfl
  have b27 := F27.binds (ps := ["_law_source", "_law_parts_here"]) fun _ _ _ _ _ _ us hl => match us, hl with | [_, _], _ => rfl
  have b28 := F28.binds (ps := ["_law_source", "_law_lot", "_law_parts_here"]) fun _ _ _ _ _ _ us hl => match us, hl with | [_, _, _], _ => rfl
  obtain ⟨i_kb_1, h_kb_1⟩ := F8.kbindsD (ps := ["self", "name", "room", "least", "most", "shades"]) 1 ["shades", "most", "least", "room", "name"] (fun us its ws => kw [(0, 0), (2, 4), (2, 3), (2, 2), (2, 1), (2, 0)] us its ws) (fun z => nomatch z) (fun r1 r2 r3 => kw_rel _ r1 r2 r3) (fun _ _ _ _ _ _ _ us its ws h1 h2 h3 => match us, its, ws, h1, h2, h3 with | [_], [_, _, _], [_, _, _, _, _], _, _, _ => ⟨_, rfl, rfl⟩)
  obtain ⟨i_kb_2, h_kb_2⟩ := F8.kbindsD (ps := ["self", "name", "room", "least", "most", "shades"]) 3 ["most", "least", "shades"] (fun us its ws => kw [(0, 0), (0, 1), (0, 2), (2, 1), (2, 0), (2, 2)] us its ws) (fun z => nomatch z) (fun r1 r2 r3 => kw_rel _ r1 r2 r3) (fun _ _ _ _ _ _ _ us its ws h1 h2 h3 => match us, its, ws, h1, h2, h3 with | [_, _, _], [_, _, _], [_, _, _], _, _, _ => ⟨_, rfl, rfl⟩)
  obtain ⟨i_kb_3, h_kb_3⟩ := F8.kbindsD (ps := ["self", "name", "room", "least", "most", "shades"]) 3 ["most", "shades", "least"] (fun us its ws => kw [(0, 0), (0, 1), (0, 2), (2, 2), (2, 0), (2, 1)] us its ws) (fun z => nomatch z) (fun r1 r2 r3 => kw_rel _ r1 r2 r3) (fun _ _ _ _ _ _ _ us its ws h1 h2 h3 => match us, its, ws, h1, h2, h3 with | [_, _, _], [_, _, _], [_, _, _], _, _, _ => ⟨_, rfl, rfl⟩)
  obtain ⟨ds_Lot, hd_Lot_, bd_Lot⟩ := F8.binds1 (ps := ["self", "name", "room", "least", "most", "shades"]) 3 0 (fun z => nomatch z) rfl fun _ _ _ _ _ _ _ us its h1 h2 => match us, its, h1, h2 with | [_, _, _], [_, _, _], _, _ => ⟨_, rfl, rfl⟩
  obtain ⟨ds_Bead, hd_Bead_, bd_Bead⟩ := F6.binds1 (ps := ["self", "number", "across", "weight", "shade", "form", "drilled"]) 5 0 (fun z => nomatch z) rfl fun _ _ _ _ _ _ _ us its h1 h2 => match us, its, h1, h2 with | [_, _, _, _, _], [_, _], _, _ => ⟨_, rfl, rfl⟩
  let T : Tx K mg := ⟨C_Bead, ⟨pg_Bead, hd_Bead, po_Bead, sa_Bead⟩, PySem.W.mg_of X G aC_Bead, n_Bead_number, n_Bead_across, n_Bead_weight, n_Bead_shade, n_Bead_form, n_Bead_drilled,
    C_Lot, ⟨pg_Lot, hd_Lot, po_Lot, sa_Lot⟩, PySem.W.mg_of X G aC_Lot, n_Lot_name, n_Lot_room, n_Lot_least, n_Lot_most, n_Lot_shades,
    _, _, F0, b0,
    _, _, F1, PySem.W.mg_of X G a1, b1,
    _, _, F2, PySem.W.mg_of X G a2, b2,
    _, _, F3, PySem.W.mg_of X G a3, b3,
    _, _, F4, PySem.W.mg_of X G a4, b4,
    _, _, F5, PySem.W.mg_of X G a5, b5,
    _, _, F6, ⟨mk_Bead, a6, i6, kc_Bead⟩, b6,
    _, _, F7, PySem.W.mg_of X G a7, b7,
    _, _, F8, ⟨mk_Lot, a8, i8, kc_Lot⟩, b8,
    _, _, F9, ⟨a9, i9, k9⟩, b9,
    _, _, F10, ⟨a10, i10, k10⟩, b10,
    _, _, F11, ⟨a11, i11, k11⟩, b11,
    _, _, F12, ⟨a12, i12, k12⟩, b12,
    _, _, F13, ⟨a13, i13, k13⟩, b13,
    _, _, F14, PySem.W.mg_of X G a14, b14,
    _, _, F15, PySem.W.mg_of X G a15, b15,
    _, _, F16, PySem.W.mg_of X G a16, b16,
    _, _, F17, PySem.W.mg_of X G a17, b17,
    _, _, F18, PySem.W.mg_of X G a18, b18,
    _, _, F19, PySem.W.mg_of X G a19, b19,
    _, _, F20, PySem.W.mg_of X G a20, b20,
    _, _, F21, PySem.W.mg_of X G a21, b21,
    _, _, F22, PySem.W.mg_of X G a22, b22,
    _, _, F23, PySem.W.mg_of X G a23, b23,
    _, _, F24, PySem.W.mg_of X G a24, b24,
    _, _, F25, PySem.W.mg_of X G a25, b25,
    _, _, F26, PySem.W.mg_of X G a26, b26,
    _, _, F27, PySem.W.mg_of X G a27, b27,
    _, _, F28, PySem.W.mg_of X G a28, b28,
    C_PearlError, PySem.W.mg_of X G aC_PearlError,
    C_BadBead, PySem.W.mg_of X G aC_BadBead,
    C_BadRule, PySem.W.mg_of X G aC_BadRule,
    C_BadDeed, PySem.W.mg_of X G aC_BadDeed,
    C_NoRow, PySem.W.mg_of X G aC_NoRow,
    C_NotLet, PySem.W.mg_of X G aC_NotLet,
    C_TooLate, PySem.W.mg_of X G aC_TooLate,
    C_BadText, PySem.W.mg_of X G aC_BadText,
    C_BadLot, PySem.W.mg_of X G aC_BadLot,
    ⟨⟨nm_BadLot, q_BadLot, N_BadLot, bs_BadLot, _, sn_BadLot, sub_BadLot, ab_BadLot, col_BadLot, dd_BadLot, m0_BadLot, m1_BadLot, m2_BadLot, m3_BadLot, m5_BadLot, xL_BadLot, rfl⟩, xsa_BadLot, xe_BadLot, xt_BadLot, xk_BadLot⟩,
    xi_BadLot, beq_iff_eq.mp i0,
    ⟨xga_BadLot, xgg_BadLot, xe_BadLot, xhd_BadLot, xca_BadLot, xcg_BadLot, xct_BadLot, xmo_BadLot⟩,
    xn_BadLot_why,
    PySem.W.exm_ref ye_PearlError yh_PearlError yt_PearlError xs_BadLot_PearlError,
    vV,
    i_kb_1,
    h_kb_1,
    i_kb_2,
    h_kb_2,
    i_kb_3,
    h_kb_3,
    ds_Lot,
    hd_Lot_,
    bd_Lot,
    ds_Bead,
    hd_Bead_,
    bd_Bead,
    ki_ve,
    ki_no,
    (if_pos (beq_self_eq_true _)),
    ⟨ir1_Lot, xcg, xct, ir4_Lot, if_pos (beq_self_eq_true _)⟩,
    ⟨ir1_Bead, xcg, xct, ir4_Bead, if_pos (beq_self_eq_true _)⟩,
    (if_pos (beq_self_eq_true _)),
    ir4_Lot,
    hne_Lot,
    no_LB,
    (by simp [PySem.W.notFirst, su_LB]),
    sn_int,
    (by simp [PySem.W.notFirst, su_int]),
    no_int,
    sn_str,
    (by simp [PySem.W.notFirst, su_str]),
    no_str,
    sn_bool,
    (by simp [PySem.W.notFirst, su_bool]),
    no_bool,
    sn_NoneType,
    (by simp [PySem.W.notFirst, su_NoneType]),
    no_NoneType,
    sn_list,
    (by simp [PySem.W.notFirst, su_list]),
    no_list,
    sn_tuple,
    (by simp [PySem.W.notFirst, su_tuple]),
    no_tuple,
    _, PySem.W.mg_of X G q0,
    _, PySem.W.mg_of X G q1,
    _, PySem.W.mg_of X G q2,
    _, PySem.W.mg_of X G q3,
    PySem.W.mg_none_of X G z0,
    PySem.W.mg_none_of X G z1,
    PySem.W.mg_none_of X G z2,
    PySem.W.mg_none_of X G z3,
    PySem.W.mg_none_of X G z4,
    PySem.W.mg_none_of X G z5,
    PySem.W.mg_none_of X G z6,
    PySem.W.mg_none_of X G z7,
    PySem.W.mg_none_of X G z8,
    PySem.W.mg_none_of X G z9,
    PySem.W.mg_none_of X G z10,
    PySem.W.mg_none_of X G z11,
    PySem.W.mg_none_of X G z12⟩
  exact ⟨PySem.W.fnOf "law" "law" (defArgs s_law) (defBody s_law) (defScope s_law) .none kV29 dc29 pm29 an29 cd29 ct29, fun s v => .of_eq rfl, fun base _ _ => ok_law T F29⟩
end KB
open PySem PySem.W PyProof.Rows
set_option maxRecDepth 100000 in
set_option maxHeartbeats 0 in
theorem PySem.Challenge.cw_pearlrise_k45_lots_made_and_shown_holds : PySem.Challenge.rw_pearlrise_k45_lots_made_and_shown.Holds := by
  w_on; o_law; k_head; (case hw => w_witness2)
  k_fill
  refine KA.walk_G (l := PySem.Challenge.rw_pearlrise_k45_lots_made_and_shown) (n := 63) (k := 17) (x := "_law_script") (CX := fun _ => L2.CX0) (sp := fun w => KB.spLaw _) rfl (by decide) rfl ⟨rfl, by decide, by decide⟩ (fun w h Y => PySem.W.kIn_of Y) ?F (fun _ _ a ns hl _ hS => ⟨a, ns, rfl, hS, hl, fun _ => rfl⟩) (fun _ _ _ _ _ h => h)
  case F =>
    intro w mg fa h KX G hmg
    refine' KB.all_mk KX G hmg ?aC_Bead ?pg_Bead ?hd_Bead ?po_Bead ?sa_Bead ?mk_Bead ?kc_Bead ?n_Bead_number ?n_Bead_across ?n_Bead_weight ?n_Bead_shade ?n_Bead_form ?n_Bead_drilled ?aC_Lot ?pg_Lot ?hd_Lot ?po_Lot ?sa_Lot ?mk_Lot ?kc_Lot ?n_Lot_name ?n_Lot_room ?n_Lot_least ?n_Lot_most ?n_Lot_shades ?aC_PearlError ?aC_BadBead ?aC_BadRule ?aC_BadDeed ?aC_NoRow ?aC_NotLet ?aC_TooLate ?aC_BadText ?aC_BadLot ?a0 ?i0 ?l0 ?d0 ?c0 ?k0 ?a1 ?l1 ?c1 ?k1 ?a2 ?l2 ?c2 ?k2 ?a3 ?l3 ?c3 ?k3 ?a4 ?l4 ?c4 ?k4 ?a5 ?l5 ?c5 ?k5 ?a6 ?i6 ?l6 ?d6 ?c6 ?k6 ?a7 ?l7 ?c7 ?k7 ?a8 ?i8 ?l8 ?d8 ?c8 ?k8 ?a9 ?i9 ?l9 ?c9 ?k9 ?a10 ?i10 ?l10 ?c10 ?k10 ?a11 ?i11 ?l11 ?c11 ?k11 ?a12 ?i12 ?l12 ?c12 ?k12 ?a13 ?i13 ?l13 ?c13 ?k13 ?a14 ?l14 ?c14 ?k14 ?a15 ?l15 ?c15 ?k15 ?a16 ?l16 ?c16 ?k16 ?a17 ?l17 ?c17 ?k17 ?a18 ?l18 ?c18 ?k18 ?a19 ?l19 ?c19 ?k19 ?a20 ?l20 ?c20 ?k20 ?a21 ?l21 ?c21 ?k21 ?a22 ?l22 ?c22 ?k22 ?a23 ?l23 ?c23 ?k23 ?a24 ?l24 ?c24 ?k24 ?a25 ?l25 ?c25 ?k25 ?a26 ?l26 ?c26 ?k26 ?a27 ?l27 ?c27 ?k27 ?a28 ?l28 ?c28 ?k28 ?a29 ?l29 ?c29 ?k29 ?q0 ?q1 ?q2 ?q3 ?z0 ?z1 ?z2 ?z3 ?z4 ?z5 ?z6 ?z7 ?z8 ?z9 ?z10 ?z11 ?z12 ?xL_BadLot ?xsa_BadLot ?xe_BadLot ?xt_BadLot ?xk_BadLot ?xi_BadLot ?xga_BadLot ?xgg_BadLot ?xhd_BadLot ?xca_BadLot ?xcg_BadLot ?xct_BadLot ?xmo_BadLot ?xn_BadLot_why ?xs_BadLot_PearlError ?ye_PearlError ?yh_PearlError ?yt_PearlError ?vV ?ki_ve ?ki_no ?ir1_Lot ?ir4_Lot ?ir1_Bead ?ir4_Bead ?xcg ?xct ?hne_Lot ?su_LB ?no_LB ?sn_int ?su_int ?no_int ?sn_str ?su_str ?no_str ?sn_bool ?su_bool ?no_bool ?sn_NoneType ?su_NoneType ?no_NoneType ?sn_list ?su_list ?no_list ?sn_tuple ?su_tuple ?no_tuple
    (case aC_Bead => k_is)
    (case pg_Bead => k_is)
    (case hd_Bead => k_is)
    (case po_Bead => k_is)
    (case sa_Bead => k_is)
    (case mk_Bead => k_is)
    (case kc_Bead => k_is)
    (case n_Bead_number => k_is)
    (case n_Bead_across => k_is)
    (case n_Bead_weight => k_is)
    (case n_Bead_shade => k_is)
    (case n_Bead_form => k_is)
    (case n_Bead_drilled => k_is)
    (case aC_Lot => k_is)
    (case pg_Lot => k_is)
    (case hd_Lot => k_is)
    (case po_Lot => k_is)
    (case sa_Lot => k_is)
    (case mk_Lot => k_is)
    (case kc_Lot => k_is)
    (case n_Lot_name => k_is)
    (case n_Lot_room => k_is)
    (case n_Lot_least => k_is)
    (case n_Lot_most => k_is)
    (case n_Lot_shades => k_is)
    (case aC_PearlError => k_is)
    (case aC_BadBead => k_is)
    (case aC_BadRule => k_is)
    (case aC_BadDeed => k_is)
    (case aC_NoRow => k_is)
    (case aC_NotLet => k_is)
    (case aC_TooLate => k_is)
    (case aC_BadText => k_is)
    (case aC_BadLot => k_is)
    (case a0 => k_is)
    (case i0 => k_is)
    (case l0 => k_is)
    (case d0 => k_is)
    (case c0 => k_is)
    (case k0 => k_is)
    (case a1 => k_is)
    (case l1 => k_is)
    (case c1 => k_is)
    (case k1 => k_is)
    (case a2 => k_is)
    (case l2 => k_is)
    (case c2 => k_is)
    (case k2 => k_is)
    (case a3 => k_is)
    (case l3 => k_is)
    (case c3 => k_is)
    (case k3 => k_is)
    (case a4 => k_is)
    (case l4 => k_is)
    (case c4 => k_is)
    (case k4 => k_is)
    (case a5 => k_is)
    (case l5 => k_is)
    (case c5 => k_is)
    (case k5 => k_is)
    (case a6 => k_is)
    (case i6 => k_is)
    (case l6 => k_is)
    (case d6 => k_is)
    (case c6 => k_is)
    (case k6 => k_is)
    (case a7 => k_is)
    (case l7 => k_is)
    (case c7 => k_is)
    (case k7 => k_is)
    (case a8 => k_is)
    (case i8 => k_is)
    (case l8 => k_is)
    (case d8 => k_is)
    (case c8 => k_is)
    (case k8 => k_is)
    (case a9 => k_is)
    (case i9 => k_is)
    (case l9 => k_is)
    (case c9 => k_is)
    (case k9 => k_is)
    (case a10 => k_is)
    (case i10 => k_is)
    (case l10 => k_is)
    (case c10 => k_is)
    (case k10 => k_is)
    (case a11 => k_is)
    (case i11 => k_is)
    (case l11 => k_is)
    (case c11 => k_is)
    (case k11 => k_is)
    (case a12 => k_is)
    (case i12 => k_is)
    (case l12 => k_is)
    (case c12 => k_is)
    (case k12 => k_is)
    (case a13 => k_is)
    (case i13 => k_is)
    (case l13 => k_is)
    (case c13 => k_is)
    (case k13 => k_is)
    (case a14 => k_is)
    (case l14 => k_is)
    (case c14 => k_is)
    (case k14 => k_is)
    (case a15 => k_is)
    (case l15 => k_is)
    (case c15 => k_is)
    (case k15 => k_is)
    (case a16 => k_is)
    (case l16 => k_is)
    (case c16 => k_is)
    (case k16 => k_is)
    (case a17 => k_is)
    (case l17 => k_is)
    (case c17 => k_is)
    (case k17 => k_is)
    (case a18 => k_is)
    (case l18 => k_is)
    (case c18 => k_is)
    (case k18 => k_is)
    (case a19 => k_is)
    (case l19 => k_is)
    (case c19 => k_is)
    (case k19 => k_is)
    (case a20 => k_is)
    (case l20 => k_is)
    (case c20 => k_is)
    (case k20 => k_is)
    (case a21 => k_is)
    (case l21 => k_is)
    (case c21 => k_is)
    (case k21 => k_is)
    (case a22 => k_is)
    (case l22 => k_is)
    (case c22 => k_is)
    (case k22 => k_is)
    (case a23 => k_is)
    (case l23 => k_is)
    (case c23 => k_is)
    (case k23 => k_is)
    (case a24 => k_is)
    (case l24 => k_is)
    (case c24 => k_is)
    (case k24 => k_is)
    (case a25 => k_is)
    (case l25 => k_is)
    (case c25 => k_is)
    (case k25 => k_is)
    (case a26 => k_is)
    (case l26 => k_is)
    (case c26 => k_is)
    (case k26 => k_is)
    (case a27 => k_is)
    (case l27 => k_is)
    (case c27 => k_is)
    (case k27 => k_is)
    (case a28 => k_is)
    (case l28 => k_is)
    (case c28 => k_is)
    (case k28 => k_is)
    (case a29 => k_is)
    (case l29 => k_is)
    (case c29 => k_is)
    (case k29 => k_is)
    (case q0 => k_is)
    (case q1 => k_is)
    (case q2 => k_is)
    (case q3 => k_is)
    (case z0 => k_is)
    (case z1 => k_is)
    (case z2 => k_is)
    (case z3 => k_is)
    (case z4 => k_is)
    (case z5 => k_is)
    (case z6 => k_is)
    (case z7 => k_is)
    (case z8 => k_is)
    (case z9 => k_is)
    (case z10 => k_is)
    (case z11 => k_is)
    (case z12 => k_is)
    (case xL_BadLot => k_is)
    (case xsa_BadLot => k_is)
    (case xe_BadLot => k_is)
    (case xt_BadLot => k_is)
    (case xk_BadLot => k_is)
    (case xi_BadLot => k_is)
    (case xga_BadLot => k_is)
    (case xgg_BadLot => k_is)
    (case xhd_BadLot => k_is)
    (case xca_BadLot => k_is)
    (case xcg_BadLot => k_is)
    (case xct_BadLot => k_is)
    (case xmo_BadLot => k_is)
    (case xn_BadLot_why => k_is)
    (case xs_BadLot_PearlError => k_is)
    (case ye_PearlError => k_is)
    (case yh_PearlError => k_is)
    (case yt_PearlError => k_is)
    (case vV => k_is)
    (case ki_ve => kit_is)
    (case ki_no => kit_is)
    (case ir1_Lot => k_is)
    (case ir4_Lot => k_is)
    (case ir1_Bead => k_is)
    (case ir4_Bead => k_is)
    (case xcg => k_is)
    (case xct => k_is)
    (case hne_Lot => k_is)
    (case su_LB => k_is)
    (case no_LB => kit_is)
    (case sn_int => k_is)
    (case su_int => k_is)
    (case no_int => kit_is)
    (case sn_str => k_is)
    (case su_str => k_is)
    (case no_str => kit_is)
    (case sn_bool => k_is)
    (case su_bool => k_is)
    (case no_bool => kit_is)
    (case sn_NoneType => k_is)
    (case su_NoneType => k_is)
    (case no_NoneType => kit_is)
    (case sn_list => k_is)
    (case su_list => k_is)
    (case no_list => kit_is)
    (case sn_tuple => k_is)
    (case su_tuple => k_is)
    (case no_tuple => kit_is)
