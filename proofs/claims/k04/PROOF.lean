import PyProof.Rows.All
import Wide.All
import OpenK.AllK
import Wide.FinOn
import HandS.ForMost
import HandS.IsInst
import HandS.Wide
import HandS.Walk
import HandS.TupAny
import HandS.Style
import HandS.Defaults
import HandS.MakeKw
import KE.IntTextLaws
import HandS.OwnEq
import HandS.ExcInit
import HandS.ExcField
import HandS.ExcIs
import HandS.ExcOwn
import HandS.WordsExc
import KE.KExcIs
import HandS.MakeKwOnly
import KE.KExcInit
import HandS.TryMany
import PyProof.ExcClass
import PyProof.FactsTree
import PyProof.ExcBaseAll.LookupError
import HandS.FStr
import PyProof.InstSpecial
import PyProof.FString2
import KE.KCallOwn
import HandS.StrMore
import PySem.Challenge.RW_pearlrise_k04_errors_and_their_kinds
set_option Elab.async false
set_option linter.all false
set_option maxRecDepth 100000
set_option maxHeartbeats 4000000
namespace KA
open PySem PySem.Spec PyProof.Rows L2
/-! ### heaps -/
theorem same_upd {H : Hp} {p : Addr} {o : HO} (h : H p = none) : Same H (upd H p o) := fun b x e => by
  rw [upd_ne (ne_of_none e h)]
  exact e
/-- all but what stands at d is as it was -/
def But (d : Addr) (H H' : Hp) : Prop := ∀ b o, b ≠ d → H b = some o → H' b = some o
theorem But.refl (d : Addr) (H : Hp) : But d H H := fun _ _ _ h => h
theorem But.trans {d : Addr} {H H1 H2 : Hp} (a : But d H H1) (b : But d H1 H2) : But d H H2 := fun c o n h => b c o n (a c o n h)
theorem But.of {d : Addr} {H H' : Hp} (s : Same H H') : But d H H' := fun b o _ h => s b o h
theorem But.at_ {d : Addr} {H : Hp} {o : HO} : But d H (upd H d o) := fun b x n h => by
  rw [upd_ne n]
  exact h
theorem But.new {d p : Addr} {H : Hp} {o : HO} (h : H p = none) : But d H (upd H p o) := But.of (same_upd h)
theorem But.same {d : Addr} {H0 H H' : Hp} (h0 : H0 d = none) (s : Same H0 H) (b : But d H H') : Same H0 H' := fun c o h => b c o (ne_of_none h h0) (s c o h)
theorem But.mut {d : Addr} {H0 H : Hp} {o : HO} {p : Addr} (b : But d H0 H) (h : H0 p = none) : But d H0 (upd H p o) := fun c x n e => by
  rw [upd_ne (ne_of_none e h)]
  exact b c x n e
theorem But.free {d p : Addr} {H H' : Hp} (b : But d H H') (n : p ≠ d) (h : H' p = none) : H p = none := by
  cases q : H p with
  | none => rfl
  | some o =>
    rw [b p o n q] at h
    cases h
theorem but_seq {K : PySem.W.Frag} {d a : Addr} {H H' : Hp} {xs : List V} (b : But d H H') (n : a ≠ d) (h : SqL K H a xs) : SqL K H' a xs := by
  rcases h with (h | ⟨o, h⟩) | h
  · exact .inl (.inl (b _ _ n h))
  · exact .inl (.inr ⟨o, b _ _ n h⟩)
  · exact .inr h
/-- the draws' list at d, its counter at most n -/
def Dr (P : Int → Prop) (d : Addr) (n : Nat) (H : Hp) : Prop := ∃ a b c : Int, H d = some (.lst [.int a, .int b, .int c]) ∧ P b ∧ 0 ≤ c ∧ c ≤ n
theorem Dr.same {P : Int → Prop} {d : Addr} {n : Nat} {H H' : Hp} (h : Dr P d n H) (s : Same H H') : Dr P d n H' := by
  obtain ⟨a, b, c, e, r⟩ := h
  exact ⟨a, b, c, s _ _ e, r⟩
theorem Dr.ne {P : Int → Prop} {d p : Addr} {n : Nat} {H : Hp} (h : Dr P d n H) (e : H p = none) : p ≠ d := by
  obtain ⟨a, b, c, z, _⟩ := h
  exact (ne_of_none z e).symm
theorem Dr.mono {P : Int → Prop} {d : Addr} {n m : Nat} {H : Hp} (h : Dr P d n H) (e : n ≤ m) : Dr P d m H := by
  obtain ⟨a, b, c, z, h1, h3, h4⟩ := h
  exact ⟨a, b, c, z, h1, h3, by omega⟩
theorem Dr.upd {P : Int → Prop} {d p : Addr} {n : Nat} {H : Hp} {o : HO} (h : Dr P d n H) (e : p ≠ d) : Dr P d n (L2.upd H p o) := by
  obtain ⟨a, b, c, z, r⟩ := h
  exact ⟨a, b, c, by rw [upd_ne e.symm]; exact z, r⟩
theorem yesT {σ : L2.St} {H : Hp} {A B : Hp → Prop} (h : A H) : tYes σ H (fun b H3 => if b = true then A H3 else B H3) := by
  show if true = true then A H else B H
  exact iteT h
/-! ### what is no own object -/
inductive Th (K : PySem.W.Frag) (H : Hp) : V → Prop
  | int (i : Int) : Th K H (.int i)
  | bl (b : Bool) : Th K H (.bl b)
  | str (z : Str) : Th K H (.str z)
  | non : Th K H .non
  | lst {a : Addr} (h : TyX K H (.ref a) (.type "list")) : Th K H (.ref a)
  | tup {a : Addr} (h : TyX K H (.ref a) (.type "tuple")) : Th K H (.ref a)
  | dct {a : Addr} (h : TyX K H (.ref a) (.type "dict")) : Th K H (.ref a)
def isI : V → Bool
  | .int _ => true
  | _ => false
def isB : V → Bool
  | .bl _ => true
  | _ => false
def isS : V → Bool
  | .str _ => true
  | _ => false
theorem isi_int {K : PySem.W.Frag} {H : Hp} {v : V} (h : Th K H v) : ∃ t, TyX K H v t ∧ PySem.W.kitOne K t (.type "int") = some (isI v || isB v) := by
  cases h with
  | int i => exact ⟨_, .base (.int i), kit_ty (r := true) (by decide +kernel)⟩
  | bl b => exact ⟨_, .base (.bl b), kit_ty (r := true) (by decide +kernel)⟩
  | str z => exact ⟨_, .base (.str z), kit_ty (r := false) (by decide +kernel)⟩
  | non => exact ⟨_, .base .non, kit_ty (r := false) (by decide +kernel)⟩
  | lst h => exact ⟨_, h, kit_ty (r := false) (by decide +kernel)⟩
  | tup h => exact ⟨_, h, kit_ty (r := false) (by decide +kernel)⟩
  | dct h => exact ⟨_, h, kit_ty (r := false) (by decide +kernel)⟩
theorem isi_bool {K : PySem.W.Frag} {H : Hp} {v : V} (h : Th K H v) : ∃ t, TyX K H v t ∧ PySem.W.kitOne K t (.type "bool") = some (isB v) := by
  cases h with
  | int i => exact ⟨_, .base (.int i), kit_ty (r := false) (by decide +kernel)⟩
  | bl b => exact ⟨_, .base (.bl b), kit_ty (r := true) (by decide +kernel)⟩
  | str z => exact ⟨_, .base (.str z), kit_ty (r := false) (by decide +kernel)⟩
  | non => exact ⟨_, .base .non, kit_ty (r := false) (by decide +kernel)⟩
  | lst h => exact ⟨_, h, kit_ty (r := false) (by decide +kernel)⟩
  | tup h => exact ⟨_, h, kit_ty (r := false) (by decide +kernel)⟩
  | dct h => exact ⟨_, h, kit_ty (r := false) (by decide +kernel)⟩
theorem isi_str {K : PySem.W.Frag} {H : Hp} {v : V} (h : Th K H v) : ∃ t, TyX K H v t ∧ PySem.W.kitOne K t (.type "str") = some (isS v) := by
  cases h with
  | int i => exact ⟨_, .base (.int i), kit_ty (r := false) (by decide +kernel)⟩
  | bl b => exact ⟨_, .base (.bl b), kit_ty (r := false) (by decide +kernel)⟩
  | str z => exact ⟨_, .base (.str z), kit_ty (r := true) (by decide +kernel)⟩
  | non => exact ⟨_, .base .non, kit_ty (r := false) (by decide +kernel)⟩
  | lst h => exact ⟨_, h, kit_ty (r := false) (by decide +kernel)⟩
  | tup h => exact ⟨_, h, kit_ty (r := false) (by decide +kernel)⟩
  | dct h => exact ⟨_, h, kit_ty (r := false) (by decide +kernel)⟩
/-! ### signs -/
def lower (c : Nat) : Bool := decide (97 ≤ c) && decide (c ≤ 122)
def figure (c : Nat) : Bool := decide (48 ≤ c) && decide (c ≤ 57)
theorem sgl_lt (a b : Nat) : (([a] : List Nat) < [b]) ↔ a < b := by
  rw [List.cons_lt_cons_iff]
  simp
theorem ge_a (c : Nat) : (!decide ((⟨#[c]⟩ : Str).cps.toList < ("a" : Str).cps.toList)) = decide (97 ≤ c) := by
  have e : ("a" : Str).cps.toList = [97] := by decide +kernel
  rw [e]
  show (!decide ([c] < [97])) = _
  rw [decide_eq_decide.mpr (sgl_lt c 97), ← decide_not, decide_eq_decide]
  omega
theorem le_z (c : Nat) : (!decide (("z" : Str).cps.toList < (⟨#[c]⟩ : Str).cps.toList)) = decide (c ≤ 122) := by
  have e : ("z" : Str).cps.toList = [122] := by decide +kernel
  rw [e]
  show (!decide ([122] < [c])) = _
  rw [decide_eq_decide.mpr (sgl_lt 122 c), ← decide_not, decide_eq_decide]
  omega
theorem in_az (c : Nat) : decide (c ∈ ("abcdefghijklmnopqrstuvwxyz" : Str).cps.toList) = lower c := by
  have e : ("abcdefghijklmnopqrstuvwxyz" : Str).cps.toList = (List.range 26).map (· + 97) := by decide +kernel
  unfold lower
  rw [e, ← Bool.decide_and, decide_eq_decide, List.mem_map]
  constructor
  · rintro ⟨a, ha, rfl⟩
    rw [List.mem_range] at ha
    omega
  · intro h
    exact ⟨c - 97, List.mem_range.mpr (by omega), by omega⟩
theorem in_09 (c : Nat) : decide (c ∈ ("0123456789" : Str).cps.toList) = figure c := by
  have e : ("0123456789" : Str).cps.toList = (List.range 10).map (· + 48) := by decide +kernel
  unfold figure
  rw [e, ← Bool.decide_and, decide_eq_decide, List.mem_map]
  constructor
  · rintro ⟨a, ha, rfl⟩
    rw [List.mem_range] at ha
    omega
  · intro h
    exact ⟨c - 48, List.mem_range.mpr (by omega), by omega⟩
/-! ### numbers by figures -/
open NumText TL
theorem fold_lt : ∀ (cs : List Nat) (a : Nat), AllDigits cs → a * 10 ^ cs.length ≤ cs.foldl (fun acc c => acc * 10 + (c - 48)) a ∧ cs.foldl (fun acc c => acc * 10 + (c - 48)) a < (a + 1) * 10 ^ cs.length
  | [], a, _ => by simp
  | c :: cs, a, h => by
    have hc := h.head
    have ih := fold_lt cs (a * 10 + (c - 48)) h.tail
    rw [List.foldl_cons, List.length_cons, Nat.pow_succ]
    have p : 0 < 10 ^ cs.length := Nat.pos_of_ne_zero (by simp)
    generalize 10 ^ cs.length = q at *
    refine ⟨Nat.le_trans ?_ ih.1, Nat.lt_of_lt_of_le ih.2 ?_⟩
    · have : a * (q * 10) = (a * 10) * q := by rw [Nat.mul_comm q 10, ← Nat.mul_assoc]
      rw [this]
      exact Nat.mul_le_mul_right q (by omega)
    · have : (a + 1) * (q * 10) = ((a + 1) * 10) * q := by rw [Nat.mul_comm q 10, ← Nat.mul_assoc]
      rw [this]
      exact Nat.mul_le_mul_right q (by omega)
theorem val_lt {cs : List Nat} (h : AllDigits cs) : digitsVal cs < 10 ^ cs.length := by
  have := (fold_lt cs 0 h).2
  rw [Nat.zero_add, Nat.one_mul] at this
  exact this
theorem val_ge {c : Nat} {cs : List Nat} (h : AllDigits (c :: cs)) (hc : c ≠ 48) : 10 ^ cs.length ≤ digitsVal (c :: cs) := by
  have h1 := h.head
  have := (fold_lt cs (0 * 10 + (c - 48)) h.tail).1
  refine Nat.le_trans ?_ this
  have : 1 * 10 ^ cs.length ≤ (0 * 10 + (c - 48)) * 10 ^ cs.length := Nat.mul_le_mul_right _ (by omega)
  omega
theorem val_zero {cs : List Nat} : digitsVal (48 :: cs) = digitsVal cs := rfl
/-- the figures of a number have as many signs as the word just where it has no nought ahead of others -/
theorem len_canon {c : Nat} {cs : List Nat} (h : AllDigits (c :: cs)) : (numL (digitsVal (c :: cs))).length = (c :: cs).length ↔ ¬ (c = 48 ∧ 1 < (c :: cs).length) := by
  constructor
  · rintro e ⟨rfl, hl⟩
    rw [val_zero] at e
    rw [List.length_cons] at e hl
    have := numL_len (n := digitsVal cs) (k := cs.length) (by omega) (val_lt h.tail)
    omega
  · intro hn
    by_cases hc : c = 48
    · subst hc
      have : cs = [] := by
        cases cs with
        | nil => rfl
        | cons d r =>
          exact absurd ⟨rfl, by rw [List.length_cons, List.length_cons]; omega⟩ hn
      subst this
      rw [val_zero]
      show (numL 0).length = 1
      rw [numL_lt (by decide)]
      rfl
    · have u := numL_len (n := digitsVal (c :: cs)) (k := (c :: cs).length) (by rw [List.length_cons]; omega) (val_lt h)
      have l := val_ge h hc
      have v := val_lt (numL_digits (digitsVal (c :: cs)))
      rw [numL_val] at v
      have w : 10 ^ cs.length < 10 ^ (numL (digitsVal (c :: cs))).length := Nat.lt_of_le_of_lt l v
      have := (Nat.pow_lt_pow_iff_right (by decide : 1 < 10)).mp w
      rw [List.length_cons] at *
      omega
/-- words of figures of one length and one worth are one -/
theorem fold_inj : ∀ (cs ds : List Nat) (a b : Nat), AllDigits cs → AllDigits ds → cs.length = ds.length → cs.foldl (fun acc c => acc * 10 + (c - 48)) a = ds.foldl (fun acc c => acc * 10 + (c - 48)) b → a = b ∧ cs = ds
  | [], [], a, b, _, _, _, e => ⟨e, rfl⟩
  | [], _ :: _, _, _, _, _, l, _ => by simp at l
  | _ :: _, [], _, _, _, _, l, _ => by simp at l
  | c :: cs, d :: ds, a, b, h1, h2, l, e => by
    have q := fold_inj cs ds (a * 10 + (c - 48)) (b * 10 + (d - 48)) h1.tail h2.tail (by simpa using l) e
    have hc := h1.head
    have hd := h2.head
    have e1 := q.1
    have : a = b ∧ c = d := by omega
    exact ⟨this.1, by rw [this.2, q.2]⟩
theorem canon_eq {c : Nat} {cs : List Nat} (h : AllDigits (c :: cs)) (hn : ¬ (c = 48 ∧ 1 < (c :: cs).length)) : numL (digitsVal (c :: cs)) = c :: cs :=
  (fold_inj _ _ 0 0 (numL_digits _) h ((len_canon h).mpr hn) (numL_val _)).2
section
variable {X : Cx}
/-- a text many times -/
def timesS (z : Str) (n : Nat) : Str := ⟨(List.replicate n z.cps).foldl (· ++ ·) #[]⟩
theorem times_fold (c : Nat) : ∀ (n : Nat) (a : Array Nat), ((List.replicate n #[c]).foldl (· ++ ·) a).toList = a.toList ++ List.replicate n c
  | 0, a => by simp
  | n + 1, a => by
    rw [List.replicate_succ, List.foldl_cons, times_fold c n (a ++ #[c]), Array.toList_append, List.append_assoc]
    rfl
theorem times_list {z : Str} {c n : Nat} (h : z.cps = #[c]) : (timesS z n).cps.toList = List.replicate n c := by
  unfold timesS
  show ((List.replicate n z.cps).foldl (· ++ ·) #[]).toList = _
  rw [h, times_fold c n #[]]
  rfl
theorem times_len {z : Str} {c n : Nat} (h : z.cps = #[c]) : (timesS z n).length = n := by
  show (timesS z n).cps.size = n
  rw [← Array.length_toList, times_list h, List.length_replicate]
theorem op_mulS : OpR X (binaryOp .Mult) (fun x y H Q => ∃ (z : Str) (k : Int), x = .str z ∧ y = .int k ∧ 2 ≤ k ∧ k ≤ 100000 ∧ (∃ c, z.cps = #[c]) ∧ Q (.str (timesS z k.toNat)) H) := by
  intro pins s σ H x y v u Q I rx ry h
  obtain ⟨z, k, rfl, rfl, h2, h3, ⟨c, hc⟩, q⟩ := h
  have hz : z.length = 1 := by
    show z.cps.size = 1
    rw [hc]
    rfl
  obtain ⟨t, rfl⟩ := rx
  obtain ⟨t', rfl⟩ := ry
  refine PySem.P.mul_str ?_ ?_ ?_ ?_
  · rw [decide_eq_false (by omega), decide_eq_false (by omega)]
    rfl
  · intro _ _
    rw [hz]
    have : (1 : Int) ≤ (2 ^ 63 - 1) / k := by
      have : (2 ^ 63 - 1 : Int) / k ≥ 1 := (Int.le_ediv_iff_mul_le (by omega)).mpr (by omega)
      exact this
    omega
  · intro _ _
    rw [hz]
    exact decide_eq_false (by
      have : (100000 : Nat) ≤ sizeLine := by decide
      show ¬ _ > _
      omega)
  · have hk1 : (k == 1) = false := by
      rw [beq_eq_false_iff_ne]
      omega
    rw [if_neg (by omega), if_neg (by rw [hk1, hz]; decide)]
    refine ⟨?_, ⟨.str (timesS z k.toNat), H, I.tok _, ⟨_, rfl⟩, q⟩⟩
    have e := times_len (n := k.toNat) hc
    have : (100000 : Nat) ≤ sizeLine := by decide
    show (timesS z k.toNat).length ≤ sizeLine
    omega
end

/-! ### comprehensions over a text -/
/-- [truth of each sign] -/
theorem lc_all {z : Str} {H : Hp} {D : Addr} (hD : H D = none) (hz : z.length ≤ 100000) (f : Nat → Bool) {g : TG} {tt : TT} {te : TE} {vs : List Nat} {σ : L2.St} {Qd : Hp → Prop}
    (turn : ∀ (c : Nat) (H2 : Hp) (R : V → Hp → Prop) (C : Hp → Prop), Same H H2 → R (.bl (f c)) H2 → g (.str ⟨#[c]⟩) (wipe σ vs) H2 fun σ2 H2 => wipe σ2 vs = wipe σ vs ∧ tt σ2 H2 fun b H3 => if b = true then te σ2 H3 R else C H3)
    (fin : ∀ H', Same H H' → H' D = some (.lst ((z.cps.toList.map f).map V.bl)) → Qd H') :
    ∃ W : Nat → Nat → Hp → Prop, (∃ m, W 0 m (upd H D (.lst []))) ∧ ∀ i m H, W i m H →
      ((Its z).stop i H ∧ Qd H) ∨ ((Its z).go i H ∧ ∃ Nx : Hp → Prop, (∀ H', Nx H' → ∃ m', m' < m ∧ W (i + 1) m' H') ∧ ∀ x H', (Its z).yld i H x H' → g x (wipe σ vs) H' fun σ2 H2 => wipe σ2 vs = wipe σ vs ∧ tt σ2 H2 fun b H3 =>
        if b = true then te σ2 H3 fun y H4 => ∃ acc, H4 D = some (.lst acc) ∧ acc.length < sizeLine ∧ Nx (upd H4 D (.lst (acc ++ [y]))) else Nx H3) := by
  have hzl : z.length ≤ sizeLine := Nat.le_trans hz (by decide)
  refine lc_it walk_str (fun i H' => Same H H' ∧ H' D = some (.lst (((z.cps.toList.take i).map f).map V.bl))) ⟨same_upd hD, upd_same⟩ (fun _ _ _ _ => trivial) ?_ ?_
  · rintro i x H1 H2 hi ⟨s1, e1⟩ ⟨rfl, c, hc, rfl⟩
    refine turn c _ _ _ s1 ?_
    have hc' : z.cps.toList[i]? = some c := by rw [Array.getElem?_toList]; exact hc
    refine ⟨_, e1, ?_, fun b o h => ?_, ?_⟩
    · rw [List.length_map, List.length_map, List.length_take]
      exact Nat.lt_of_le_of_lt (Nat.min_le_left _ _) (Nat.lt_of_lt_of_le hi hzl)
    · rw [upd_ne (ne_of_none h hD)]
      exact s1 _ _ h
    · rw [upd_same, List.take_add_one, hc', List.map_append, List.map_append]
      rfl
  · rintro H' ⟨s1, e1⟩
    have ef : z.cps.toList.take z.cps.size = z.cps.toList := List.take_of_length_le (by rw [Array.length_toList]; exact Nat.le_refl _)
    rw [ef] at e1
    exact fin H' s1 e1
def sg (c : Nat) : V := .str ⟨#[c]⟩
/-- [sign for sign in text if ..] -/
theorem lc_filter {z : Str} {H : Hp} {D : Addr} (hD : H D = none) (hz : z.length ≤ 100000) (f : Nat → Bool) {g : TG} {tt : TT} {te : TE} {vs : List Nat} {σ : L2.St} {Qd : Hp → Prop}
    (turn : ∀ (c : Nat) (H2 : Hp) (R : V → Hp → Prop) (C : Hp → Prop), Same H H2 → (f c = true → R (sg c) H2) → (f c = false → C H2) → g (.str ⟨#[c]⟩) (wipe σ vs) H2 fun σ2 H2 => wipe σ2 vs = wipe σ vs ∧ tt σ2 H2 fun b H3 => if b = true then te σ2 H3 R else C H3)
    (fin : ∀ H', Same H H' → H' D = some (.lst ((z.cps.toList.filter f).map sg)) → Qd H') :
    ∃ W : Nat → Nat → Hp → Prop, (∃ m, W 0 m (upd H D (.lst []))) ∧ ∀ i m H, W i m H →
      ((Its z).stop i H ∧ Qd H) ∨ ((Its z).go i H ∧ ∃ Nx : Hp → Prop, (∀ H', Nx H' → ∃ m', m' < m ∧ W (i + 1) m' H') ∧ ∀ x H', (Its z).yld i H x H' → g x (wipe σ vs) H' fun σ2 H2 => wipe σ2 vs = wipe σ vs ∧ tt σ2 H2 fun b H3 =>
        if b = true then te σ2 H3 fun y H4 => ∃ acc, H4 D = some (.lst acc) ∧ acc.length < sizeLine ∧ Nx (upd H4 D (.lst (acc ++ [y]))) else Nx H3) := by
  have hzl : z.length ≤ sizeLine := Nat.le_trans hz (by decide)
  refine lc_it walk_str (fun i H' => Same H H' ∧ H' D = some (.lst (((z.cps.toList.take i).filter f).map sg))) ⟨same_upd hD, upd_same⟩ (fun _ _ _ _ => trivial) ?_ ?_
  · rintro i x H1 H2 hi ⟨s1, e1⟩ ⟨rfl, c, hc, rfl⟩
    have hc' : z.cps.toList[i]? = some c := by rw [Array.getElem?_toList]; exact hc
    refine turn c _ _ _ s1 (fun hf => ?_) (fun hf => ?_)
    · refine ⟨_, e1, ?_, fun b o h => ?_, ?_⟩
      · rw [List.length_map]
        refine Nat.lt_of_le_of_lt (List.length_filter_le _ _) ?_
        rw [List.length_take]
        exact Nat.lt_of_le_of_lt (Nat.min_le_left _ _) (Nat.lt_of_lt_of_le hi hzl)
      · rw [upd_ne (ne_of_none h hD)]
        exact s1 _ _ h
      · rw [upd_same, List.take_add_one, hc', List.filter_append, List.map_append]
        show _ = some (HO.lst (_ ++ List.map sg (List.filter f [c])))
        rw [List.filter_cons_of_pos hf]
        rfl
    · refine ⟨s1, ?_⟩
      rw [e1, List.take_add_one, hc', List.filter_append, List.map_append]
      show _ = some (HO.lst (_ ++ List.map sg (List.filter f [c])))
      rw [List.filter_cons_of_neg (by rw [hf]; exact Bool.false_ne_true)]
      show _ = some (HO.lst (_ ++ []))
      rw [List.append_nil]
  · rintro H' ⟨s1, e1⟩
    have ef : z.cps.toList.take z.cps.size = z.cps.toList := List.take_of_length_le (by rw [Array.length_toList]; exact Nat.le_refl _)
    rw [ef] at e1
    exact fin H' s1 e1
/-- a list of signs beside [] -/
theorem dp_signs {K : PySem.W.Frag} {H : Hp} : ∀ cs : List Nat, DpAll K H (cs.map sg) (cs.map fun c => PyData.str ⟨#[c]⟩)
  | [] => .nil
  | c :: cs => .cons (.str _) (dp_signs cs)
theorem eqv_nil (ds : List PyData) : PyData.eqv (.list ds) (.list []) = ds.isEmpty := by
  cases ds with
  | nil => rfl
  | cons d r => rfl
theorem lay_signs : ∀ cs : List Nat, (∀ c ∈ cs, c < 128) → PyData.canLayAll0 (cs.map fun c => PyData.str ⟨#[c]⟩) = true
  | [], _ => rfl
  | c :: r, h => by
    have h1 := h c (List.mem_cons_self ..)
    have h2 := lay_signs r fun d hd => h d (List.mem_cons_of_mem _ hd)
    show (PyData.canLay0 (.str ⟨#[c]⟩) && PyData.canLayAll0 (r.map fun c => PyData.str ⟨#[c]⟩)) = true
    rw [h2, Bool.and_true]
    show (#[c].all (· < 0x110000)) = true
    simp
    omega
theorem dep_signs : ∀ cs : List Nat, PyData.depthAll (cs.map fun c => PyData.str ⟨#[c]⟩) = 0
  | [] => rfl
  | c :: r => by
    show max 0 (PyData.depthAll (r.map fun c => PyData.str ⟨#[c]⟩)) = 0
    rw [dep_signs r]
    rfl
theorem shp_signs {cs : List Nat} (h : ∀ c ∈ cs, c < 128) : SeqAt.shaped (.list (cs.map fun c => PyData.str ⟨#[c]⟩)) = true := by
  unfold SeqAt.shaped
  have e1 : PyData.canLay0 (.list (cs.map fun c => PyData.str ⟨#[c]⟩)) = true := lay_signs cs h
  have e2 : PyData.depth (.list (cs.map fun c => PyData.str ⟨#[c]⟩)) = 1 := by
    show PyData.depthAll _ + 1 = 1
    rw [dep_signs]
  rw [e1, e2]
  rfl
/-- signs below 128 alone -/
def Asc (z : Str) : Prop := ∀ c ∈ z.cps.toList, c < 128
theorem asc_cut {z : Str} (h : Asc z) (lo hi : Option Int) : Asc (cutS z lo hi) := fun c hc => h c (List.mem_of_mem_drop (List.mem_of_mem_take hc))
theorem asc_app {x y : Str} (hx : Asc x) (hy : Asc y) : Asc (x ++ y) := fun c hc => by
  have hc : c ∈ TL.tl (x ++ y) := hc
  rw [TL.tl_append] at hc
  rcases List.mem_append.mp hc with h | h
  · exact hx c h
  · exact hy c h
theorem asc_upper {z : Str} (h : Asc z) : Asc (Txt.upper z) ∧ (Txt.upper z).length = z.length := by
  rw [PyProof.Rows.upper_ascii h]
  refine ⟨fun c hc => ?_, ?_⟩
  · have hc : c ∈ (z.cps.map PyProof.Rows.up1).toList := hc
    rw [Array.toList_map] at hc
    obtain ⟨a, ha, rfl⟩ := List.mem_map.mp hc
    have := h a ha
    unfold PyProof.Rows.up1
    split <;> omega
  · show (z.cps.map PyProof.Rows.up1).size = z.cps.size
    rw [Array.size_map]
theorem asc_of {z : Str} {cs : List Nat} (h : z.cps.toList = cs) (hl : ∀ c ∈ cs, c < 128) : Asc z := fun c hc => hl c (by rw [← h]; exact hc)
theorem lower_lt {c : Nat} (h : lower c = true) : c < 128 := by
  unfold lower at h
  simp only [Bool.and_eq_true, decide_eq_true_eq] at h
  omega
theorem figure_lt {c : Nat} (h : figure c = true) : c < 128 := by
  unfold figure at h
  simp only [Bool.and_eq_true, decide_eq_true_eq] at h
  omega
theorem filter_none {l : List Nat} {f : Nat → Bool} : (l.filter (fun c => !f c)).isEmpty = l.all f := by
  induction l with
  | nil => rfl
  | cons c r ih =>
    rw [List.filter_cons, List.all_cons]
    cases h : f c with
    | true => simpa using ih
    | false => rfl
theorem str_sign {c d : Nat} {z : Str} (h : z.cps = #[d]) : decide (V.str ⟨#[c]⟩ = V.str z) = decide (c = d) := by
  obtain ⟨z⟩ := z
  rw [decide_eq_decide]
  constructor
  · intro e
    injection e with e
    injection e with e
    rw [show z = #[d] from h] at e
    injection e with e
    injection e
  · rintro rfl
    rw [show z = #[c] from h]
/-! ### a text joined of signs -/
open TL
theorem join_signs : ∀ cs : List Nat, joinL [] ((cs.map fun c => (⟨#[c]⟩ : Str)).map tl) = cs
  | [] => rfl
  | [c] => rfl
  | c :: d :: r => by
    show [c] ++ ([] ++ joinL [] (((d :: r).map fun c => (⟨#[c]⟩ : Str)).map tl)) = c :: d :: r
    rw [join_signs (d :: r)]
    rfl
theorem join_text {y : Str} (hy : tl y = []) (cs : List Nat) : (Txt.join y (cs.map fun c => (⟨#[c]⟩ : Str))).cps.toList = cs := by
  show tl (Txt.join y _) = cs
  rw [join_eq, tl_join, hy, join_signs]
theorem size_signs : ∀ cs : List Nat, ((cs.map fun c => (⟨#[c]⟩ : Str)).map (·.length)).sum = cs.length
  | [] => rfl
  | c :: r => by
    rw [List.map_cons, List.map_cons, List.sum_cons, size_signs r, List.length_cons]
    show 1 + r.length = _
    omega

/-- [.. for _ in range(k)], each a drawn sign -/
theorem lc_draw {P : Int → Prop} {d D : Addr} {n k : Nat} {H1 : Hp} (hD : H1 D = none) (dr : Dr P d n H1) (hk : k ≤ 1000) (p : Nat → Bool) {g : TG} {tt : TT} {te : TE} {vs : List Nat} {σ : L2.St} {Qd : Hp → Prop}
    (turn : ∀ (i : Nat) (H2 : Hp) (R : V → Hp → Prop) (C : Hp → Prop), i < k → Dr P d (n + i) H2 → (∀ H3 c, p c = true → But d H2 H3 → Dr P d (n + i + 1) H3 → R (sg c) H3) → g (.int (0 + i)) (wipe σ vs) H2 fun σ2 H2 => wipe σ2 vs = wipe σ vs ∧ tt σ2 H2 fun b H3 => if b = true then te σ2 H3 R else C H3)
    (fin : ∀ H' (cs : List Nat), cs.length = k → (∀ c ∈ cs, p c = true) → But d H1 H' → Dr P d (n + k) H' → H' D = some (.lst (cs.map sg)) → Qd H') :
    ∃ W : Nat → Nat → Hp → Prop, (∃ m, W 0 m (upd H1 D (.lst []))) ∧ ∀ i m H, W i m H →
      ((Itr 0 k).stop i H ∧ Qd H) ∨ ((Itr 0 k).go i H ∧ ∃ Nx : Hp → Prop, (∀ H', Nx H' → ∃ m', m' < m ∧ W (i + 1) m' H') ∧ ∀ x H', (Itr 0 k).yld i H x H' → g x (wipe σ vs) H' fun σ2 H2 => wipe σ2 vs = wipe σ vs ∧ tt σ2 H2 fun b H3 =>
        if b = true then te σ2 H3 fun y H4 => ∃ acc, H4 D = some (.lst acc) ∧ acc.length < sizeLine ∧ Nx (upd H4 D (.lst (acc ++ [y]))) else Nx H3) := by
  have nD : D ≠ d := dr.ne hD
  refine lc_range (lo := 0) (n := k) (fun i H' => ∃ cs : List Nat, cs.length = i ∧ (∀ c ∈ cs, p c = true) ∧ But d H1 H' ∧ Dr P d (n + i) H' ∧ H' D = some (.lst (cs.map sg))) ⟨[], rfl, (fun _ h => nomatch h), But.new hD, dr.upd nD, upd_same⟩ ?_ ?_
  · rintro i H2 hi ⟨cs, hl, hp, b2, dr2, e2⟩
    refine turn i H2 _ _ hi dr2 fun H3 c hc b3 dr3 => ?_
    refine ⟨_, b3 _ _ nD e2, ?_, cs ++ [c], ?_, ?_, ?_, ?_, ?_⟩
    · rw [List.length_map, hl]
      exact Nat.lt_of_lt_of_le (show i < 1000 by omega) (by decide)
    · rw [List.length_append, hl]
      rfl
    · intro x hx
      rcases List.mem_append.mp hx with h | h
      · exact hp x h
      · rw [List.mem_singleton.mp h]
        exact hc
    · exact (b2.trans b3).mut hD
    · exact (dr3.upd nD).mono (by omega)
    · rw [upd_same, List.map_append]
      rfl
  · rintro H' ⟨cs, hl, hp, b, dr', e⟩
    exact fin H' cs hl hp b dr' e
theorem map_sg (cs : List Nat) : (cs.map fun c => (⟨#[c]⟩ : Str)).map V.str = cs.map sg := by
  rw [List.map_map]
  rfl
theorem join_len {y : Str} (hy : TL.tl y = []) (cs : List Nat) : (Txt.join y (cs.map fun c => (⟨#[c]⟩ : Str))).length = cs.length := by
  have := join_text hy cs
  show (Txt.join y (cs.map fun c => (⟨#[c]⟩ : Str))).cps.size = _
  rw [← Array.length_toList, this]
theorem az_at {r : Int} (h0 : 0 ≤ r) (h1 : r < 26) : ∃ c, atI ("abcdefghijklmnopqrstuvwxyz" : Str).cps.toList r = some c ∧ lower c = true := by
  obtain ⟨j, rfl⟩ : ∃ j : Nat, r = (j : Int) := ⟨r.toNat, by omega⟩
  have e : ("abcdefghijklmnopqrstuvwxyz" : Str).cps.toList = (List.range 26).map (· + 97) := by decide +kernel
  refine ⟨j + 97, atI_nat ?_, ?_⟩
  · rw [e, List.getElem?_map, List.getElem?_range (by omega)]
    rfl
  · unfold lower
    rw [decide_eq_true (by omega), decide_eq_true (by omega)]
    rfl
theorem fig_at {r : Int} (h0 : 0 ≤ r) (h1 : r < 10) : ∃ c, atI ("0123456789" : Str).cps.toList r = some c ∧ figure c = true := by
  obtain ⟨j, rfl⟩ : ∃ j : Nat, r = (j : Int) := ⟨r.toNat, by omega⟩
  have e : ("0123456789" : Str).cps.toList = (List.range 10).map (· + 48) := by decide +kernel
  refine ⟨j + 48, atI_nat ?_, ?_⟩
  · rw [e, List.getElem?_map, List.getElem?_range (by omega)]
    rfl
  · unfold figure
    rw [decide_eq_true (by omega), decide_eq_true (by omega)]
    rfl
theorem log_small {m : Int} (h0 : 0 < m) (h : m < 2 ^ 200) : m.natAbs.log2 < 9000 := by
  refine Nat.lt_of_lt_of_le (PySem.Flt.log2_lt_of (k := 200) (by decide) ?_) (by decide)
  have e : ((2 : Int) ^ 200) = ((2 ^ 200 : Nat) : Int) := by decide
  rw [e] at h
  omega
theorem log_tiny {m : Int} (h0 : 0 < m) (h : m < 1000000000000000000000000000000) : m.natAbs.log2 < 9000 := log_small h0 (Int.lt_trans h (by decide))
theorem at_str {z : Str} {r : Int} (h0 : 0 ≤ r) (h1 : r < (z.length : Int)) : ∃ c, atI z.cps.toList r = some c ∧ c ∈ z.cps.toList := by
  obtain ⟨j, rfl⟩ : ∃ j : Nat, r = (j : Int) := ⟨r.toNat, by omega⟩
  have hj : j < z.cps.toList.length := by
    have : z.cps.toList.length = z.length := Array.length_toList
    omega
  exact ⟨_, atI_nat (List.getElem?_eq_getElem hj), List.getElem_mem hj⟩
theorem sz (n : Nat) (h : n ≤ 100000) : n ≤ sizeLine := Nat.le_trans h (by decide)
theorem tyx_same {K : PySem.W.Frag} {H H' : Hp} (s : Same H H') {v : V} {t : Value} (h : TyX K H v t) : TyX K H' v t := by
  cases h with
  | base h =>
    cases h with
    | non => exact .base .non
    | bl b => exact .base (.bl b)
    | int i => exact .base (.int i)
    | str z => exact .base (.str z)
    | flt x => exact .base (.flt x)
    | lst e => exact .base (.lst (s _ _ e))
    | frz e => exact .base (.frz (s _ _ e))
    | tup e => exact .base (.tup (s _ _ e))
    | dK e => exact .base (.dK (s _ _ e))
    | dT e => exact .base (.dT (s _ _ e))
    | ins e cl ha hn htk hm => exact .base (.ins (s _ _ e) cl ha hn htk hm)
  | byt b => exact .byt b
  | set e => exact .set (s _ _ e)
  | kList e c => exact .kList e c
  | kTuple e c => exact .kTuple e c
  | kDict e c => exact .kDict e c
  | fTuple e => exact .fTuple (s _ _ e)
  | fDict e => exact .fDict (s _ _ e)
theorem Th.same {K : PySem.W.Frag} {H H' : Hp} (s : Same H H') {v : V} (h : Th K H v) : Th K H' v := by
  cases h with
  | int i => exact .int i
  | bl b => exact .bl b
  | str z => exact .str z
  | non => exact .non
  | lst h => exact .lst (tyx_same s h)
  | tup h => exact .tup (tyx_same s h)
  | dct h => exact .dct (tyx_same s h)
theorem cells_int {ns : List Int} {n : Int} {lo hi : Option Int} {i : Nat} {x : V} (h : ([V.int n] ++ cutV (ns.map V.int) lo hi)[i]? = some x) : ∃ k, x = .int k := by
  have hm := List.mem_of_getElem? h
  rcases List.mem_append.mp hm with h | h
  · exact ⟨n, List.mem_singleton.mp h⟩
  · have := List.mem_of_mem_drop (List.mem_of_mem_take h)
    obtain ⟨k, _, rfl⟩ := List.mem_map.mp this
    exact ⟨k, rfl⟩
section
variable {P : Program} {w : World} {K : PySem.W.Frag} {mg : Str → Option Value} {base : Heap} {x qual : Str} {params : Arguments} {body : List Stmt} {scope : Scope} {dvs : List V} {kws : List (Str × V)} {f : Addr} {fd : FuncData}
theorem okD {N ps : List Str} {k : Nat} {sp : Sp} (F : FunD K x qual params body scope dvs kws f fd) (S : FnScope N ps scope) (len : ∀ vs H Q E, sp vs H Q E → vs.length = ps.length)
    (hbody : ∀ (cdv : Value) (A : Around) (outer : List Env) (s : Shared) (H : Hp) (vs : List V) (Q : VK) (E : XK), Room k (A.deeper (envOfC qual scope s.heap.objs.size f cdv)) → sp vs H Q E →
      ∃ t, PSs (cxOf CX0 P w K mg base N qual scope f cdv A outer s H E).nox body t ∧ t { nx := fun _ H' => Q .non H', rt := Q } (start N vs) H) : FnOk P w K mg base CX0 (k + 1) f fd ps sp :=
  F.ok S len fun cdv A outer s H vs Q E hr h => by
    obtain ⟨t, h, q⟩ := hbody cdv A outer s H vs Q E hr h
    exact ⟨t, h.nox, q⟩
end
end KA
namespace KA
open PySem PySem.Spec PyProof.Rows L2
/-- what is no list is as it was -/
def NL (H H' : Hp) : Prop := ∀ b o, (∀ xs, o ≠ .lst xs) → H b = some o → H' b = some o
theorem NL.of {H H' : Hp} (s : Same H H') : NL H H' := fun b o _ h => s b o h
theorem NL.at_ {H : Hp} {D : Addr} {xs : List V} {o : HO} (h : H D = some (.lst xs)) : NL H (upd H D o) := fun b u n e => by
  have : b ≠ D := fun z => by
    rw [z, h] at e
    exact n xs (Option.some.inj e).symm
  rw [upd_ne this]
  exact e
theorem NL.trans {H H1 H2 : Hp} (a : NL H H1) (b : NL H1 H2) : NL H H2 := fun c o n h => b c o n (a c o n h)
/-- a comprehension over a list: what it makes is told by G -/
theorem lc_gen {K : PySem.W.Frag} {a : Addr} {xs : List V} {H : Hp} {D : Addr} (hD : H D = none) (hS : SqL K H a xs) (hl : xs.length ≤ 10000) (G : Nat → V → Hp → Prop) (hG : ∀ j v H1 H2, NL H1 H2 → G j v H1 → G j v H2)
    {g : TG} {tt : TT} {te : TE} {vs : List Nat} {σ : L2.St} {Qd : Hp → Prop}
    (turn : ∀ (i : Nat) (x : V) (H2 : Hp) (R : V → Hp → Prop) (C : Hp → Prop), xs[i]? = some x → Same H H2 → (∀ v H3, Same H2 H3 → G i v H3 → R v H3) → g x (wipe σ vs) H2 fun σ2 H2 => wipe σ2 vs = wipe σ vs ∧ tt σ2 H2 fun b H3 => if b = true then te σ2 H3 R else C H3)
    (fin : ∀ H' acc, Same H H' → H' D = some (.lst acc) → acc.length = xs.length → (∀ j v, acc[j]? = some v → G j v H') → Qd H') :
    ∃ W : Nat → Nat → Hp → Prop, (∃ m, W 0 m (upd H D (.lst []))) ∧ ∀ i m H, W i m H →
      ((Itl K a).stop i H ∧ Qd H) ∨ ((Itl K a).go i H ∧ ∃ Nx : Hp → Prop, (∀ H', Nx H' → ∃ m', m' < m ∧ W (i + 1) m' H') ∧ ∀ x H', (Itl K a).yld i H x H' → g x (wipe σ vs) H' fun σ2 H2 => wipe σ2 vs = wipe σ vs ∧ tt σ2 H2 fun b H3 =>
        if b = true then te σ2 H3 fun y H4 => ∃ acc, H4 D = some (.lst acc) ∧ acc.length < sizeLine ∧ Nx (upd H4 D (.lst (acc ++ [y]))) else Nx H3) := by
  refine lc_list (K := K) (a := a) (xs := xs) (fun i H' => Same H H' ∧ ∃ acc, H' D = some (.lst acc) ∧ acc.length = i ∧ ∀ j v, acc[j]? = some v → G j v H') ⟨same_upd hD, [], upd_same, rfl, fun j v h => by simp at h⟩ (fun i H' _ h => h.1.seq hS) ?_ ?_
  · rintro i x H2 hi ⟨s2, acc, e2, l2, g2⟩
    have hil : i < xs.length := (List.getElem?_eq_some_iff.mp hi).1
    refine turn i x H2 _ _ hi s2 fun v H3 s3 hv => ?_
    have e3 := s3 _ _ e2
    refine ⟨acc, e3, ?_, fun b o h => ?_, acc ++ [v], upd_same, ?_, fun j w hj => ?_⟩
    · rw [l2]
      exact Nat.lt_of_lt_of_le (show i < 10000 by omega) (by decide)
    · rw [upd_ne (ne_of_none h hD)]
      exact s3 _ _ (s2 _ _ h)
    · rw [List.length_append, l2]
      rfl
    · refine hG j w H3 _ (NL.at_ e3) ?_
      by_cases h : j < acc.length
      · rw [List.getElem?_append_left h] at hj
        exact hG j w H2 H3 (NL.of s3) (g2 j w hj)
      · rw [List.getElem?_append_right (by omega)] at hj
        have : j = i := by
          have := (List.getElem?_eq_some_iff.mp hj).1
          rw [List.length_singleton] at this
          omega
        subst this
        rw [l2, Nat.sub_self] at hj
        have : v = w := Option.some.inj hj
        subst this
        exact hv
  · rintro H' ⟨s, acc, e, l, g⟩
    exact fin H' acc s e l g
/-- .. whose values are f of the place -/
theorem lc_vals {K : PySem.W.Frag} {a : Addr} {xs : List V} {H : Hp} {D : Addr} (hD : H D = none) (hS : SqL K H a xs) (hl : xs.length ≤ 10000) (f : Nat → V)
    {g : TG} {tt : TT} {te : TE} {vs : List Nat} {σ : L2.St} {Qd : Hp → Prop}
    (turn : ∀ (i : Nat) (x : V) (H2 : Hp) (R : V → Hp → Prop) (C : Hp → Prop), xs[i]? = some x → Same H H2 → R (f i) H2 → g x (wipe σ vs) H2 fun σ2 H2 => wipe σ2 vs = wipe σ vs ∧ tt σ2 H2 fun b H3 => if b = true then te σ2 H3 R else C H3)
    (fin : ∀ H', Same H H' → H' D = some (.lst ((List.range xs.length).map f)) → Qd H') :
    ∃ W : Nat → Nat → Hp → Prop, (∃ m, W 0 m (upd H D (.lst []))) ∧ ∀ i m H, W i m H →
      ((Itl K a).stop i H ∧ Qd H) ∨ ((Itl K a).go i H ∧ ∃ Nx : Hp → Prop, (∀ H', Nx H' → ∃ m', m' < m ∧ W (i + 1) m' H') ∧ ∀ x H', (Itl K a).yld i H x H' → g x (wipe σ vs) H' fun σ2 H2 => wipe σ2 vs = wipe σ vs ∧ tt σ2 H2 fun b H3 =>
        if b = true then te σ2 H3 fun y H4 => ∃ acc, H4 D = some (.lst acc) ∧ acc.length < sizeLine ∧ Nx (upd H4 D (.lst (acc ++ [y]))) else Nx H3) := by
  refine lc_gen hD hS hl (fun j v _ => v = f j) (fun _ _ _ _ _ h => h) (fun i x H2 R C hi s hR => turn i x H2 R C hi s (hR _ _ (Same.refl _) rfl)) fun H' acc s e l g => fin H' s ?_
  rw [e]
  congr 2
  refine List.ext_getElem? fun j => ?_
  by_cases h : j < xs.length
  · rw [List.getElem?_map, List.getElem?_range h]
    have : j < acc.length := by omega
    rw [List.getElem?_eq_getElem this]
    exact congrArg some (g j _ (List.getElem?_eq_getElem this))
  · rw [List.getElem?_eq_none (by omega), List.getElem?_eq_none (by rw [List.length_map, List.length_range]; omega)]
/-- a comprehension over a list that leaves some out; the heap stays -/
theorem lc_some {K : PySem.W.Frag} {a : Addr} {xs : List V} {H : Hp} {D : Addr} (hD : H D = none) (hS : SqL K H a xs) (hl : xs.length ≤ 10000) (p : V → Bool) (f : V → V)
    {g : TG} {tt : TT} {te : TE} {vs : List Nat} {σ : L2.St} {Qd : Hp → Prop}
    (turn : ∀ (i : Nat) (x : V) (H2 : Hp) (R : V → Hp → Prop) (C : Hp → Prop), xs[i]? = some x → Same H H2 → (p x = true → R (f x) H2) → (p x = false → C H2) → g x (wipe σ vs) H2 fun σ2 H2 => wipe σ2 vs = wipe σ vs ∧ tt σ2 H2 fun b H3 => if b = true then te σ2 H3 R else C H3)
    (fin : ∀ H', Same H H' → H' D = some (.lst ((xs.filter p).map f)) → Qd H') :
    ∃ W : Nat → Nat → Hp → Prop, (∃ m, W 0 m (upd H D (.lst []))) ∧ ∀ i m H, W i m H →
      ((Itl K a).stop i H ∧ Qd H) ∨ ((Itl K a).go i H ∧ ∃ Nx : Hp → Prop, (∀ H', Nx H' → ∃ m', m' < m ∧ W (i + 1) m' H') ∧ ∀ x H', (Itl K a).yld i H x H' → g x (wipe σ vs) H' fun σ2 H2 => wipe σ2 vs = wipe σ vs ∧ tt σ2 H2 fun b H3 =>
        if b = true then te σ2 H3 fun y H4 => ∃ acc, H4 D = some (.lst acc) ∧ acc.length < sizeLine ∧ Nx (upd H4 D (.lst (acc ++ [y]))) else Nx H3) := by
  refine lc_list (K := K) (a := a) (xs := xs) (fun i H' => Same H H' ∧ H' D = some (.lst (((xs.take i).filter p).map f))) ⟨same_upd hD, upd_same⟩ (fun i H' _ h => h.1.seq hS) ?_ ?_
  · rintro i x H2 hi ⟨s2, e2⟩
    have hil : i < xs.length := (List.getElem?_eq_some_iff.mp hi).1
    refine turn i x H2 _ _ hi s2 (fun hp => ?_) (fun hp => ?_)
    · refine ⟨_, e2, ?_, fun b o h => ?_, ?_⟩
      · rw [List.length_map]
        refine Nat.lt_of_le_of_lt (List.length_filter_le _ _) ?_
        rw [List.length_take]
        exact Nat.lt_of_le_of_lt (Nat.min_le_left _ _) (Nat.lt_of_lt_of_le (show i < 10000 by omega) (by decide))
      · rw [upd_ne (ne_of_none h hD)]
        exact s2 _ _ h
      · rw [upd_same, List.take_add_one, hi, List.filter_append, List.map_append]
        show _ = some (HO.lst (_ ++ List.map f (List.filter p [x])))
        rw [List.filter_cons_of_pos hp]
        rfl
    · refine ⟨s2, ?_⟩
      rw [e2, List.take_add_one, hi, List.filter_append, List.map_append]
      show _ = some (HO.lst (_ ++ List.map f (List.filter p [x])))
      rw [List.filter_cons_of_neg (by rw [hp]; exact Bool.false_ne_true)]
      show _ = some (HO.lst (_ ++ []))
      rw [List.append_nil]
  · rintro H' ⟨s, e⟩
    rw [List.take_of_length_le (Nat.le_refl _)] at e
    exact fin H' s e
theorem cut_to (xs : List V) (i : Nat) : cutV xs none (some (i : Int)) = xs.take i := by
  unfold cutV
  rw [HT.sIx_none, show HT.sIx xs.length xs.length (some (i : Int)) = min i xs.length from HT.sIx_nat xs.length xs.length i, Nat.sub_zero, List.drop_zero]
  by_cases h : i ≤ xs.length
  · rw [Nat.min_eq_left h]
  · rw [Nat.min_eq_right (by omega), List.take_of_length_le (Nat.le_refl _), List.take_of_length_le (by omega)]
theorem cut_from (xs : List V) (i : Nat) : cutV xs (some (i : Int)) none = xs.drop i := by
  unfold cutV
  rw [HT.sIx_none, show HT.sIx xs.length 0 (some (i : Int)) = min i xs.length from HT.sIx_nat xs.length 0 i]
  by_cases h : i ≤ xs.length
  · rw [Nat.min_eq_left h, List.take_of_length_le (by rw [List.length_drop]; omega)]
  · rw [Nat.min_eq_right (by omega), List.drop_of_length_le (Nat.le_refl _), List.drop_of_length_le (by omega)]
    exact List.take_nil
section
variable {X : Cx} {K' : PySem.W.Frag}
/-! the rules with the written part by its own name (for blocks) -/
theorem pe_fldK (hK : X.K = K') {e : Expr} {f : Str} {pos : Pos} {ta : TE} (ha : PE X e ta) (hb : attributeBase e f X.env (eval e X.env) = eval e X.env) : PE X (.Attribute e f pos) (tFld K' ta f) := by
  subst hK
  exact pe_fld ha hb
theorem ix_listK (hK : X.K = K') : IxR X (rIxL K') := by
  subst hK
  exact ix_list
theorem ix_tupK (hK : X.K = K') : IxR X (rIxT K') := by
  subst hK
  exact ix_tup
theorem sl_listK (hK : X.K = K') : SlR X (rSlL K') := by
  subst hK
  exact sl_list
theorem sl_tupAK (hK : X.K = K') : SlR X (rSlA K') := by
  subst hK
  exact sl_tupA
theorem op_eqDK (hK : X.K = K') (hu : X.A.units + 64 < cLine) : OpR X (compareOp .Eq) (rEqD K') := by
  subst hK
  exact op_eqD hu
theorem op_neDK (hK : X.K = K') (hu : X.A.units + 64 < cLine) : OpR X (compareOp .NotEq) (rNeD K') := by
  subst hK
  exact op_neD hu
theorem op_in_seqK (hK : X.K = K') : OpR X (compareOp .In) (rIn K' false) := by
  subst hK
  exact op_in_seq
end
section
variable {X : Cx}
/-- a statement and what follows it, with a word between -/
def tCutJ (t u : TS) : TS := fun D σ H => ∃ Mid : L2.St → Hp → Prop, t { D with nx := Mid } σ H ∧ ∀ σ' H', Mid σ' H' → u D σ' H'
theorem pss_cutJ {st : Stmt} {rest : List Stmt} {t u : TS} (h1 : PS X st t) (h2 : PSs X rest u) : PSs X (st :: rest) (tCutJ t u) := by
  refine ⟨fun pins s σ H D I h => ?_⟩
  obtain ⟨Mid, hm, hu⟩ := h
  refine wpAny_execs_cons (thn (h1.run pins s σ H { D with nx := Mid } I hm) fun f s1 q => ?_)
  cases f with
  | next =>
    obtain ⟨σ', H', I', q⟩ := q
    exact h2.run pins s1 σ' H' D I' (hu σ' H' q)
  | ret v => exact q
  | brk => exact q
  | cont => exact q
end
theorem nl_tup {K : PySem.W.Frag} {H H' : Hp} {a : Addr} {xs : List V} (s : NL H H') (h : SqT K H a xs) : SqT K H' a xs := by
  rcases h with (h | ⟨o, h⟩) | h
  · exact .inl (.inl (s _ _ (fun _ z => by cases z) h))
  · exact .inl (.inr ⟨o, s _ _ (fun _ z => by cases z) h⟩)
  · exact .inr h
theorem mem_cut {xs : List V} {lo hi : Option Int} {v : V} (h : v ∈ cutV xs lo hi) : v ∈ xs := List.mem_of_mem_drop (List.mem_of_mem_take h)
theorem len_cut (xs : List V) (lo hi : Option Int) : (cutV xs lo hi).length ≤ xs.length := by
  unfold cutV
  rw [List.length_take, List.length_drop]
  omega
/-- a comprehension over a list that leaves places out; the heap stays -/
theorem lc_someI {K : PySem.W.Frag} {a : Addr} {xs : List V} {H : Hp} {D : Addr} (hD : H D = none) (hS : SqL K H a xs) (hl : xs.length ≤ 10000) (p : Nat → Bool) (f : Nat → V)
    {g : TG} {tt : TT} {te : TE} {vs : List Nat} {σ : L2.St} {Qd : Hp → Prop}
    (turn : ∀ (i : Nat) (x : V) (H2 : Hp) (R : V → Hp → Prop) (C : Hp → Prop), xs[i]? = some x → Same H H2 → (p i = true → R (f i) H2) → (p i = false → C H2) → g x (wipe σ vs) H2 fun σ2 H2 => wipe σ2 vs = wipe σ vs ∧ tt σ2 H2 fun b H3 => if b = true then te σ2 H3 R else C H3)
    (fin : ∀ H', Same H H' → H' D = some (.lst (((List.range xs.length).filter p).map f)) → Qd H') :
    ∃ W : Nat → Nat → Hp → Prop, (∃ m, W 0 m (upd H D (.lst []))) ∧ ∀ i m H, W i m H →
      ((Itl K a).stop i H ∧ Qd H) ∨ ((Itl K a).go i H ∧ ∃ Nx : Hp → Prop, (∀ H', Nx H' → ∃ m', m' < m ∧ W (i + 1) m' H') ∧ ∀ x H', (Itl K a).yld i H x H' → g x (wipe σ vs) H' fun σ2 H2 => wipe σ2 vs = wipe σ vs ∧ tt σ2 H2 fun b H3 =>
        if b = true then te σ2 H3 fun y H4 => ∃ acc, H4 D = some (.lst acc) ∧ acc.length < sizeLine ∧ Nx (upd H4 D (.lst (acc ++ [y]))) else Nx H3) := by
  refine lc_list (K := K) (a := a) (xs := xs) (fun i H' => Same H H' ∧ H' D = some (.lst (((List.range i).filter p).map f))) ⟨same_upd hD, upd_same⟩ (fun i H' _ h => h.1.seq hS) ?_ ?_
  · rintro i x H2 hi ⟨s2, e2⟩
    have hil : i < xs.length := (List.getElem?_eq_some_iff.mp hi).1
    refine turn i x H2 _ _ hi s2 (fun hp => ?_) (fun hp => ?_)
    · refine ⟨_, e2, ?_, fun b o h => ?_, ?_⟩
      · rw [List.length_map]
        refine Nat.lt_of_le_of_lt (List.length_filter_le _ _) ?_
        rw [List.length_range]
        exact Nat.lt_of_lt_of_le (show i < 10000 by omega) (by decide)
      · rw [upd_ne (ne_of_none h hD)]
        exact s2 _ _ h
      · rw [upd_same, List.range_succ, List.filter_append, List.map_append, List.filter_cons_of_pos hp]
        rfl
    · refine ⟨s2, ?_⟩
      rw [e2, List.range_succ, List.filter_append, List.map_append, List.filter_cons_of_neg (by rw [hp]; exact Bool.false_ne_true)]
      show _ = some (HO.lst (_ ++ []))
      rw [List.append_nil]
  · rintro H' ⟨s, e⟩
    exact fin H' s e
section
variable {X : Cx} {CX : CXT} {k : Nat} {f : Addr} {fd : FuncData} {ps ks : List Str} {sp : Sp} {E : XK} {x : Str} {p pos : Pos} {kws : List Keyword} {tk : TA} {g : List Value → List Value → List Value} {gV : List V → List V → List V}
/-- f(k = v, ..) -/
theorem pe_callN0 (F : FnOk X.prog X.w X.K X.mg X.base CX k f fd ps sp) (hr : Room k X.A) (hg : Gl X x) (hm : X.mg x = some (.ref f)) (hk : PySem.W.keepIn X.K (.ref f) = true) (hb : KBn X.K fd ps 0 ks g gV) (hx : Passes CX X E) (hkw : PK X kws tk)
    (hall : (backToKw pos (keywordEach kws X.env)).all (·.1.isSome) = true := by rfl) (hks : (backToKw pos (keywordEach kws X.env)).filterMap (·.1) = ks := by rfl) (hdb : (x == ("__debug__" : Str)) = false := by decide)
    (hpl : ((backTo pos (starEach [] X.env)).any (·.1) || (backToKw pos (keywordEach kws X.env)).any (·.1.isNone)) = false := by rfl) :
    PE X (.Call (.Name x p) [] kws pos) (tCallN 0 ks.length sp gV E tNil tk) := by
  refine ⟨fun pins s σ H Q I h => ?_⟩
  refine wpAny_Call_Name_kw (ld_glob I hg hm ?_ hdb)
  refine PySem.W.callWith_KW0 (h₀ := X.base) I.ok.mod.kin hk hall ?_ hpl
  refine thn (hkw.run pos pins s σ H _ I h) fun ws s2 ⟨zs, H2, I2, rz, l1, l2, q2⟩ => ⟨I2.kIn, ?_⟩
  rw [hks]
  exact run_fnN (us := []) (vs := []) F hr hb hx I2 .nil rz rfl l2 q2
end
/-- keywords of a def without defaults -/
theorem kbn_of {K : PySem.W.Frag} {x qual : Str} {st : Stmt} {f : Addr} {fd : FuncData} {ps : List Str} (F : Fun K x qual st f fd) (n : Nat) (ks : List Str) (g : List Value → List Value → List Value) (gV : List V → List V → List V)
    (hrel : ∀ {vs : List V} {us : List Value} {zs : List V} {ws : List Value}, Vals vs us → Vals zs ws → Vals (gV vs zs) (g us ws))
    (h : ∀ (kV doc pm : Value) (an : Option Addr) (cdv ct : Value) (us ws : List Value), us.length = n → ws.length = ks.length → bindArgs (PySem.W.fnOf x qual (defArgs st) (defBody st) (defScope st) .none kV doc pm an cdv ct) ⟨us, ks.zip ws⟩ = pure (ps.zip (g us ws))) : KBn K fd ps n ks g gV := by
  obtain ⟨oc, od, kV, doc, pm, an, cdv, ct, osl, rfl, lk, hcd⟩ := F.ex
  exact ⟨fun s us ws _ l1 l2 => .of_eq (h kV doc pm an cdv ct us ws l1 l2), hrel⟩
def gsw {α : Type} (l : List α) : List α := match l with
  | [a, b] => [b, a]
  | l => l
theorem gsw_rel {zs : List V} {ws : List Value} (h : Vals zs ws) : Vals (gsw zs) (gsw ws) := by
  cases h with
  | nil => exact .nil
  | cons r1 h =>
    cases h with
    | nil => exact .cons r1 .nil
    | cons r2 h =>
      cases h with
      | nil => exact .cons r2 (.cons r1 .nil)
      | cons r3 h => exact .cons r1 (.cons r2 (.cons r3 h))
/-- a comprehension over range(n): what it makes is told by G -/
theorem lc_genR {n : Nat} {H : Hp} {D : Addr} (hD : H D = none) (hl : n ≤ 10000) (G : Nat → V → Hp → Prop) (hG : ∀ j v H1 H2, NL H1 H2 → G j v H1 → G j v H2)
    {g : TG} {tt : TT} {te : TE} {vs : List Nat} {σ : L2.St} {Qd : Hp → Prop}
    (turn : ∀ (i : Nat) (H2 : Hp) (R : V → Hp → Prop) (C : Hp → Prop), i < n → Same H H2 → (∀ v H3, Same H2 H3 → G i v H3 → R v H3) → g (.int (0 + i)) (wipe σ vs) H2 fun σ2 H2 => wipe σ2 vs = wipe σ vs ∧ tt σ2 H2 fun b H3 => if b = true then te σ2 H3 R else C H3)
    (fin : ∀ H' acc, Same H H' → H' D = some (.lst acc) → acc.length = n → (∀ j v, acc[j]? = some v → G j v H') → Qd H') :
    ∃ W : Nat → Nat → Hp → Prop, (∃ m, W 0 m (upd H D (.lst []))) ∧ ∀ i m H, W i m H →
      ((Itr 0 n).stop i H ∧ Qd H) ∨ ((Itr 0 n).go i H ∧ ∃ Nx : Hp → Prop, (∀ H', Nx H' → ∃ m', m' < m ∧ W (i + 1) m' H') ∧ ∀ x H', (Itr 0 n).yld i H x H' → g x (wipe σ vs) H' fun σ2 H2 => wipe σ2 vs = wipe σ vs ∧ tt σ2 H2 fun b H3 =>
        if b = true then te σ2 H3 fun y H4 => ∃ acc, H4 D = some (.lst acc) ∧ acc.length < sizeLine ∧ Nx (upd H4 D (.lst (acc ++ [y]))) else Nx H3) := by
  refine lc_range (lo := 0) (n := n) (fun i H' => Same H H' ∧ ∃ acc, H' D = some (.lst acc) ∧ acc.length = i ∧ ∀ j v, acc[j]? = some v → G j v H') ⟨same_upd hD, [], upd_same, rfl, fun j v h => by simp at h⟩ ?_ ?_
  · rintro i H2 hi ⟨s2, acc, e2, l2, g2⟩
    refine turn i H2 _ _ hi s2 fun v H3 s3 hv => ?_
    have e3 := s3 _ _ e2
    refine ⟨acc, e3, ?_, fun b o h => ?_, acc ++ [v], upd_same, ?_, fun j w hj => ?_⟩
    · rw [l2]
      exact Nat.lt_of_lt_of_le (show i < 10000 by omega) (by decide)
    · rw [upd_ne (ne_of_none h hD)]
      exact s3 _ _ (s2 _ _ h)
    · rw [List.length_append, l2]
      rfl
    · refine hG j w H3 _ (NL.at_ e3) ?_
      by_cases h : j < acc.length
      · rw [List.getElem?_append_left h] at hj
        exact hG j w H2 H3 (NL.of s3) (g2 j w hj)
      · rw [List.getElem?_append_right (by omega)] at hj
        have : j = i := by
          have := (List.getElem?_eq_some_iff.mp hj).1
          rw [List.length_singleton] at this
          omega
        subst this
        rw [l2, Nat.sub_self] at hj
        have : v = w := Option.some.inj hj
        subst this
        exact hv
  · rintro H' ⟨s, acc, e, l, g⟩
    exact fin H' acc s e l g
/-- [k for k in range(n) if a draw ..] -/
theorem lc_drawK {P : Int → Prop} {d D : Addr} {m n : Nat} {H1 : Hp} (hD : H1 D = none) (dr : Dr P d m H1) (hn : n ≤ 1000) {g : TG} {tt : TT} {te : TE} {vs : List Nat} {σ : L2.St} {Qd : Hp → Prop}
    (turn : ∀ (i : Nat) (H2 : Hp) (R : V → Hp → Prop) (C : Hp → Prop), i < n → Dr P d (m + i) H2 → (∀ H3, But d H2 H3 → Dr P d (m + i + 1) H3 → R (.int (i : Int)) H3 ∧ C H3) → g (.int (0 + i)) (wipe σ vs) H2 fun σ2 H2 => wipe σ2 vs = wipe σ vs ∧ tt σ2 H2 fun b H3 => if b = true then te σ2 H3 R else C H3)
    (fin : ∀ H' (ks : List Nat), (∀ k ∈ ks, k < n) → ks.length ≤ n → But d H1 H' → Dr P d (m + n) H' → H' D = some (.lst (ks.map fun (k : Nat) => V.int (k : Int))) → Qd H') :
    ∃ W : Nat → Nat → Hp → Prop, (∃ m, W 0 m (upd H1 D (.lst []))) ∧ ∀ i m H, W i m H →
      ((Itr 0 n).stop i H ∧ Qd H) ∨ ((Itr 0 n).go i H ∧ ∃ Nx : Hp → Prop, (∀ H', Nx H' → ∃ m', m' < m ∧ W (i + 1) m' H') ∧ ∀ x H', (Itr 0 n).yld i H x H' → g x (wipe σ vs) H' fun σ2 H2 => wipe σ2 vs = wipe σ vs ∧ tt σ2 H2 fun b H3 =>
        if b = true then te σ2 H3 fun y H4 => ∃ acc, H4 D = some (.lst acc) ∧ acc.length < sizeLine ∧ Nx (upd H4 D (.lst (acc ++ [y]))) else Nx H3) := by
  have nD : D ≠ d := dr.ne hD
  refine lc_range (lo := 0) (n := n) (fun i H' => ∃ ks : List Nat, (∀ k ∈ ks, k < n) ∧ ks.length ≤ i ∧ But d H1 H' ∧ Dr P d (m + i) H' ∧ H' D = some (.lst (ks.map fun (k : Nat) => V.int (k : Int)))) ⟨[], (fun _ h => nomatch h), Nat.le_refl _, But.new hD, dr.upd nD, upd_same⟩ ?_ ?_
  · rintro i H2 hi ⟨ks, hk, hl, b2, dr2, e2⟩
    refine turn i H2 _ _ hi dr2 fun H3 b3 dr3 => ⟨?_, ks, hk, by omega, b2.trans b3, dr3, b3 _ _ nD e2⟩
    refine ⟨_, b3 _ _ nD e2, ?_, ks ++ [i], ?_, ?_, ?_, ?_, ?_⟩
    · rw [List.length_map]
      exact Nat.lt_of_lt_of_le (show ks.length < 1001 by omega) (by decide)
    · intro k h
      rcases List.mem_append.mp h with h | h
      · exact hk k h
      · rw [List.mem_singleton.mp h]
        exact hi
    · rw [List.length_append, List.length_singleton]
      omega
    · exact (b2.trans b3).mut hD
    · exact (dr3.upd nD).mono (by omega)
    · rw [upd_same, List.map_append]
      rfl
  · rintro H' ⟨ks, hk, hl, b, dr', e⟩
    exact fin H' ks hk hl b dr' e
theorem in_ints (k : Nat) (S : List Nat) : inV (.int (k : Int)) (S.map fun (j : Nat) => V.int (j : Int)) = decide (k ∈ S) := by
  unfold inV
  rw [List.any_map]
  induction S with
  | nil => rfl
  | cons j S ih =>
    rw [List.any_cons, ih]
    show (((j : Int) == (k : Int)) || decide (k ∈ S)) = _
    rw [Bool.eq_iff_iff, Bool.or_eq_true, beq_iff_eq, decide_eq_true_eq, decide_eq_true_eq, List.mem_cons]
    constructor
    · rintro (h | h)
      · exact .inl (by omega)
      · exact .inr h
    · rintro (h | h)
      · exact .inl (by omega)
      · exact .inr h
theorem flat_ints (S : List Nat) : (S.map fun (j : Nat) => V.int (j : Int)).all flatV = true := by
  rw [List.all_eq_true]
  intro v hv
  obtain ⟨j, _, rfl⟩ := List.mem_map.mp hv
  rfl
end KA
namespace KA
open PySem PySem.SeqAt
open AutoSeq1 (wpAny_loadPart')
open MeetsSeq MeetsSeq2 MeetsSeq3 SeqRoads2
section
variable {prog : Program} {w : World} {A : Around} {R : Result → Shared → Prop}
/-- two lists whose items are equal, turn by turn: != is False -/
theorem ne_turns (p q : Addr) (N : Nat) (J : Nat → Shared → Prop) (hJ : GQ.ListI prog w A (fun e s' => R (.error e) s') p q N J)
    (done : ∀ s, J N s → R (.ok (.ret (.bool false))) s) : ∀ (k i : Nat), N - i = k → i ≤ N → ∀ s, J i s →
      wpAny (model prog w) A.in1 (Builtin.«list.__eq__.loop» ⟨[.ref p, .ref q, rawInt i, rawInt 3], []⟩) (GQ.FinOf prog w A R) (fun e s' => R (.error e) s') s
  | 0, i, hk, hi, s, hs => by
    obtain ⟨xs, ys, m, m2, gp, gq, zp, zq, _⟩ := hJ _ _ hs
    have iN : i = N := by omega
    have last : R (.ok (.ret (.bool false))) s := done s (iN ▸ hs)
    obtain ⟨hh, gg, dd, kk, oo⟩ := s
    wp_walk using wpAny_loadPart' gp, wpAny_loadPart' gq
    have n1 : xs[((i : Nat) : Int).toNat]? = none := by simp; omega
    have n2 : ys[((i : Nat) : Int).toNat]? = none := by simp; omega
    rw [n1, n2]
    wp_walk using wpAny_loadPart' gp, wpAny_loadPart' gq
    show R (.ok (.ret (.bool (xs.size != ys.size)))) _
    rw [zp, zq]
    simpa using last
  | k + 1, i, hk, hi, s, hs => by
    obtain ⟨xs, ys, m, m2, gp, gq, zp, zq, tn⟩ := hJ _ _ hs
    have ip : i < xs.size := by omega
    have iq : i < ys.size := by omega
    have tt := tn ip iq
    obtain ⟨hh, gg, dd, kk, oo⟩ := s
    wp_walk using wpAny_loadPart' gp, wpAny_loadPart' gq
    have n1 : xs[((i : Nat) : Int).toNat]? = some xs[i] := by simp [ip]
    have n2 : ys[((i : Nat) : Int).toNat]? = some ys[i] := by simp [iq]
    have up : ((i : Int) + 1) = ((i + 1 : Nat) : Int) := by omega
    rw [n1, n2]
    refine wpAny_bind (wpAny_mono tt (fun r s2 h2 => ?_) fun _ _ x => x)
    obtain ⟨er, h2⟩ := h2
    subst er
    have next := ne_turns p q N J hJ done k (i + 1) (by omega) (by omega) s2 h2
    obtain ⟨hh2, gg2, dd2, kk2, oo2⟩ := s2
    wp_walk
    rw [up]
    exact ⟨plainId_quiet plain_eq_loop _, codeAny_builtin entry_eq_loop (by rw [Around.under_plainId plain_eq_loop _]; exact next)⟩
theorem ne_lists (p q : Addr) (N : Nat) (J : Nat → Shared → Prop) (hJ : GQ.ListI prog w A (fun e s' => R (.error e) s') p q N J)
    (done : ∀ s, J N s → R (.ok (.ret (.bool false))) s) {s : Shared} (hs : J 0 s) :
    wpAny (model prog w) A.in1 (Builtin.«list.__ne__» ⟨[.ref p, .ref q], []⟩) (GQ.FinOf prog w A R) (fun e s' => R (.error e) s') s := by
  obtain ⟨xs, ys, m, m2, gp, gq, zp, zq, _⟩ := hJ _ _ hs
  have all := ne_turns (A := A) (R := R) p q N J hJ done _ 0 rfl (Nat.zero_le _) s hs
  obtain ⟨hh, gg, dd, kk, oo⟩ := s
  have sub := AutoSeq1.sub_list_list
  have same : ¬ (xs.size != ys.size) = true := by simp [zp, zq]
  wp_walk using wpAny_loadPart' gp, wpAny_loadPart' gq
  exact ⟨plainId_quiet plain_eq_loop _, codeAny_builtin entry_eq_loop (by rw [Around.under_plainId plain_eq_loop _]; exact all)⟩
end
section
variable {prog : Program} {w : World} {A : Around} {E : Value → Shared → Prop} {s : Shared}
theorem rc_ne {p q : Addr} {N : Nat} {Q : Value → Shared → Prop} (hu : A.units < cLine) (J : Nat → Shared → Prop) (hJ : GQ.ListI prog w A E p q N J)
    (done : ∀ s, J N s → Q (.bool false) s) (hs : J 0 s) : wpAny (model prog w) A (richCompare .NotEq (.ref p) (.ref q)) Q E s := by
  obtain ⟨xs, ys, m, m2, gp, gq, _, _, _⟩ := hJ _ _ hs
  refine wpAny_richCompare_same_room (op := .NotEq) ⟨_, gp, rfl⟩ ⟨_, gq, rfl⟩ F.slot_list_ne (GQ.call_here F.slot_list_ne ⟨_, gp, rfl⟩ F.entry_list_ne (F.args_list_ne_2 _ _) ?_) hu
  exact ne_lists (R := wants (fun v s' => v ≠ .notImplemented ∧ Q v s') E) p q N J hJ (fun s' z => ⟨(fun x => nomatch x), done s' z⟩) hs
end
open L2 in
/-- xs != ys, where the items are equal by their own == : False -/
def rNeG (D : Eqv) : R2 := fun x y H Q => DList D x y H ∧ ∀ H', Ext H H' → Q (.bl false) H'
open L2 in
theorem op_neG {X : Cx} {n : Nat} {D : Eqv} (hD : Mon D) (h : EqG X n D) (hr : Room (n + 1) X.A) : OpR X (compareOp .NotEq) (rNeG D) := by
  intro pins s σ H x y v u Q I rx ry hq
  obtain ⟨⟨a, b, xs, ys, rfl, rfl, ha, hb, p⟩, q⟩ := hq
  cases rx
  cases ry
  show wpAny (model X.prog X.w) X.A (richCompare .NotEq (.ref a) (.ref b)) (EP X pins σ Q) X.xe s
  refine rc_ne (N := xs.length) hr.units0 (fun _ s' => LoopI X pins σ H s') (fun i s' z => ?_) (fun s' z => ?_) ⟨H, I, Ext.rfl'⟩
  · obtain ⟨H1, I1, e1⟩ := id z
    obtain ⟨_, its, k, r, e⟩ := I1.hok a _ (e1 _ _ ha)
    obtain ⟨_, its2, k2, r2, e2⟩ := I1.hok b _ (e1 _ _ hb)
    exact ⟨its.toArray, its2.toArray, k, k2, e, e2, by rw [List.size_toArray, ← r.length], by rw [List.size_toArray, ← r2.length, ← p.1], fun g1 g2 => turnG hD h ⟨hr, rfl⟩ p r r2 i g1 g2 s' z⟩
  · obtain ⟨H1, I1, e1⟩ := z
    exact ⟨.bl false, H1, I1, rfl, q H1 e1⟩
end KA
namespace KA
open PySem PySem.Spec PyProof.Rows L2
/-- a comprehension over a list that leaves places out; what it asks may make new things -/
theorem lc_someX {K : PySem.W.Frag} {a : Addr} {xs : List V} {H : Hp} {D : Addr} (hD : H D = none) (hS : SqL K H a xs) (hl : xs.length ≤ 10000) (p : Nat → Bool) (f : Nat → V)
    {g : TG} {tt : TT} {te : TE} {vs : List Nat} {σ : L2.St} {Qd : Hp → Prop}
    (turn : ∀ (i : Nat) (x : V) (H2 : Hp) (R : V → Hp → Prop) (C : Hp → Prop), xs[i]? = some x → Same H H2 → (p i = true → ∀ H3, Same H2 H3 → R (f i) H3) → (p i = false → ∀ H3, Same H2 H3 → C H3) → g x (wipe σ vs) H2 fun σ2 H2 => wipe σ2 vs = wipe σ vs ∧ tt σ2 H2 fun b H3 => if b = true then te σ2 H3 R else C H3)
    (fin : ∀ H', Same H H' → H' D = some (.lst (((List.range xs.length).filter p).map f)) → Qd H') :
    ∃ W : Nat → Nat → Hp → Prop, (∃ m, W 0 m (upd H D (.lst []))) ∧ ∀ i m H, W i m H →
      ((Itl K a).stop i H ∧ Qd H) ∨ ((Itl K a).go i H ∧ ∃ Nx : Hp → Prop, (∀ H', Nx H' → ∃ m', m' < m ∧ W (i + 1) m' H') ∧ ∀ x H', (Itl K a).yld i H x H' → g x (wipe σ vs) H' fun σ2 H2 => wipe σ2 vs = wipe σ vs ∧ tt σ2 H2 fun b H3 =>
        if b = true then te σ2 H3 fun y H4 => ∃ acc, H4 D = some (.lst acc) ∧ acc.length < sizeLine ∧ Nx (upd H4 D (.lst (acc ++ [y]))) else Nx H3) := by
  refine lc_list (K := K) (a := a) (xs := xs) (fun i H' => Same H H' ∧ H' D = some (.lst (((List.range i).filter p).map f))) ⟨same_upd hD, upd_same⟩ (fun i H' _ h => h.1.seq hS) ?_ ?_
  · rintro i x H2 hi ⟨s2, e2⟩
    have hil : i < xs.length := (List.getElem?_eq_some_iff.mp hi).1
    refine turn i x H2 _ _ hi s2 (fun hp H3 s3 => ?_) (fun hp H3 s3 => ?_)
    · refine ⟨_, s3 _ _ e2, ?_, fun b o h => ?_, ?_⟩
      · rw [List.length_map]
        refine Nat.lt_of_le_of_lt (List.length_filter_le _ _) ?_
        rw [List.length_range]
        exact Nat.lt_of_lt_of_le (show i < 10000 by omega) (by decide)
      · rw [upd_ne (ne_of_none h hD)]
        exact s3 _ _ (s2 _ _ h)
      · rw [upd_same, List.range_succ, List.filter_append, List.map_append, List.filter_cons_of_pos hp]
        rfl
    · refine ⟨s2.trans s3, ?_⟩
      rw [s3 _ _ e2, List.range_succ, List.filter_append, List.map_append, List.filter_cons_of_neg (by rw [hp]; exact Bool.false_ne_true)]
      show _ = some (HO.lst (_ ++ []))
      rw [List.append_nil]
  · rintro H' ⟨s, e⟩
    exact fin H' s e
theorem lc_someR {n : Nat} {H : Hp} {D : Addr} (hD : H D = none) (hl : n ≤ 10000) (p : Nat → Bool) (f : Nat → V)
    {g : TG} {tt : TT} {te : TE} {vs : List Nat} {σ : L2.St} {Qd : Hp → Prop}
    (turn : ∀ (i : Nat) (H2 : Hp) (R : V → Hp → Prop) (C : Hp → Prop), i < n → Same H H2 → (p i = true → ∀ H3, Same H2 H3 → R (f i) H3) → (p i = false → ∀ H3, Same H2 H3 → C H3) → g (.int (0 + i)) (wipe σ vs) H2 fun σ2 H2 => wipe σ2 vs = wipe σ vs ∧ tt σ2 H2 fun b H3 => if b = true then te σ2 H3 R else C H3)
    (fin : ∀ H', Same H H' → H' D = some (.lst (((List.range n).filter p).map f)) → Qd H') :
    ∃ W : Nat → Nat → Hp → Prop, (∃ m, W 0 m (upd H D (.lst []))) ∧ ∀ i m H, W i m H →
      ((Itr 0 n).stop i H ∧ Qd H) ∨ ((Itr 0 n).go i H ∧ ∃ Nx : Hp → Prop, (∀ H', Nx H' → ∃ m', m' < m ∧ W (i + 1) m' H') ∧ ∀ x H', (Itr 0 n).yld i H x H' → g x (wipe σ vs) H' fun σ2 H2 => wipe σ2 vs = wipe σ vs ∧ tt σ2 H2 fun b H3 =>
        if b = true then te σ2 H3 fun y H4 => ∃ acc, H4 D = some (.lst acc) ∧ acc.length < sizeLine ∧ Nx (upd H4 D (.lst (acc ++ [y]))) else Nx H3) := by
  refine lc_range (lo := 0) (n := n) (fun i H' => Same H H' ∧ H' D = some (.lst (((List.range i).filter p).map f))) ⟨same_upd hD, upd_same⟩ ?_ ?_
  · rintro i H2 hil ⟨s2, e2⟩
    refine turn i H2 _ _ hil s2 (fun hp H3 s3 => ?_) (fun hp H3 s3 => ?_)
    · refine ⟨_, s3 _ _ e2, ?_, fun b o h => ?_, ?_⟩
      · rw [List.length_map]
        refine Nat.lt_of_le_of_lt (List.length_filter_le _ _) ?_
        rw [List.length_range]
        exact Nat.lt_of_lt_of_le (show i < 10000 by omega) (by decide)
      · rw [upd_ne (ne_of_none h hD)]
        exact s3 _ _ (s2 _ _ h)
      · rw [upd_same, List.range_succ, List.filter_append, List.map_append, List.filter_cons_of_pos hp]
        rfl
    · refine ⟨s2.trans s3, ?_⟩
      rw [s3 _ _ e2, List.range_succ, List.filter_append, List.map_append, List.filter_cons_of_neg (by rw [hp]; exact Bool.false_ne_true)]
      show _ = some (HO.lst (_ ++ []))
      rw [List.append_nil]
  · rintro H' ⟨s, e⟩
    exact fin H' s e
end KA
namespace KA
open PySem PySem.Spec PyProof.Rows L2
/-! ### shares as pairs -/
/-- by what both are divided -/
def prt (n d : Int) : Int := if d < 0 then -(Int.gcd n d : Int) else (Int.gcd n d : Int)
def shr (n d : Int) : Int × Int := (n.fdiv (prt n d), d.fdiv (prt n d))
theorem gcd_pos {n d : Int} (h : d ≠ 0) : 0 < Int.gcd n d := by
  have : Int.gcd n d ≠ 0 := fun z => h (Int.gcd_eq_zero_iff.mp z).2
  omega
theorem prt_ne {n d : Int} (h : d ≠ 0) : prt n d ≠ 0 := by
  have := gcd_pos (n := n) h
  unfold prt
  split <;> omega
theorem prt_dvd1 (n d : Int) : prt n d ∣ n := by
  unfold prt
  split
  · exact Int.neg_dvd.mpr (Int.gcd_dvd_left ..)
  · exact Int.gcd_dvd_left ..
theorem prt_dvd2 (n d : Int) : prt n d ∣ d := by
  unfold prt
  split
  · exact Int.neg_dvd.mpr (Int.gcd_dvd_right ..)
  · exact Int.gcd_dvd_right ..
theorem shr1 (n d : Int) : prt n d * (shr n d).1 = n := by
  show prt n d * n.fdiv (prt n d) = n
  rw [Int.fdiv_eq_ediv_of_dvd (prt_dvd1 n d)]
  exact Int.mul_ediv_cancel' (prt_dvd1 n d)
theorem shr2 (n d : Int) : prt n d * (shr n d).2 = d := by
  show prt n d * d.fdiv (prt n d) = d
  rw [Int.fdiv_eq_ediv_of_dvd (prt_dvd2 n d)]
  exact Int.mul_ediv_cancel' (prt_dvd2 n d)
theorem shr_pos {n d : Int} (h : d ≠ 0) : 0 < (shr n d).2 := by
  have e := shr2 n d
  have g := gcd_pos (n := n) h
  by_cases hd : d < 0
  · have hp : prt n d < 0 := by unfold prt; rw [if_pos hd]; omega
    rcases Int.lt_trichotomy (shr n d).2 0 with z | z | z
    · have := Int.mul_pos_of_neg_of_neg hp z
      omega
    · rw [z] at e
      omega
    · exact z
  · have hp : 0 < prt n d := by unfold prt; rw [if_neg hd]; omega
    rcases Int.lt_trichotomy (shr n d).2 0 with z | z | z
    · have := Int.mul_neg_of_pos_of_neg hp z
      omega
    · rw [z] at e
      omega
    · exact z
theorem prt_abs (n d : Int) : (prt n d).natAbs = Int.gcd n d := by
  unfold prt
  split <;> omega
theorem shr_low {n d : Int} (h : d ≠ 0) : Int.gcd (shr n d).1 (shr n d).2 = 1 := by
  have g := gcd_pos (n := n) h
  have e : Int.gcd (prt n d * (shr n d).1) (prt n d * (shr n d).2) = (prt n d).natAbs * Int.gcd (shr n d).1 (shr n d).2 := Int.gcd_mul_left ..
  rw [shr1, shr2, prt_abs] at e
  have : Int.gcd n d * 1 = Int.gcd n d * Int.gcd (shr n d).1 (shr n d).2 := by omega
  exact (Nat.eq_of_mul_eq_mul_left g this).symm
/-- of the worth u over g -/
def Eqf (x : Int × Int) (u g : Int) : Prop := x.1 * g = u * x.2
theorem shr_eqf (n d : Int) : Eqf (shr n d) n d := by
  have a := shr1 n d
  have b := shr2 n d
  show (shr n d).1 * d = n * (shr n d).2
  generalize prt n d = p at a b
  generalize (shr n d).1 = x at a ⊢
  generalize (shr n d).2 = y at b ⊢
  subst a b
  grind
theorem eqf_trans {n d u g : Int} (h : d ≠ 0) (e : n * g = u * d) : Eqf (shr n d) u g := by
  have a := shr_eqf n d
  unfold Eqf at a ⊢
  refine Int.eq_of_mul_eq_mul_right h ?_
  grind
theorem eqf_plus {x y : Int × Int} {a b c d : Int} (hx : Eqf x a b) (hy : Eqf y c d) (x0 : 0 < x.2) (y0 : 0 < y.2) : Eqf (shr (x.1 * y.2 + y.1 * x.2) (x.2 * y.2)) (a * d + c * b) (b * d) := by
  unfold Eqf at hx hy
  refine eqf_trans (Int.mul_ne_zero (by omega) (by omega)) ?_
  grind
theorem eqf_minus {x y : Int × Int} {a b c d : Int} (hx : Eqf x a b) (hy : Eqf y c d) (x0 : 0 < x.2) (y0 : 0 < y.2) : Eqf (shr (x.1 * y.2 - y.1 * x.2) (x.2 * y.2)) (a * d - c * b) (b * d) := by
  unfold Eqf at hx hy
  refine eqf_trans (Int.mul_ne_zero (by omega) (by omega)) ?_
  grind
theorem eqf_times {x y : Int × Int} {a b c d : Int} (hx : Eqf x a b) (hy : Eqf y c d) (x0 : 0 < x.2) (y0 : 0 < y.2) : Eqf (shr (x.1 * y.1) (x.2 * y.2)) (a * c) (b * d) := by
  unfold Eqf at hx hy
  refine eqf_trans (Int.mul_ne_zero (by omega) (by omega)) ?_
  grind
def sgn (m : Int) : Int := if m < 0 then -1 else 1
theorem below_iff {x y : Int × Int} {a b c d : Int} (hx : Eqf x a b) (hy : Eqf y c d) (x0 : 0 < x.2) (y0 : 0 < y.2) (hb : b ≠ 0) (hd : d ≠ 0) : (x.1 * y.2 < y.1 * x.2) ↔ (sgn (b * d) * a * d < sgn (b * d) * c * b) := by
  unfold Eqf at hx hy
  have bd : b * d ≠ 0 := Int.mul_ne_zero hb hd
  have hp : 0 < sgn (b * d) * (b * d) := by
    unfold sgn
    split <;> omega
  have xy : 0 < x.2 * y.2 := Int.mul_pos x0 y0
  rw [← Int.mul_lt_mul_right hp, ← Int.mul_lt_mul_right (a := x.2 * y.2) (b := sgn (b * d) * a * d) xy]
  have e1 : x.1 * y.2 * (sgn (b * d) * (b * d)) = sgn (b * d) * a * d * (x.2 * y.2) := by grind
  have e2 : y.1 * x.2 * (sgn (b * d) * (b * d)) = sgn (b * d) * c * b * (x.2 * y.2) := by grind
  rw [e1, e2]
/-! ### sums -/
def PP : List (Int × Int) → Int
  | [] => 1
  | x :: l => x.2 * PP l
def NN : List (Int × Int) → Int
  | [] => 0
  | x :: l => x.1 * PP l + NN l * x.2
theorem PP_app : ∀ l m : List (Int × Int), PP (l ++ m) = PP l * PP m
  | [], m => by show PP m = 1 * PP m; omega
  | x :: l, m => by
    show x.2 * PP (l ++ m) = x.2 * PP l * PP m
    rw [PP_app l m, Int.mul_assoc]
theorem NN_app : ∀ l m : List (Int × Int), NN (l ++ m) = NN l * PP m + NN m * PP l
  | [], m => by
    show NN m = 0 * PP m + NN m * 1
    omega
  | x :: l, m => by
    show x.1 * PP (l ++ m) + NN (l ++ m) * x.2 = (x.1 * PP l + NN l * x.2) * PP m + NN m * (x.2 * PP l)
    rw [NN_app l m, PP_app l m]
    grind
theorem PP_snoc (l : List (Int × Int)) (x : Int × Int) : PP (l ++ [x]) = PP l * x.2 := by
  rw [PP_app]
  show PP l * (x.2 * 1) = _
  rw [Int.mul_one]
theorem NN_snoc (l : List (Int × Int)) (x : Int × Int) : NN (l ++ [x]) = NN l * x.2 + x.1 * PP l := by
  rw [NN_app]
  show NN l * (x.2 * 1) + (x.1 * 1 + 0 * x.2) * PP l = _
  grind
theorem PP_rev : ∀ l : List (Int × Int), PP l.reverse = PP l
  | [] => rfl
  | x :: l => by
    rw [List.reverse_cons, PP_snoc, PP_rev l]
    exact Int.mul_comm ..
theorem NN_rev : ∀ l : List (Int × Int), NN l.reverse = NN l
  | [] => rfl
  | x :: l => by
    rw [List.reverse_cons, NN_snoc, NN_rev l, PP_rev l]
    show NN l * x.2 + x.1 * PP l = x.1 * PP l + NN l * x.2
    omega
/-! ### sizes -/
def Sz (k : Nat) (n : Int) : Prop := n.natAbs < 2 ^ k
theorem Sz.mono {k m : Nat} {n : Int} (h : Sz k n) (e : k ≤ m) : Sz m n := Nat.lt_of_lt_of_le h (Nat.pow_le_pow_right (by decide) e)
theorem Sz.mul {k m : Nat} {a b : Int} (ha : Sz k a) (hb : Sz m b) : Sz (k + m) (a * b) := by
  unfold Sz
  rw [Int.natAbs_mul, Nat.pow_add]
  exact Nat.mul_lt_mul'' ha hb
theorem Sz.add {k : Nat} {a b : Int} (ha : Sz k a) (hb : Sz k b) : Sz (k + 1) (a + b) := by
  unfold Sz at *
  rw [Nat.pow_succ]
  omega
theorem Sz.sub {k : Nat} {a b : Int} (ha : Sz k a) (hb : Sz k b) : Sz (k + 1) (a - b) := by
  unfold Sz at *
  rw [Nat.pow_succ]
  omega
theorem Sz.mw {k m : Nat} {a b : Int} (ha : Sz k a) (hb : Sz m b) (h : k + m + 2 ≤ 1000000) : CMulW a b := wide_mul (ha.mono (Nat.le_succ k)) (hb.mono (Nat.le_succ m)) (by omega) (by omega) (by omega)
theorem Sz.div {k : Nat} {n d : Int} (p : Int) (h : Sz k n) (e : p * d = n) (hp : p ≠ 0) : Sz k d := by
  unfold Sz at *
  subst e
  rw [Int.natAbs_mul] at h
  refine Nat.lt_of_le_of_lt ?_ h
  exact Nat.le_mul_of_pos_left _ (by omega)
theorem shr_sz {k : Nat} {n d : Int} (hd : d ≠ 0) (hn : Sz k n) (h : Sz k d) : Sz k (shr n d).1 ∧ Sz k (shr n d).2 := ⟨hn.div (prt n d) (shr1 n d) (prt_ne hd), h.div (prt n d) (shr2 n d) (prt_ne hd)⟩
/-- // by any number but 0 below 2 ^ 9000 -/
def CDivX (_ j : Int) : Prop := j ≠ 0 ∧ j.natAbs.log2 < 9000
theorem op_fdivX {X : Cx} : OpR X (binaryOp .FloorDiv) (rI CDivX fun i j => .int (i.fdiv j)) := opI fun i j _ _ _ _ _ hc q => floordiv_int hc.1 q (.inl (PyProof.noPylong_of_log2 hc.2))
theorem gcd_turn (a b : Nat) (h : 0 < b) : Nat.gcd b (a % b) = Nat.gcd a b := by
  rw [Nat.gcd_comm a b, Nat.gcd_rec b a, Nat.gcd_comm]
theorem pg_tupK {X : Cx} {K' : PySem.W.Frag} (hK : X.K = K') {es : List Expr} {k : Nat} {pos : Pos} {t : TGs} {n : Nat} (hc : X.calm = true) (h : PGs X es t)
    (hn : (assignEach es X.env).length = n := by rfl) (hst : (assignEach es X.env).findIdx? (·.1) = none := by rfl) : PG X (.Tuple es k pos) (gTup K' n t) := by
  subst hK
  exact pg_tup hc h hn hst
end KA
namespace KA
open PySem PySem.Spec PyProof.Rows L2
/-- what isinstance asks of an own class -/
structure ICls (K : PySem.W.Frag) (C : Addr) : Prop where
  ha : PySem.W.findIn K (.ref C) "__class__" = some (some (.builtin "object.__class__"))
  hn : PySem.W.specialIn K (.builtin "object.__class__") "__get__" = some (some (.builtin "getset_descriptor.__get__"))
  htk : PySem.W.takesIn K (.builtin "object.__class__") = some true
  hm : PySem.W.mroIn K C (.type "object") = some true
  kit : PySem.W.kitOne K (.ref C) (.ref C) = some true
theorem ICls.ty {K : PySem.W.Frag} {C : Addr} (i : ICls K C) (cl : Cls K C) {H : Hp} {p dx : Addr} {fs : List (Str × V)} (h : H p = some (.ins C dx fs)) : TyX K H (.ref p) (.ref C) := .base (.ins h cl i.ha i.hn i.htk i.hm)
theorem prt_log {n d : Int} {k : Nat} (hd : d ≠ 0) (h : Sz k d) (hk : k ≤ 8000) : (prt n d).natAbs.log2 < 9000 := by
  rw [prt_abs]
  refine Nat.lt_of_lt_of_le (PySem.Flt.log2_lt_of (k := k + 1) (by omega) ?_) (by omega : k + 1 ≤ 9000)
  have : Int.gcd n d ≤ d.natAbs := Nat.le_of_dvd (by omega) (Int.gcd_dvd_natAbs_right n d)
  exact Nat.lt_of_le_of_lt this (h.mono (Nat.le_succ k))
theorem abs_nat (n : Int) : (if n < 0 then -n else n) = (n.natAbs : Int) := by
  split <;> omega
end KA
namespace KA
open PySem PySem.Spec PyProof.Rows L2
/-! ### isinstance of a caught error that has fields of its own -/
theorem xd_at {P : Program} {w : World} {H : Hp} {h : Heap} {dd : Addr} {fs : List (Str × V)} (hok : HOk P w H h) (e : H dd = some (.xd fs)) : ∃ od, h.get? dd = some od := by
  obtain ⟨mA, ⟨od, es, ep, ho, _⟩, _⟩ := (show ObjOk P w H h dd (.xd fs) from hok dd _ e)
  exact ⟨od, ho⟩
theorem kit_exc {K : PySem.W.Frag} {D x : Addr} {ox : Obj} {od : Option Obj} (C : ExcC K D) : PySem.W.KitX K (.ref x) (.ref D) (fun h => PySem.W.InstAt h x ox D od) :=
  PySem.W.kitx_exc (by obtain ⟨cd, hc, _⟩ := PySem.W.any_some C.hd; rw [hc]; rfl) C.hg C.hk C.hs C.ha C.hn C.ht C.hm
def rIsD (K : PySem.W.Frag) (a : Addr) (cls : Value) (d : Option Addr) : List V → Hp → VK → Prop := fun xs H Q => ∃ (D dd : Addr) (fs : List (Str × V)) (c : V) (u : Value) (b : Bool), xs = [.ref a, c] ∧ cls = .ref D ∧ d = some dd ∧ H dd = some (.xd fs) ∧ ExcC K D ∧ ClsV c u ∧ PySem.W.kitOne K (.ref D) u = some b ∧ Q (.bl b) H
def rIsDT (K : PySem.W.Frag) (a : Addr) (cls : Value) (d : Option Addr) : List V → Hp → VK → Prop := fun xs H Q => ∃ (D dd tp : Addr) (fs : List (Str × V)) (cs : List V) (us : List Value) (b : Bool), xs = [.ref a, .ref tp] ∧ cls = .ref D ∧ d = some dd ∧ H dd = some (.xd fs) ∧ ExcC K D ∧ H tp = some (.tup cs) ∧ Paired ClsV cs us ∧ PySem.W.kitAny K (.ref D) us = some b ∧ Q (.bl b) H
section
variable {X : Cx} {a : Addr} {oe : Obj} {cls : Value} {d : Option Addr} {pn : List (Addr × Obj)}
theorem inst_of {pins : List (Addr × Obj)} {σ : L2.St} {H : Hp} {s : Shared} {D dd : Addr} {fs : List (Str × V)} (hz : Zc (.ref D) (some dd) oe) (hf : ∃ vs, oe.data = .fields vs) (I : Inv (X.suite a ((a, oe) :: pn)) pins σ H s) (e : H dd = some (.xd fs)) : ∃ od, PySem.W.InstAt s.heap a oe D (some od) := by
  obtain ⟨hget, _⟩ := I.pin (a, oe) (List.mem_append.mpr (.inl List.mem_cons_self))
  obtain ⟨vs, hv⟩ := hf
  obtain ⟨od, ho⟩ := xd_at I.hok e
  exact ⟨od, hget, hz.1, by unfold PySem.W.notCls; rw [hv] <;> rfl, by rw [hz.2]; exact ho⟩
theorem call_isD (hz : Zc cls d oe) (hf : ∃ vs, oe.data = .fields vs) : CallR (X.suite a ((a, oe) :: pn)) (.builtin "isinstance") (rIsD X.K a cls d) := by
  intro pins s σ H xs us Q I r h
  obtain ⟨D, dd, fs, c, u, b, rfl, rfl, rfl, e, C, k, hk, q⟩ := h
  obtain ⟨u1, u2, rfl, r1, r2⟩ := vals2 r
  cases (show u1 = Value.ref a from r1)
  have e2 := k.eq r2
  subst e2
  obtain ⟨od, J⟩ := inst_of hz hf I e
  exact PySem.W.kia_one (kit_exc C) I.kIn J hk (fun z => nomatch z) fun tk => ⟨.bl b, H, I.tok tk, rfl, q⟩
theorem call_isDT (hz : Zc cls d oe) (hf : ∃ vs, oe.data = .fields vs) : CallR (X.suite a ((a, oe) :: pn)) (.builtin "isinstance") (rIsDT X.K a cls d) := by
  intro pins s σ H xs us Q I r h
  obtain ⟨D, dd, tp, fs, cs, ws, b, rfl, rfl, rfl, e, C, hT, k, hk, q⟩ := h
  obtain ⟨u1, u2, rfl, r1, r2⟩ := vals2 r
  cases (show u1 = Value.ref a from r1)
  cases (show u2 = Value.ref tp from r2)
  obtain ⟨od, J⟩ := inst_of hz hf I e
  obtain ⟨_, its, rv, o, h1, h2, n, h3⟩ := (show ObjOk X.prog X.w H s.heap tp (.tup cs) from I.hok tp _ hT)
  have e3 := ClsV.all k rv
  subst e3
  obtain ⟨oc, od', dt, sl⟩ := o
  simp only at h2 h3
  subst h2 h3
  exact PySem.W.kia_tup (kit_exc C) I.kIn J h1 hk (fun z => nomatch z) fun tk => ⟨.bl b, H, I.tok tk, rfl, q⟩
end
theorem call_isiS {X : Cx} {K' : PySem.W.Frag} (hK : X.K = K') : CallR X (.builtin "isinstance") (rIsi K') := by
  subst hK
  exact call_isi
/-! ### calls that let nothing out, bodies that are never run -/
theorem passF {X : Cx} : Passes (L2.CX X.prog X.w) X E0 := passes_call takes0 (fun _ _ _ _ h => h)
/-! ### keywords: which of what is handed in, of the defaults, of the keywords stands where -/
def kw1 {α : Type} (p : Nat × Nat) (us its ws : List α) : List α := match p with
  | (0, i) => us[i]?.toList
  | (1, i) => its[i]?.toList
  | (_, i) => ws[i]?.toList
def kw {α : Type} : List (Nat × Nat) → List α → List α → List α → List α
  | [], _, _, _ => []
  | p :: f, us, its, ws => kw1 p us its ws ++ kw f us its ws
theorem vals_at : ∀ {xs : List V} {us : List Value}, Vals xs us → ∀ i : Nat, (xs[i]? = none ∧ us[i]? = none) ∨ ∃ x u, xs[i]? = some x ∧ us[i]? = some u ∧ RelV x u
  | _, _, .nil, _ => .inl ⟨rfl, rfl⟩
  | _, _, .cons r _, 0 => .inr ⟨_, _, rfl, rfl, r⟩
  | _, _, .cons _ t, i + 1 => by
    rw [List.getElem?_cons_succ, List.getElem?_cons_succ]
    exact vals_at t i
theorem vals_one {xs : List V} {us : List Value} (h : Vals xs us) (i : Nat) : Vals xs[i]?.toList us[i]?.toList := by
  rcases vals_at h i with ⟨e1, e2⟩ | ⟨x, u, e1, e2, r⟩
  · rw [e1, e2]
    exact .nil
  · rw [e1, e2]
    exact .cons r .nil
theorem kw_rel : ∀ (f : List (Nat × Nat)) {vs ds zs : List V} {us is ws : List Value}, Vals vs us → Vals ds is → Vals zs ws → Vals (kw f vs ds zs) (kw f us is ws)
  | [], _, _, _, _, _, _, _, _, _ => .nil
  | (0, i) :: f, _, _, _, _, _, _, h1, h2, h3 => (vals_one h1 i).append (kw_rel f h1 h2 h3)
  | (1, i) :: f, _, _, _, _, _, _, h1, h2, h3 => (vals_one h2 i).append (kw_rel f h1 h2 h3)
  | (_ + 2, i) :: f, _, _, _, _, _, _, h1, h2, h3 => (vals_one h3 i).append (kw_rel f h1 h2 h3)
/-! ### PearlError's own way: one field -/
def spPearl (K : PySem.W.Frag) (f : Str) : Sp := fun vs H Q _ => ∃ (a C : Addr) (v : V), vs = [.ref a, v] ∧ OexC K C ∧ PySem.W.findIn K (.ref C) f = some none ∧ H a = some (exo a C none) ∧
  ∀ dx, H dx = none → dx ≠ a → Q .non (upd (upd H dx (exd dx [(f, v)])) a (exo a C (some dx)))
theorem pearl_same {H : Hp} {a dx : Addr} {o1 o2 o3 : HO} {fs : List (Str × V)} (ha : H a = none) (hd : H dx = none) : Same H (upd (del (upd (upd (upd H a o1) dx o2) a o3) a) dx (.xd fs)) := fun b o e => by
  rw [upd_ne (ne_of_none e hd), del_ne (ne_of_none e ha), upd_ne (ne_of_none e ha), upd_ne (ne_of_none e hd), upd_ne (ne_of_none e ha)]
  exact e
end KA
/-! errors of own classes over any built-in class of errors: made, stored into -/
namespace KA
open PySem PySem.W PySem.Calls PyProof.Rows
section
open Builtin Builtin.ObjectAttr
variable {prog : Program} {w : World} {A : Around} {E : Value → Shared → Prop} {R : Result → Shared → Prop} {hp : Heap} {g : Array GenState} {d : Drawn} {t : Nat} {os : OsState} {B : String} {bmB : List Value}
theorem gosa {K : W.Frag} {name : Str} {tk : Tok} {v : Value} {x C : Addr} {fv : Array Value} {cd : ClassData} {bm : List Value} (SF : StoreFacts B bmB "object.__setattr__" "object")
    (X : K.In hp) (hx : hp.get? x = some { cls := .ref C, data := .fields fv }) (hcd : W.clsIn K C = some cd) (hmr : cd.mro = .ref C :: bm) (hm : W.excTail bmB bm = true) (hh : cd.hasDict = true) (ha : W.findIn K (.ref C) name = some none)
    (hq : ∀ h' tk' dx, (∀ b o, b ≠ x → hp.get? b = some o → h'.get? b = some o) → hp.objs.size ≤ dx → dx ≠ x → h'.get? x = some { cls := .ref C, dict := some dx, data := .fields fv } →
      h'.Ns1 dx (fun y => if y = name then some v else none) → R (.ok (.ret .none)) ⟨h', g, d, tk', os⟩) :
    codeAny (model prog w) A (.call (.builtin "object.__setattr__") ⟨[.ref x, .str name tk, v], []⟩) R ⟨hp, g, d, t, os⟩ := by
  have I : W.InstAt hp x { cls := .ref C, data := .fields fv } C none := ⟨hx, rfl, rfl, trivial⟩
  have hxs : x ≠ hp.objs.size := Nat.ne_of_lt (Heap.lt_size hx)
  have tl : W.excTail bmB cd.mro = true := by rw [hmr]; exact hm
  have hob : cd.mro.contains (.type "object") = true := (W.excTail_contains "object" _ tl).trans SF.hasOwner
  have sub : W.Looks (model prog w) hp (isInstance (.ref x) (.type "object")) true := I.type.andThen (W.looks_mroIn X (by unfold W.mroIn; rw [hcd, Option.bind_some, if_neg (by rw [hmr]; simp), hob]))
  have SO := F.store_object
  refine codeAny_call_builtin SO.slot.plain SO.entry (@W.check_slot (model prog w) _ _ ⟨hp, g, d, t, os⟩ "object.__setattr__" "object" "__setattr__" (.ref x) [.str name tk, v] [] _ SO.kind SO.split sub (SO.args (.ref x) (.str name tk) v) ?_)
  have L1 : W.Looks (model prog w) hp (mroOf (.ref C)) cd.mro := (W.looks_clsIn X hcd).andThen .now
  have L2 : W.Looks (model prog w) hp (storeTaker? none) none := .now
  have L3 : W.Looks (model prog w) hp (classData C) cd := W.looks_clsIn X hcd
  rw [W.osa_eq, refuse_eq]
  refine wpAny_bind (wpAny_bind (I.type.at (wpAny_bind (L1.at ?_))))
  rw [W.excTail_pass _ (SF.passes _) _ tl]
  refine wpAny_pure (wpAny_bind (I.type.at (wpAny_bind ((W.looks_findIn X ha).at (wpAny_bind (L2.at ?_))))))
  show wpAny _ _ (storeInOwnDict (.ref x) (.ref C) (.str name tk) name v false) _ _ _
  obtain ⟨nm, bs, mro, ns, qn, hd, sn, sb, ab, col, del⟩ := cd
  dsimp only at hh
  subst hh
  unfold storeInOwnDict ownDictForStores
  repeat (first | with_reducible refine HandSPX.store_in_new ?_ ?_ | with_reducible refine wpAny_loadPart_at hx ?_ | with_reducible refine L3.at ?_ | wp_step)
  · exact ⟨_, #[], _, (Heap.get?_update_ne _ _ _ _ hxs.symm).trans (Heap.get?_push_at rfl rfl), rfl, fun e he => absurd he (by simp), fun _ => rfl⟩
  · intro h' tk' hn' hs
    have hx₁ : (hp.push { cls := .type "dict", data := .dict #[] }).get? x = some { cls := .ref C, data := .fields fv } := Heap.get?_push_of_some _ hx
    refine hq h' tk' hp.objs.size (fun b o hb ho => ?_) (Nat.le_refl _) hxs.symm ?_ hn'
    · exact (hs.2 b (Nat.ne_of_lt (Heap.lt_size ho))).trans ((Heap.get?_update_ne _ _ _ _ hb).trans (Heap.get?_push_of_some _ ho))
    · exact (hs.2 x hxs).trans (Heap.get?_update_self _ hx₁ rfl)
theorem gosa_old {K : W.Frag} {name : Str} {tk : Tok} {v : Value} {x C dx : Addr} {fv : Array Value} {cd : ClassData} {bm : List Value} {m0 : Str → Option Value} {nl : List Str} (SF : StoreFacts B bmB "object.__setattr__" "object")
    (X : K.In hp) (hx : hp.get? x = some { cls := .ref C, dict := some dx, data := .fields fv }) (hns : hp.Ns1 dx m0) (hw : Within m0 nl) (hz : nl.length ≤ 1000) (hcd : W.clsIn K C = some cd) (hmr : cd.mro = .ref C :: bm) (hm : W.excTail bmB bm = true) (hh : cd.hasDict = true)
    (ha : W.findIn K (.ref C) name = some none)
    (hq : ∀ h' tk', (∀ b o, b ≠ dx → hp.get? b = some o → h'.get? b = some o) → h'.Ns1 dx (fun y => if y = name then some v else m0 y) → R (.ok (.ret .none)) ⟨h', g, d, tk', os⟩) :
    codeAny (model prog w) A (.call (.builtin "object.__setattr__") ⟨[.ref x, .str name tk, v], []⟩) R ⟨hp, g, d, t, os⟩ := by
  obtain ⟨oD, esD, epD, hoD, hdD, _⟩ := hns.count hw
  have I : W.InstAt hp x { cls := .ref C, dict := some dx, data := .fields fv } C (some oD) := ⟨hx, rfl, rfl, hoD⟩
  have tl : W.excTail bmB cd.mro = true := by rw [hmr]; exact hm
  have hob : cd.mro.contains (.type "object") = true := (W.excTail_contains "object" _ tl).trans SF.hasOwner
  have sub : W.Looks (model prog w) hp (isInstance (.ref x) (.type "object")) true := I.type.andThen (W.looks_mroIn X (by unfold W.mroIn; rw [hcd, Option.bind_some, if_neg (by rw [hmr]; simp), hob]))
  have SO := F.store_object
  refine codeAny_call_builtin SO.slot.plain SO.entry (@W.check_slot (model prog w) _ _ ⟨hp, g, d, t, os⟩ "object.__setattr__" "object" "__setattr__" (.ref x) [.str name tk, v] [] _ SO.kind SO.split sub (SO.args (.ref x) (.str name tk) v) ?_)
  have L1 : W.Looks (model prog w) hp (mroOf (.ref C)) cd.mro := (W.looks_clsIn X hcd).andThen .now
  have L2 : W.Looks (model prog w) hp (storeTaker? none) none := .now
  have L3 : W.Looks (model prog w) hp (classData C) cd := W.looks_clsIn X hcd
  rw [W.osa_eq, refuse_eq]
  refine wpAny_bind (wpAny_bind (I.type.at (wpAny_bind (L1.at ?_))))
  rw [W.excTail_pass _ (SF.passes _) _ tl]
  refine wpAny_pure (wpAny_bind (I.type.at (wpAny_bind ((W.looks_findIn X ha).at (wpAny_bind (L2.at ?_))))))
  show wpAny _ _ (storeInOwnDict (.ref x) (.ref C) (.str name tk) name v false) _ _ _
  obtain ⟨nm, bs, mro, ns, qn, hd, sn, sb, ab, col, del⟩ := cd
  dsimp only at hh
  subst hh
  unfold storeInOwnDict ownDictForStores
  repeat (first | with_reducible refine OEX.store_in_old hns hw hz ?_ | with_reducible refine wpAny_loadPart_at hx ?_ | with_reducible refine L3.at ?_ | wp_step)
  intro h' tk' hn' hs
  exact hq h' tk' (fun b o hb ho => (hs.2 b hb).trans ho) hn'
end
end KA
namespace KA
open PySem PySem.Spec PyProof.Rows L2
/-- what the written part says of a class of errors over the built-in one B -/
structure OexB (newId : String) (bmB : List Value) (K : PySem.W.Frag) (C : Addr) : Prop where
  cls : ∃ nm q N bs bm sn sub ab col dd k0 k1 k2 k3 k5, K.lookup C = some (excClassObj nm q C N bs bm true sn sub ab col dd k0 k1 k2 k3 k5 newId) ∧ PySem.W.excTail bmB bm = true
  sa : PySem.W.findIn K (.ref C) "__setattr__" = some (some (.builtin "object.__setattr__"))
  exC : PySem.W.subIn K (.ref C) (.type "BaseException") = some true
  tyC : PySem.W.typeIn K (.ref C) = some (.type "type")
  kC : PySem.W.keepIn K (.ref C) = true
section
variable {X : Cx} {pins : List (Addr × Obj)} {σ : L2.St} {H : Hp} {s : Shared} {a C dx : Addr} {f : Str} {y : V} {u : Value} {fs : List (Str × V)} {Q : Unit → Shared → Prop} {E : Value → Shared → Prop} {A : Around} {B newId initId : String} {bmB : List Value}
theorem gost_new (SF : StoreFacts B bmB "object.__setattr__" "object") (T : OexB newId bmB X.K C) (I : L2.Inv X pins σ H s) (e : H a = some (exo a C none)) (hno : PySem.W.findIn X.K (.ref C) f = some none) (ry : RelV y u)
    (h : ∀ dx s', H dx = none → dx ≠ a → L2.Inv X pins σ (upd (upd H dx (exd dx [(f, y)])) a (exo a C (some dx))) s' → Q () s') : wpAny (model X.prog X.w) A (setAttr (.ref a) f u) Q E s := by
  obtain ⟨nm, q, N, bs, bm, sn, sub, ab, col, dd, k0, k1, k2, k3, k5, hC, hbm⟩ := T.cls
  have hcl : PySem.W.clsIn X.K C = some { name := nm, bases := bs, mro := .ref C :: bm, ns := N, qualname := q, hasDict := true, slotNames := sn, subclasses := sub, abstract := ab, collection := col, hasDel := false } := by unfold PySem.W.clsIn; rw [hC] <;> rfl
  obtain ⟨t1, ho⟩ := exo_at I.hok e
  obtain ⟨hp, g, d, t, os⟩ := s
  refine PySem.W.set_plain I.kIn (ox := { cls := .ref C, dict := none, data := .fields #[.ref t1, .none, .none, .none, .bool false, .none] }) (od := none) ⟨ho, rfl, rfl, trivial⟩ T.sa ?_
  refine gosa SF I.kIn ho hcl rfl hbm rfl hno (fun h' tk' dx k dn dne hx hn => ?_)
  have hnd : H dx = none := I.hok.fresh dn
  have nd : ∀ {b : Addr} {o : Obj}, hp.get? b = some o → b ≠ dx := fun {b o} q => Nat.ne_of_lt (Nat.lt_of_lt_of_le (Heap.lt_size q) dn)
  have na : ∀ {b : Addr}, H b = none → b ≠ a := fun {b} n z => by
    rw [z, e] at n
    cases n
  have U : Un X.fs [] H (upd (upd H dx (exd dx [(f, y)])) a (exo a C (some dx))) hp h' := {
    keep := fun b o q n _ _ => k b o (na n) q
    slot := fun b o q n _ _ => ⟨o.slots, k b o (na n) q⟩
    free := fun b o q n _ => by rw [upd_ne (na n), upd_ne (nd q)]; exact n
    there := fun b o q _ => by
      by_cases hb : b = a
      · exact ⟨_, by rw [hb]; exact hx⟩
      · exact ⟨o, k b o hb q⟩
    tups := fun b xs q => by rw [upd_ne (at_ne e q exo_tup), upd_ne (ne_of_none q hnd)]; exact q
    frzs := fun b o v q => by rw [upd_ne (at_ne e q exo_frz), upd_ne (ne_of_none q hnd)]; exact q
    tbls := fun b ps q => ⟨#[], by rw [upd_ne (at_ne e q exo_tbl), upd_ne (ne_of_none q hnd), q]; simp⟩ }
  refine h dx _ hnd dne (I.un (t' := tk') U fun b o q => ?_)
  by_cases hb : b = a
  · subst hb
    rw [upd_same] at q
    cases q
    exact exo_ok hx
  · rw [upd_ne hb] at q
    by_cases hd : b = dx
    · subst hd
      rw [upd_same] at q
      cases q
      exact exd_ok hn (relO_put (fs := []) ry fun g => True.intro)
    · rw [upd_ne hd] at q
      exact (I.hok b o q).stay (fun c v hc z => k c v (by
          rcases hc with hc | hc
          · rw [hc]
            exact hb
          · exact at_ne e hc exo_own) z)
        (fun c hc => by rw [upd_ne (at_ne e hc exo_own), upd_ne (ne_of_none hc hnd)]; exact hc) (fun c xs hc => by rw [upd_ne (at_ne e hc exo_tup), upd_ne (ne_of_none hc hnd)]; exact hc)
theorem gost_old (SF : StoreFacts B bmB "object.__setattr__" "object") (T : OexB newId bmB X.K C) (I : L2.Inv X pins σ H s) (e : H a = some (exo a C (some dx))) (ed : H dx = some (exd dx fs)) (hl : fs.length ≤ 900) (hno : PySem.W.findIn X.K (.ref C) f = some none) (ry : RelV y u)
    (h : ∀ s', L2.Inv X pins σ (upd H dx (exd dx ((f, y) :: fs))) s' → Q () s') : wpAny (model X.prog X.w) A (setAttr (.ref a) f u) Q E s := by
  obtain ⟨nm, q, N, bs, bm, sn, sub, ab, col, dd, k0, k1, k2, k3, k5, hC, hbm⟩ := T.cls
  have hcl : PySem.W.clsIn X.K C = some { name := nm, bases := bs, mro := .ref C :: bm, ns := N, qualname := q, hasDict := true, slotNames := sn, subclasses := sub, abstract := ab, collection := col, hasDel := false } := by unfold PySem.W.clsIn; rw [hC] <;> rfl
  obtain ⟨t1, ho⟩ := exo_at I.hok e
  obtain ⟨mA, hns, rel⟩ := exd_at I.hok ed
  have hw := within_of rel
  obtain ⟨hp, g, d, t, os⟩ := s
  obtain ⟨oD, _, _, hoD, _, _⟩ := hns.count hw
  refine PySem.W.set_plain I.kIn (ox := { cls := .ref C, dict := some dx, data := .fields #[.ref t1, .none, .none, .none, .bool false, .none] }) (od := some oD) ⟨ho, rfl, rfl, hoD⟩ T.sa ?_
  refine gosa_old SF I.kIn ho hns hw (by rw [List.length_map]; omega) hcl rfl hbm rfl hno (fun h' tk' k hn => ?_)
  have hd : ∃ o, h'.get? dx = some o := by
    obtain ⟨o, _, _, e', _⟩ := hn
    exact ⟨o, e'⟩
  exact h _ (I.write (t' := tk') (x := dx) (e := dx) (o := exd dx ((f, y) :: fs)) (by rw [ed]; exact True.intro) (.inl rfl) k hd (exd_ok hn (relO_put ry rel)))
theorem goinit {us : List Value} {Q : Value → Shared → Prop} (FB : ExcBaseFacts B newId initId bmB) (T : OexB newId bmB X.K C) (I : L2.Inv X pins σ H s) (e : H a = some (exo a C none)) (hl : us.length ≤ sizeLine) (h : ∀ s', L2.Inv X pins σ H s' → Q .none s') :
    wpAny (model X.prog X.w) A (call (.builtin initId) (.ref a :: us)) Q E s := by
  obtain ⟨nm, q, N, bs, bm, sn, sub, ab, col, dd, k0, k1, k2, k3, k5, hC, hbm⟩ := T.cls
  obtain ⟨t1, ho⟩ := exo_at I.hok e
  obtain ⟨hp, g, d, t, os⟩ := s
  refine wpAny_call (PySem.HandSPX.init_base FB (fun Y => PySem.W.excTail_contains Y bm hbm) (I.kIn _ _ hC) ho hl fun h' t2 k hx => ?_)
  have J := I.write (t' := t) (x := a) (e := a) (o := exo a C none) (by rw [e]; exact True.intro) (.inl rfl) k ⟨_, hx⟩ (exo_ok hx)
  have eu : upd H a (exo a C none) = H := by
    funext b
    by_cases hb : b = a
    · rw [hb, upd_same, e]
    · rw [upd_ne hb]
  rw [eu] at J
  exact h _ J
end
/-- B.__init__(self, ..) -/
def tBI (newId : String) (bmB : List Value) (K : PySem.W.Frag) (ta : TA) : TE := fun σ H Q => ta σ H fun vs H1 => ∃ (a C : Addr) (ws : List V), vs = .ref a :: ws ∧ ws.length ≤ 1000 ∧ OexB newId bmB K C ∧ H1 a = some (exo a C none) ∧ Q .non H1
/-- self.f = e -/
def tOstB (newId : String) (bmB : List Value) (K : PySem.W.Frag) (f : Str) (to te : TE) : TS := fun D σ H => te σ H fun y H1 => to σ H1 fun x H2 => ∃ a C : Addr, x = .ref a ∧ OexB newId bmB K C ∧ PySem.W.findIn K (.ref C) f = some none ∧
  ((H2 a = some (exo a C none) ∧ ∀ dx, H2 dx = none → dx ≠ a → D.nx σ (upd (upd H2 dx (exd dx [(f, y)])) a (exo a C (some dx)))) ∨
    ∃ (dx : Addr) (fs : List (Str × V)), H2 a = some (exo a C (some dx)) ∧ H2 dx = some (exd dx fs) ∧ fs.length ≤ 900 ∧ D.nx σ (upd H2 dx (exd dx ((f, y) :: fs))))
section
variable {X : Cx} {o e : Expr} {es : List Expr} {to te : TE} {ta : TA} {f : Str} {p p' p1 p2 pos : Pos} {B newId initId : String} {bmB : List Value}
/-- B.__init__(self, ..) of a built-in class of errors -/
theorem pe_binit {pl : Sem Bool} {x : Str} (FB : ExcBaseFacts B newId initId bmB) (hg : Gl X x) (hm : X.mg x = none) (hv : bootBuiltins x = some (.type B)) (htp : typeOf (.type B) = pure (.type "type")) (hst : Manifest.isStub B = false) (hhi : PySem.W.handedIn (.builtin initId) = true)
    (vV : PySem.W.findCls X.K (.type B) (.type "type") "__init__" = some (.val (.builtin initId))) (ha : PA X (e :: es) ta)
    (hc : eval (.Call (.Attribute (.Name x p1) "__init__" p2) (e :: es) [] pos) X.env = (do
      let ov ← eval (.Name x p1) X.env
      standAt p2.atName
      let (f, first) ← holding [ov] (getMethod ov "__init__" pl)
      callWith pos f first (backTo pos (starEach (e :: es) X.env)) (backToKw pos (keywordEach [] X.env))) := by rfl)
    (he : starEach (e :: es) X.env = (false, eval e X.env) :: starEach es X.env := by rfl) (hpl : (backTo pos (starEach es X.env)).any (·.1) = false := by rfl) (hn : x ≠ "__name__" := by decide) (hdb : (x == ("__debug__" : Str)) = false := by decide) :
    PE X (.Call (.Attribute (.Name x p1) "__init__" p2) (e :: es) [] pos) (tBI newId bmB X.K ta) := by
  refine ⟨fun pins s σ H Q I h => ?_⟩
  refine PySem.W.methodCall_KW (ld_blt I hg hm hv ?_ hn hdb) hc
  obtain ⟨m, fr⟩ := I.fr
  refine PySem.W.method_type fr I.ok.mod.kin htp hst vV hhi ?_
  show wpAny _ _ (callWith pos (Value.builtin initId) [] (backTo pos (starEach (e :: es) X.env)) []) _ _ _
  refine PyProof.Rows.callWith_method1 (thn (ha.run pos pins _ σ H _ (I.tok _) h) fun us s1 ⟨vs, H1, I1, r1, a, C, ws, ev, hl, T, ea, q⟩ => ?_) he hpl
  subst ev
  cases r1 with
  | @cons _ u0 _ ur ra rw' =>
    obtain rfl : u0 = Value.ref a := ra
    have hlen : ur.length ≤ sizeLine := by
      rw [← Paired.length rw', sizeLine_eq]
      omega
    exact goinit FB T I1 ea hlen fun s' J => ⟨.non, H1, J, rfl, q⟩
theorem ps_ostB (SF : StoreFacts B bmB "object.__setattr__" "object") (ho : PE X o to) (he : PE X e te) (hs : swapsWith e (some (.Attribute o f p')) pos.line X.env = pure false := by rfl) : PS X (.Assign [.Attribute o f p'] e pos) (tOstB newId bmB X.K f to te) := by
  refine ⟨fun pins s σ H D I h => ?_⟩
  refine plainObj_wpAny_Assign_Attribute (thn (he.run pins s σ H _ I h) fun v s1 ⟨y, H1, I1, r1, q1⟩ => thn (ho.run pins s1 σ H1 _ I1 q1) fun u s2 ⟨x, H2, I2, r2, a, C, ex, T, hno, q⟩ => ?_) hs
  subst ex
  obtain rfl : u = Value.ref a := r2
  rcases q with ⟨ea, q⟩ | ⟨dx, fs, ea, ed, hl, q⟩
  · exact gost_new SF T I2 ea hno r1 fun dx s' n ne J => ⟨σ, _, J, q dx n ne⟩
  · exact gost_old SF T I2 ea ed hl hno r1 fun s' J => ⟨σ, _, J, q⟩
theorem pmk_gex {CX : CXT} {x : Str} {C fI : Addr} {k : Nat} {fd : FuncData} {ps : List Str} {sp : Sp} {ds : List Value} {dvs : List V} (FB : ExcBaseFacts B newId initId bmB) (T : OexB newId bmB X.K C) (iC : PySem.W.findIn X.K (.ref C) "__init__" = some (some (.ref fI))) (tI : PySem.W.typeIn X.K (.ref fI) = some (.type "function"))
    (F1 : FnOk X.prog X.w X.K X.mg X.base CX k fI fd ps sp) (hr : Room (k + 1) X.A) (hb : Binds X.K fd ps ds) (hd : Vals dvs ds) (hx : Passes CX X (fun _ _ _ => False)) (hg : Gl X x) (hm : X.mg x = some (.ref C)) (ha : PA X (e :: es) ta)
    (hdb : (x == ("__debug__" : Str)) = false := by decide) (he : starEach (e :: es) X.env = (false, eval e X.env) :: starEach es X.env := by rfl) (hpl : (backTo pos (starEach es X.env)).any (·.1) = false := by rfl) :
    PMk X (.Call (.Name x p) (e :: es) [] pos) (tMkO C sp dvs ta) := by
  intro pins s σ H Q I h
  obtain ⟨nm, q, N, bs, bm, sn, sub, ab, col, dd, k0, k1, k2, k3, k5, hC, hbm⟩ := T.cls
  refine wpAny_Call_Name_kw (ld_glob I hg hm ?_ hdb)
  refine PySem.W.callWith_K (h₀ := X.base) I.ok.mod.kin T.kC (thn (ha.run pos pins s σ H _ I h) fun us s1 ⟨vs, H1, I1, r1, hz, q1⟩ => ⟨I1.kIn, ?_⟩) he hpl
  show wpAny _ _ (call (.ref C) us) _ _ _
  obtain ⟨hp, g, dr, tk, os⟩ := s1
  have hsz : hp.objs.size ≤ hp.objs.size + 1 := Nat.le_succ _
  have hn : H1 (hp.objs.size + 1) = none := I1.hok.fresh hsz
  have hq := q1 (hp.objs.size + 1) hn
  have kk : ∀ b o, hp.get? b = some o → ((hp.push (PySem.W.kdv_tup us)).push (PySem.HandSPX.excO C hp.objs.size)).get? b = some o := fun b o e => Heap.get?_push_of_some _ (Heap.get?_push_of_some _ e)
  have hget : ((hp.push (PySem.W.kdv_tup us)).push (PySem.HandSPX.excO C hp.objs.size)).get? (hp.objs.size + 1) = some (PySem.HandSPX.excO C hp.objs.size) := by heap_get
  have I2 : L2.Inv X pins σ (upd H1 (hp.objs.size + 1) (exo (hp.objs.size + 1) C none)) ⟨(hp.push (PySem.W.kdv_tup us)).push (PySem.HandSPX.excO C hp.objs.size), g, dr, tk, os⟩ :=
    I1.laid (t' := tk) (a := hp.objs.size + 1) (o := exo (hp.objs.size + 1) C none) (h' := (hp.push (PySem.W.kdv_tup us)).push (PySem.HandSPX.excO C hp.objs.size)) kk hsz (exo_ok hget)
  have r2 : Vals (V.ref (hp.objs.size + 1) :: (vs ++ dvs)) (Value.ref (hp.objs.size + 1) :: (us ++ ds)) := .cons rfl (r1.append hd)
  have hl : (Value.ref (hp.objs.size + 1) :: us ++ ds).length = ps.length := by
    have e := r2.length
    rw [F1.len _ _ _ _ hq] at e
    exact e.symm
  have hus : us.length ≤ sizeLine := by
    rw [← Paired.length r1, sizeLine_eq]
    omega
  refine wpAny_call (PySem.HandSPX.call_own FB (fun Y => PySem.W.excTail_contains Y bm hbm) (I1.kIn _ _ hC) (PySem.W.looks_findIn I1.kIn iC) (fun self => PySem.W.bind_fn I1.kIn self tI) hus
    (codeAny_mono (F1.run _ X.stack _ _ ⟨Value.ref (hp.objs.size + 1) :: us, []⟩ (Value.ref (hp.objs.size + 1) :: (us ++ ds)) _ _ (fun _ _ _ => False) (hr.make C us []) (I2.env0.make C us []) (hb _ (Value.ref (hp.objs.size + 1) :: us) I2.kIn hl) r2 hq) fun r s' hq' => ?_))
  cases r with
  | error er => exact hx pins σ _ _ er s' I2 hq'
  | ok fl =>
    cases fl with
    | ret u =>
      obtain ⟨v, H2, os2, bare2, un2, hok2, rv, ev, d, fs, ea, ed, hd1, q2⟩ := hq'
      subst ev
      obtain ⟨h2, g2, d2, t2, os'⟩ := s'
      exact ⟨rv, mk_end (raises_own T.exC T.tyC) I1 hsz kk un2 hok2 os2 bare2 ea ed hd1 q2⟩
    | next => exact False.elim hq'
    | brk => exact False.elim hq'
    | cont => exact False.elim hq'
end
/-- what a B.__init__ + one field of its own promises: E(v) with field f -/
def spErr (newId : String) (bmB : List Value) (K : PySem.W.Frag) (f : Str) : Sp := fun vs H Q _ => ∃ (a C : Addr) (v : V), vs = [.ref a, v] ∧ OexB newId bmB K C ∧ PySem.W.findIn K (.ref C) f = some none ∧ H a = some (exo a C none) ∧
  ∀ dx, H dx = none → dx ≠ a → Q .non (upd (upd H dx (exd dx [(f, v)])) a (exo a C (some dx)))
abbrev zdT : List Value := [.type "ZeroDivisionError", .type "ArithmeticError", .type "Exception", .type "BaseException", .type "object"]
abbrev ixT : List Value := [.type "IndexError", .type "LookupError", .type "Exception", .type "BaseException", .type "object"]
abbrev luT : List Value := [.type "LookupError", .type "Exception", .type "BaseException", .type "object"]
theorem typ_ZD : typeOf (.type "ZeroDivisionError") = pure (.type "type") := by kernel_rfl
theorem typ_IX : typeOf (.type "IndexError") = pure (.type "type") := by kernel_rfl
theorem typ_LU : typeOf (.type "LookupError") = pure (.type "type") := by kernel_rfl
end KA
namespace KA
open PySem PySem.Spec PyProof.Rows L2
/-! a try with several except clauses, each with a name of its own -/
def endsAs (D : Ends) (j : Nat) : Ends where
  nx := fun τ G => D.nx (τ.set j none) G
  rt := D.rt
  bk := fun τ G => D.bk (τ.set j none) G
  ct := fun τ G => D.ct (τ.set j none) G
abbrev HSpec := Value × Nat × (Addr → Value → Option Addr → TS)
def wAll (K : PySem.W.Frag) (Wo : WX) (D : Ends) : List HSpec → WX
  | [] => Wo
  | (c, j, t) :: more => fun k o τ G => ∃ b, PySem.W.exmOne K k c = some b ∧ (b = true → ∀ z, G z = none → t z k o (endsAs D j) (τ.set j (some (.ref z))) G) ∧ (b = false → wAll K Wo D more k o τ G)
inductive HAs (X : Cx) : List ExceptHandler → List HSpec → Prop
  | nil : HAs X [] []
  | cons {x n : Str} {c : Value} {j : Nat} {t : Addr → Value → Option Addr → TS} {s0 : Stmt} {su : List Stmt} {np hp : Pos} {hs : List ExceptHandler} {l : List HSpec} (nm : Names X x c) (hj : X.N[j]? = some n) (hl : X.env.kindOf n = some .local)
      (run : ∀ (z : Addr) (ob : Obj) (k : Value) (o : Option Addr) (pn : List (Addr × Obj)), Zc k o ob → (∃ ws, ob.data = .fields ws) → PSs (X.suite z ((z, ob) :: pn)) (s0 :: su) (t z k o)) (more : HAs X hs l) :
      HAs X (.ExceptHandler (some (.Name x np)) (some n) (s0 :: su) hp :: hs) ((c, j, t) :: l)
section
variable {X : Cx} {body : List Stmt} {h1 : ExceptHandler} {hs : List ExceptHandler} {l : List HSpec} {pos : Pos} {tb : WX → TS} {Wo : WX}
theorem ps_try_all (st : X.stack = X.env :: X.outer) (fr : X.env.frame = some X.env.locals) (nd : X.N.Nodup) (tk : Takes X Wo)
    (hb : ∀ (W : WX) (pn : List (Addr × Obj)) (xe : Value → Shared → Prop), Takes (X.tr pn xe) W → PassesOwn (model X.prog X.w) X.A X.env xe → PSs (X.tr pn xe) body (tb W))
    (hh : HAs X (h1 :: hs) l) : PS X (.Try body (h1 :: hs) [] [] pos) (fun D σ H => tb (wAll X.K Wo D l) D σ H) := by
  constructor
  intro pins s σ H D I h
  have ok := I.ok
  have frs' : X.A.frames = some (X.env :: X.outer) := ok.frames.trans (congrArg some st)
  apply wpAny_Try_except
  let xe' : Value → Shared → Prop := fun u s1 => wpAny (model X.prog X.w) X.A (noteFrame u X.env) (fun _ s2 => wpAny (model X.prog X.w) X.A (setFlight u none) (fun _ s3 => wpAny (model X.prog X.w) X.A (handleBy u X.env (h1 :: hs)) (SP X pins D) X.xe s3) X.xe s2) X.xe s1
  have land : Takes (X.tr (X.pn ++ pins) xe') (wAll X.K Wo D l) := by
    rintro u s' ⟨z, B, sI, qins, τ, G, k, o, rfl, J0, c1, c2, c3, c4, c5, c6, c7⟩
    have J : Inv X pins τ G sI := J0.ofTry ok
    have sky : Sky B (X.env :: X.outer) z (Zc k o) X.env.locals s'.heap := by
      rw [← st]
      exact c3
    show wpAny (model X.prog X.w) X.A (noteFrame (.ref z) X.env) _ _ _
    refine Sky.land Zc.steady frs' fr sky fun g fl u3 => ?_
    have J3 : Inv X pins τ G { s' with heap := g } := J.landed c1 fl.1 (c2.trans u3) c5 c6
    obtain ⟨ob, ws, e3, z3, d3⟩ := fl.there
    have noFr : z ∉ frs (X.env :: X.outer) := fun hm => by
      obtain ⟨_, ob', e', nf⟩ := Heap.FunFrames.mem fl.2.2.1 hm
      have := e3.symm.trans e'
      cases this
      exact nf _ d3
    have noL : z ≠ X.env.locals := fun q => noFr (List.mem_filterMap.mpr ⟨X.env, List.mem_cons_self, fr.trans (congrArg some q.symm)⟩)
    have noS : z ∉ X.fs := fun hm => by
      obtain ⟨en, hen, q⟩ := List.mem_filterMap.mp hm
      exact noFr (List.mem_filterMap.mpr ⟨en, List.mem_cons_of_mem _ hen, q⟩)
    have S3 := J3.suite e3 d3 c4 noL noS
    have LT : PySem.W.Looks (model X.prog X.w) g (typeOf (.ref z)) k := fun A Q E t0 kk q => wpAny_typeOf_ref (kk _ _ e3) (by rw [z3.1]; exact q)
    have each : ∀ {hs' : List ExceptHandler} {l' : List HSpec}, HAs X hs' l' → wAll X.K Wo D l' k o τ G → wpAny (model X.prog X.w) X.A (handleBy (.ref z) X.env hs') (SP X pins D) X.xe { s' with heap := g } := by
      intro hs' l' hk
      induction hk with
      | nil =>
        intro wo
        apply wpAny_handleBy_nil
        obtain ⟨k1, k2, k3, oe, vs, T, oT, ts', he, hz, hd, hT, hr⟩ := id fl
        unfold PySem.passOn
        refine wpAny_bind (wpAny_field he hd hT ?_)
        have nn : ¬ ((Value.ref T == Value.none) = true) := by simp
        rw [if_neg nn]
        have out : wpAny (model X.prog X.w) X.A (setFlight (.ref z) X.env.frame) (fun _ s4 => wpAny (model X.prog X.w) X.A (throw (.ref z) : Sem Flow) (SP X pins D) X.xe s4) X.xe { s' with heap := g } := by
          rw [fr]
          refine HandSPX.setFlight_upZ fl fun g4 f4 u4 => wpAny_throw (tk _ _ ⟨z, B, sI, pins, τ, G, k, o, rfl, J, c1, (c2.trans u3).trans u4, .inr (.inr ?_), c4, c5, c6, wo⟩)
          rw [st]
          exact f4
        first
          | exact wpAny_bind (wpAny_pure (wpAny_bind out))
          | exact wpAny_bind out
      | @cons x n c j t s0 su np hp hs2 l2 nm hj hl run more ih =>
        rintro ⟨b, hb1, yes, no⟩
        refine wpAny_handleBy_cons (codeAny_handlers_test ?_) (fun q => by cases q)
        have ask : ∀ {Q : Value → Shared → Prop} {E : Value → Shared → Prop}, Q c { s' with heap := g } → wpAny (model X.prog X.w) (X.A.mark (some (.ref z))) (eval (.Name x np) X.env) Q E { s' with heap := g } := fun {Q E} q => by
          rcases nm with ⟨n1, n2, m1 | ⟨m1, m2, m3⟩⟩
          · exact ld_glob (X := X.suite z ((z, ob) :: (X.pn ++ pins))) S3 n1 m1 q n2
          · exact ld_blt (X := X.suite z ((z, ob) :: (X.pn ++ pins))) S3 n1 m1 m2 q m3 n2
        refine ask ((PySem.W.exm_one (M := model X.prog X.w) J3.kIn LT hb1).here ?_)
        cases b with
        | false => exact ih (no rfl)
        | true =>
          refine codeAny_handlers_suite_as (HandSPX.lands_againZ fl fun g4 f4 u4 => ?_)
          have J4 : Inv X pins τ G { s' with heap := g4 } := J.landed c1 f4.1 ((c2.trans u3).trans u4) c5 c6
          obtain ⟨ob4, ws4, e4, z4, d4⟩ := f4.there
          have S4 := J4.suite e4 d4 c4 noL noS
          refine store_ok (X := X.suite z ((z, ob4) :: (X.pn ++ pins))) (v := .ref z) S4 nd hj (.inl hl) rfl (fun s5 S5 => ?_) (.inr hl)
          have ran := (run z ob4 k o (X.pn ++ pins) z4 ⟨_, d4⟩).run [] s5 _ G _ S5 (yes rfl z c4)
          have close : ∀ {s6 : Shared} {τ6 : L2.St} {G6 : Hp} {Q : Shared → Prop}, Inv (X.suite z ((z, ob4) :: (X.pn ++ pins))) [] τ6 G6 s6 → (∀ s7, Inv X pins (τ6.set j none) G6 s7 → Q s7) →
              wpAny (model X.prog X.w) X.A (do bindName X.env n .none; unbindBehindTheSuite X.env n hp) (fun _ s7 => Q s7) X.xe s6 := fun S6 hq => gone_ok (S6.unsuite ok) nd hj hl hq
          refine wpAny_mono ran (fun fl6 s6 hsp => ?_) (fun _ _ q => q.elim)
          cases fl6 with
          | ret u =>
            obtain ⟨v6, τ6, G6, S6, r6, q6⟩ := hsp
            exact close S6 fun s7 J7 => ⟨_, _, _, J7, r6, q6⟩
          | next =>
            obtain ⟨τ6, G6, S6, q6⟩ := hsp
            exact close S6 fun s7 J7 => ⟨_, _, J7, q6⟩
          | brk =>
            obtain ⟨τ6, G6, S6, q6⟩ := hsp
            exact close S6 fun s7 J7 => ⟨_, _, J7, q6⟩
          | cont =>
            obtain ⟨τ6, G6, S6, q6⟩ := hsp
            exact close S6 fun s7 J7 => ⟨_, _, J7, q6⟩
    exact each hh c7
  refine wpAny_mono ((hb (wAll X.K Wo D l) (X.pn ++ pins) xe' land PassesOwn.looking).run [] s σ H D (I.toTry _) h) (fun fl s1 hsp => ?_) (fun u s1 hu => hu)
  cases fl with
  | ret u =>
    obtain ⟨v, τ, G, J, r, q⟩ := hsp
    exact ⟨v, τ, G, J.ofTry ok, r, q⟩
  | next =>
    obtain ⟨τ, G, J, q⟩ := hsp
    exact wpAny_execs_nil ⟨τ, G, J.ofTry ok, q⟩
  | brk =>
    obtain ⟨τ, G, J, q⟩ := hsp
    exact ⟨τ, G, J.ofTry ok, q⟩
  | cont =>
    obtain ⟨τ, G, J, q⟩ := hsp
    exact ⟨τ, G, J.ofTry ok, q⟩
end
end KA
namespace KA
open PySem PySem.Spec PyProof.Rows L2
/-- B.__init__(self, ..), B an own class: a def of the class, called as it stands there -/
structure ClsFn (K : PySem.W.Frag) (C : Addr) (nm : Str) (f : Addr) : Prop where
  ga : PySem.W.specialIn K (.ref C) "__getattribute__" = some (some (.builtin "type.__getattribute__"))
  rd : PySem.W.readsIn K C (.type "type") = true
  fd : PySem.W.findCls K (.ref C) (.type "type") nm = some (.val (.ref f))
  kp : PySem.W.keepIn K (.ref f) = true
section
variable {X : Cx} {CX : CXT} {k : Nat} {f C : Addr} {fd : FuncData} {ps : List Str} {ds : List Value} {dvs : List V} {sp : Sp} {E : XK} {x nm : Str} {p1 p2 pos : Pos} {e : Expr} {es : List Expr} {t : TA}
theorem pe_cfn {pl : Sem Bool} (c : ClsFn X.K C nm f) (F : FnOk X.prog X.w X.K X.mg X.base CX k f fd ps sp) (hr : Room k X.A) (hg : Gl X x) (hm : X.mg x = some (.ref C)) (hb : Binds X.K fd ps ds) (hd : Vals dvs ds) (hx : Passes CX X E)
    (ha : PA X (e :: es) t) (hdb : (x == ("__debug__" : Str)) = false := by decide)
    (hc : eval (.Call (.Attribute (.Name x p1) nm p2) (e :: es) [] pos) X.env = (do
      let ov ← eval (.Name x p1) X.env
      standAt p2.atName
      let (g, first) ← holding [ov] (getMethod ov nm pl)
      callWith pos g first (backTo pos (starEach (e :: es) X.env)) (backToKw pos (keywordEach [] X.env))) := by rfl)
    (he : starEach (e :: es) X.env = (false, eval e X.env) :: starEach es X.env := by rfl) (hpl : (backTo pos (starEach es X.env)).any (·.1) = false := by rfl) :
    PE X (.Call (.Attribute (.Name x p1) nm p2) (e :: es) [] pos) (tCall sp dvs E t) := by
  constructor
  intro pins s σ H Q I h
  refine PySem.W.methodCall_KW (ld_glob I hg hm ?_ hdb) hc
  refine PySem.W.method_cls I.kIn c.ga (PySem.W.cls_value I.kIn c.rd c.fd rfl ?_)
  have I' := I.tok (s.toks + 1)
  refine PySem.W.callWith_K (first := []) (h₀ := X.base) I.ok.mod.kin c.kp (thn (ha.run pos pins _ σ H _ I' h) fun us s1 ⟨vs, H1, I1, r, q⟩ => ⟨I1.kIn, ?_⟩) he hpl
  exact run_fn F hr hb hd hx I1 r q
end
/-! methods with keywords alone, and methods within a try -/
def tMN (C : Addr) (nm : Str) (m : Nat) (sp : Sp) (gV : List V → List V → List V) (E : L2.St → XK) (ta : TE) (tk : TA) : TE := fun σ H Q => ta σ H fun x H1 => ∃ (a dx : Addr) (fs : List (Str × V)), x = .ref a ∧ H1 a = some (.ins C dx fs) ∧ fs.lookup nm = none ∧
  tk σ H1 fun zs H2 => zs.length = m ∧ sp (gV [.ref a] zs) H2 Q (E σ)
section
variable {X : Cx} {CX : CXT} {k : Nat} {f C : Addr} {fd : FuncData} {ps ks : List Str} {sp : Sp} {E : L2.St → XK} {nm : Str} {apos pos : Pos} {o : Expr} {kws : List Keyword} {ta : TE} {tk : TA} {g : List Value → List Value → List Value} {gV : List V → List V → List V}
theorem pe_methN {pl : Sem Bool} (ho : PE X o ta) (c : Cls X.K C) (hm : Meth X.K C nm f) (F : FnOk X.prog X.w X.K X.mg X.base CX k f fd ps sp) (hr : Room k X.A) (hb : KBn X.K fd ps 1 ks g gV) (hx : ∀ σ, PassesAt CX X σ (E σ)) (hkw : PK X kws tk)
    (hall : (backToKw pos (keywordEach kws X.env)).all (·.1.isSome) = true := by rfl) (hks : (backToKw pos (keywordEach kws X.env)).filterMap (·.1) = ks := by rfl)
    (hpl : ((backTo pos (starEach [] X.env)).any (·.1) || (backToKw pos (keywordEach kws X.env)).any (·.1.isNone)) = false := by rfl)
    (ht : eval (.Call (.Attribute o nm apos) [] kws pos) X.env = (do
      let ov ← eval o X.env
      standAt apos.atName
      let (g, first) ← holding [ov] (getMethod ov nm pl)
      callWith pos g first (backTo pos (starEach [] X.env)) (backToKw pos (keywordEach kws X.env))) := by rfl) :
    PE X (.Call (.Attribute o nm apos) [] kws pos) (tMN C nm ks.length sp gV E ta tk) := by
  constructor
  intro pins s σ H Q I h
  refine PySem.W.methodCall_KW (pl := pl) (thn (ho.run pins s σ H _ I h) fun u s1 ⟨x, H1, I1, rx, a, dx, fs, ex, ea, lk, q⟩ => ?_) ht
  subst ex
  obtain rfl : u = Value.ref a := rx
  refine getmeth_ok I1 ea c hm lk ?_
  refine PySem.W.callWith_KW0 (first := [.ref a]) (h₀ := X.base) I.ok.mod.kin hm.kp hall ?_ hpl
  refine thn (hkw.run pos pins s1 σ H1 _ I1 q) fun ws s2 ⟨zs, H2, I2, rz, l2, q2⟩ => ⟨I2.kIn, ?_⟩
  rw [hks]
  have r1 : Vals [V.ref a] [Value.ref a] := .cons rfl .nil
  refine wpAny_call (codeAny_mono (F.run X.A X.stack s2 H2 ⟨[Value.ref a], ks.zip ws⟩ (g [Value.ref a] ws) (gV [V.ref a] zs) Q (E σ) hr I2.env0 (hb.to s2 [Value.ref a] ws I2.kIn rfl (rz.length.symm.trans l2)) (hb.rel r1 rz) q2) fun r s' hq => ?_)
  match r, hq with
  | .error er, hq => exact hx σ pins H2 s2 er s' I2 hq
  | .ok (.ret u), hq => exact I2.after hq
  | .ok .next, hq => exact hq.elim
  | .ok .brk, hq => exact hq.elim
  | .ok .cont, hq => exact hq.elim
end
end KA
/-! errors of own classes as values: made and kept, their fields read, asked of what kind they are -/
namespace KA
open PySem PySem.Spec PyProof.Rows L2
/-- C(e, ..), C's own __init__ keeping sp; the error stays in the heap -/
def tMkV (C : Addr) (sp : Sp) (dvs : List V) (ta : TA) : TE := fun σ H Q => ta σ H fun vs H1 => vs.length ≤ 1000 ∧ ∀ a, H1 a = none → sp (.ref a :: (vs ++ dvs)) (upd H1 a (exo a C none)) (fun v H2 => v = .non ∧ Q (.ref a) H2) (fun _ _ _ => False)
section
variable {X : Cx} {e : Expr} {es : List Expr} {p pos : Pos} {ta : TA} {B newId initId : String} {bmB : List Value}
theorem pe_gexV {CX : CXT} {x : Str} {C fI : Addr} {k : Nat} {fd : FuncData} {ps : List Str} {sp : Sp} {ds : List Value} {dvs : List V} (FB : ExcBaseFacts B newId initId bmB) (T : OexB newId bmB X.K C) (iC : PySem.W.findIn X.K (.ref C) "__init__" = some (some (.ref fI))) (tI : PySem.W.typeIn X.K (.ref fI) = some (.type "function"))
    (F1 : FnOk X.prog X.w X.K X.mg X.base CX k fI fd ps sp) (rm : Room (k + 1) X.A) (hb : Binds X.K fd ps ds) (hd : Vals dvs ds) (hx : Passes CX X (fun _ _ _ => False)) (hg : Gl X x) (hm : X.mg x = some (.ref C)) (ha : PA X (e :: es) ta)
    (db : (x == ("__debug__" : Str)) = false := by decide) (he : starEach (e :: es) X.env = (false, eval e X.env) :: starEach es X.env := by rfl) (hpl : (backTo pos (starEach es X.env)).any (·.1) = false := by rfl) :
    PE X (.Call (.Name x p) (e :: es) [] pos) (tMkV C sp dvs ta) := by
  constructor
  intro pins s σ H Q I h
  obtain ⟨nm, q, N, bs, bm, sn, sub, ab, col, dd, k0, k1, k2, k3, k5, hC, hbm⟩ := T.cls
  refine wpAny_Call_Name_kw (ld_glob I hg hm (PySem.W.callWith_K (h₀ := X.base) I.ok.mod.kin T.kC (thn (ha.run pos pins s σ H _ I h) fun us s1 ⟨vs, H1, I1, r1, hz, q1⟩ => ⟨I1.kIn, ?_⟩) he hpl) db)
  show wpAny _ _ (call (.ref C) us) _ _ _
  obtain ⟨hp, g, dr, tk, os⟩ := s1
  have new : hp.objs.size ≤ hp.objs.size + 1 := Nat.le_succ _
  have told := q1 (hp.objs.size + 1) (I1.hok.fresh new)
  have lies : ((hp.push (PySem.W.kdv_tup us)).push (PySem.HandSPX.excO C hp.objs.size)).get? (hp.objs.size + 1) = some (PySem.HandSPX.excO C hp.objs.size) := by heap_get
  have I2 : L2.Inv X pins σ (upd H1 (hp.objs.size + 1) (exo (hp.objs.size + 1) C none)) ⟨(hp.push (PySem.W.kdv_tup us)).push (PySem.HandSPX.excO C hp.objs.size), g, dr, tk, os⟩ :=
    I1.laid (t' := tk) (a := hp.objs.size + 1) (o := exo (hp.objs.size + 1) C none) (fun b o z => Heap.get?_push_of_some _ (Heap.get?_push_of_some _ z)) new (exo_ok lies)
  have all : Vals (V.ref (hp.objs.size + 1) :: (vs ++ dvs)) (Value.ref (hp.objs.size + 1) :: (us ++ ds)) := .cons rfl (r1.append hd)
  have many : us.length ≤ sizeLine := by
    rw [← Paired.length r1, sizeLine_eq]
    omega
  refine wpAny_call (PySem.HandSPX.call_own FB (fun Y => PySem.W.excTail_contains Y bm hbm) (I1.kIn _ _ hC) (PySem.W.looks_findIn I1.kIn iC) (fun self => PySem.W.bind_fn I1.kIn self tI) many
    (codeAny_mono (F1.run _ X.stack _ _ ⟨Value.ref (hp.objs.size + 1) :: us, []⟩ (Value.ref (hp.objs.size + 1) :: (us ++ ds)) _ _ (fun _ _ _ => False) (rm.make C us []) (I2.env0.make C us []) (hb _ (Value.ref (hp.objs.size + 1) :: us) I2.kIn (all.length.symm.trans (F1.len _ _ _ _ told))) all told) fun r s2 z => ?_))
  match r, z with
  | .error er, z => exact hx pins σ _ _ er s2 I2 z
  | .ok .next, z => exact z.elim
  | .ok .brk, z => exact z.elim
  | .ok .cont, z => exact z.elim
  | .ok (.ret u), z =>
    obtain ⟨v, H2, I3, rv, ev, qq⟩ := I2.after z
    subst ev
    exact ⟨rv, .ref (hp.objs.size + 1), H2, I3, rfl, qq⟩
end
/-! fields and kinds -/
section
variable {X : Cx}
theorem exv_inst {pins : List (Addr × Obj)} {σ : L2.St} {H : Hp} {s : Shared} {a C d : Addr} {fs : List (Str × V)} (I : Inv X pins σ H s) (ea : H a = some (exo a C (some d))) (ed : H d = some (exd d fs)) :
    ∃ (ob od : Obj) (mA : Str → Option Value), PySem.W.InstAt s.heap a ob C (some od) ∧ (∀ f, PySem.W.lookIn f od = some (mA f)) ∧ ∀ f, RelO (fs.lookup f) (mA f) := by
  obtain ⟨t1, ho⟩ := exo_at I.hok ea
  obtain ⟨mA, hn, hr⟩ := exd_at I.hok ed
  obtain ⟨od, hod, hlk⟩ := lookIn_ns hn
  exact ⟨_, od, mA, ⟨ho, rfl, rfl, hod⟩, hlk, hr⟩
/-- e.f, e an error that is kept -/
def tXv (K : PySem.W.Frag) (f : Str) (te : TE) : TE := fun σ H Q => te σ H fun x H1 => ∃ (a C d : Addr) (fs : List (Str × V)) (v : V), x = .ref a ∧ H1 a = some (exo a C (some d)) ∧ H1 d = some (exd d fs) ∧ XfC K C ∧ PySem.W.findIn K (.ref C) f = some none ∧ fs.lookup f = some v ∧ Q v H1
theorem pe_xv {e : Expr} {te : TE} {pos : Pos} {n : Str} (he : PE X e te) (hb : attributeBase e n X.env (eval e X.env) = eval e X.env := by rfl) : PE X (.Attribute e n pos) (tXv X.K n te) := by
  constructor
  intro pins s σ H Q I h
  refine attr_of hb (thn (he.run pins s σ H _ I h) fun u s1 ⟨x, H1, I1, rx, a, C, d, fs, v, ex, ea, ed, T, no, lk, q⟩ => ?_)
  subst ex
  cases rx
  obtain ⟨ob, od, mA, J, hlk, hr⟩ := exv_inst I1 ea ed
  obtain ⟨w, hw, rw_⟩ := RelO.some_of (v := v) (o := mA n) (by rw [← lk]; exact hr n)
  exact HandSPX.exc_get I1.kIn J T.ga T.gg T.exC (PySem.W.findObj_own T.hdC no rfl (by rw [hlk, hw])) (handed_of rw_) ⟨v, H1, I1.tok _, rw_, q⟩
theorem pe_xvK {K' : PySem.W.Frag} {e : Expr} {te : TE} {pos : Pos} {n : Str} (hK : X.K = K') (he : PE X e te) (hb : attributeBase e n X.env (eval e X.env) = eval e X.env := by rfl) : PE X (.Attribute e n pos) (tXv K' n te) := by
  subst hK
  exact pe_xv he hb
def rIsV (K : PySem.W.Frag) : List V → Hp → VK → Prop := fun xs H Q => ∃ (a D d : Addr) (fs : List (Str × V)) (c : V) (u : Value) (b : Bool), xs = [.ref a, c] ∧ H a = some (exo a D (some d)) ∧ H d = some (exd d fs) ∧ ExcC K D ∧ ClsV c u ∧ PySem.W.kitOne K (.ref D) u = some b ∧ Q (.bl b) H
theorem call_isV : CallR X (.builtin "isinstance") (rIsV X.K) := by
  intro pins s σ H xs us Q I r h
  obtain ⟨a, D, d, fs, c, u, b, ex, ea, ed, C, k, hk, q⟩ := h
  subst ex
  obtain ⟨u1, u2, rfl, r1, r2⟩ := vals2 r
  cases (show u1 = Value.ref a from r1)
  obtain rfl := k.eq r2
  obtain ⟨ob, od, mA, J, _⟩ := exv_inst I ea ed
  exact PySem.W.kia_one (kit_exc C) I.kIn J hk (fun z => nomatch z) fun tk => ⟨.bl b, H, I.tok tk, rfl, q⟩
end
end KA
/-! KeyError as a base of own errors: made by LookupError.__new__, begun by KeyError.__init__ -/
namespace KA
open PySem PySem.HandSPX
abbrev keT : List Value := [.type "KeyError", .type "LookupError", .type "Exception", .type "BaseException", .type "object"]
theorem store_Key : StoreFacts "KeyError" keT "object.__setattr__" "object" :=
  { mro := by kernel_rfl, entry := F.entry_object_sa, kind := by decide +kernel, split := by decide +kernel, hasOwner := by decide +kernel, passes := fun self => by kernel_rfl, args := fun a b c => by unfold argsOk; kernel_rfl
    slot := .of (owner := "object") (n := "__setattr__") (by rw [typeLookup_type, builtinLookup_eq_fast]; kernel_rfl) (by decide +kernel) (by decide +kernel) (by decide +kernel) (by first | exact .inl (by decide +kernel) | exact .inr (by decide +kernel)) (by rw [isSubtype_type]; kernel_rfl) }
section
variable {M : Model} {A : Around} {E : Value → Shared → Prop} {h : Heap} {g : Array GenState} {d : Drawn} {t : Nat} {os : OsState}
variable {nm q : Str} {C N : Addr} {bs bm : List Value} {hc : Bool} {sn : List Str} {sub : List Value} {ab : Bool} {col : Option Bool} {dd : Option Addr} {k0 k1 k2 k3 k5 : Option Value}
theorem key_new_check {us : List Value} {Q : Unit → Shared → Prop} (inC : h.get? C = some (excClassObj nm q C N bs bm hc sn sub ab col dd k0 k1 k2 k3 k5 "LookupError.__new__")) (isL : bm.contains (.type "LookupError") = true) (fin : Q () ⟨h, g, d, t, os⟩) :
    wpAny M A (checkBuiltinCall "LookupError.__new__" ⟨.ref C :: us, []⟩) Q E ⟨h, g, d, t, os⟩ := by
  have FL := F.excBase_LookupError
  have sees : (Value.ref C :: bm).contains (.type "LookupError") = true := by rw [List.contains_cons, isL, Bool.or_true]
  have st := FL.noStar
  simp only [checkBuiltinCall, FL.newKind, FL.newSplit, FL.newRow]
  repeat (first | refine wpAny_staticBase_exc inC ?_ | refine wpAny_loadPart_at inC ?_ | (refine wpAny_isSubtype_exc inC ?_; rw [sees]) | refine wpAny_madeBy_exc inC ?_ | simp only [bne_self_eq_false, Bool.false_eq_true, if_false] | wp_step)
  exact fin
end
section
variable {prog : Program} {w : World} {A : Around} {E : Value → Shared → Prop} {R : Result → Shared → Prop} {h : Heap} {g : Array GenState} {d : Drawn} {t : Nat} {os : OsState}
variable {nm q : Str} {C N : Addr} {bs bm : List Value} {hc : Bool} {sn : List Str} {sub : List Value} {ab : Bool} {col : Option Bool} {dd : Option Addr} {k0 k1 k2 k3 k5 : Option Value}
theorem key_new {us : List Value} (inC : h.get? C = some (excClassObj nm q C N bs bm hc sn sub ab col dd k0 k1 k2 k3 k5 "LookupError.__new__")) (isL : bm.contains (.type "LookupError") = true) (noA : bm.contains (.type "AttributeError") = false) (noN : bm.contains (.type "NameError") = false)
    (fin : R (.ok (.ret (.ref (h.objs.size + 1)))) ⟨(h.push (W.kdv_tup us)).push (excO C h.objs.size), g, d, t, os⟩) (many : us.length ≤ sizeLine) :
    codeAny (model prog w) A (.builtin "LookupError.__new__" ⟨.ref C :: us, []⟩) R ⟨h, g, d, t, os⟩ := by
  have FL := F.excBase_LookupError
  have ends := FL.ends
  have c1 : (Value.ref C :: bm).contains (.type "LookupError") = true := by rw [List.contains_cons, isL, Bool.or_true]
  have c2 : (Value.ref C :: bm).contains (.type "AttributeError") = false := by rw [List.contains_cons, noA]; rfl
  have c3 : (Value.ref C :: bm).contains (.type "NameError") = false := by rw [List.contains_cons, noN]; rfl
  refine codeAny_builtinAt FL.entry ?_
  unfold Builtin.«BaseException.__new__»
  refine wpAt_bind ?_
  show wpAt _ _ _ (stack >>= _) _ _ _
  refine wpAt_bind (wpAt_stack fun _ _ => wpAt_of_wpAny ?_)
  wp_walk
  refine wpAt_of_wpAny ?_
  rw [FL.owner]
  repeat (first | with_reducible refine wpAny_loadPart_at inC ?_ | with_reducible refine wpAny_madeHere_exc FL.canon inC ?_ | (with_reducible refine wpAny_isSubtype_exc inC ?_; first | rw [c1] | rw [c2] | rw [c3]) | wp_step)
  show R _ _
  rw [Heap.size_push]
  exact fin
theorem key_type_call {us : List Value} {fI : Addr} {Q : Fin → Shared → Prop} (inC : h.get? C = some (excClassObj nm q C N bs bm hc sn sub ab col dd k0 k1 k2 k3 k5 "LookupError.__new__")) (isL : bm.contains (.type "LookupError") = true) (noA : bm.contains (.type "AttributeError") = false) (noN : bm.contains (.type "NameError") = false)
    (li : W.Looks (model prog w) h (typeLookup (.ref C) "__init__") (some (.ref fI))) (bi : ∀ self, W.Looks (model prog w) h (bindSpecial (.ref fI) self) (.ref fI, [self])) (many : us.length ≤ sizeLine)
    (fin : codeAny (model prog w) A (.call (.ref fI) ⟨.ref (h.objs.size + 1) :: us, []⟩)
      (fun r s2 => match r with | .ok (.ret v) => v = .none ∧ Q (.done (.ret (.ref (h.objs.size + 1)))) s2 | .ok _ => False | .error e => E e s2) ⟨(h.push (W.kdv_tup us)).push (excO C h.objs.size), g, d, t, os⟩) :
    wpAny (model prog w) A (Builtin.«type.__call__» ⟨.ref C :: us, []⟩) Q E ⟨h, g, d, t, os⟩ := by
  have FL := F.excBase_LookupError
  repeat (first | with_reducible refine wpAny_madeBy_exc inC ?_ | with_reducible refine wpAny_loadPart_at inC ?_ | wp_step)
  refine codeAny_call_builtin_code (Code.quiet_builtin _ FL.quiet) (key_new_check inC isL (key_new inC isL noA noN ?_ many))
  show wpAny _ _ _ _ _ _
  have keeps : ∀ b o, h.get? b = some o → ((h.push (W.kdv_tup us)).push (excO C h.objs.size)).get? b = some o := fun b o z => Heap.get?_push_of_some _ (Heap.get?_push_of_some _ z)
  have inC2 := keeps _ _ inC
  have lies : ((h.push (W.kdv_tup us)).push (excO C h.objs.size)).get? (h.objs.size + 1) = some (excO C h.objs.size) := by heap_get
  have itself : (Value.ref C :: bm).contains (.ref C) = true := by simp
  have li2 := li.keeps keeps
  have bi2 := (bi (.ref (h.objs.size + 1))).keeps keeps
  unfold isInstance
  repeat (first | (with_reducible refine wpAny_isSubtype_exc inC2 ?_; rw [itself]) | with_reducible refine wpAny_loadPart_at lies ?_ | wp_step)
  show wpAny _ _ (typeLookup (.ref C) _) _ _ _
  refine li2.at (wpAny_holding (wpAny_bind (bi2.at (wpAny_bind (wpAny_call (codeAny_mono fin fun r s2 z => ?_))))))
  match r, z with
  | .error e, z => exact z
  | .ok .next, z => exact z.elim
  | .ok .brk, z => exact z.elim
  | .ok .cont, z => exact z.elim
  | .ok (.ret v), z =>
    obtain ⟨rfl, z⟩ := z
    first
      | exact wpAny_pure (wpAny_pure z)
      | (wp_walk; exact z)
theorem key_call {us : List Value} {fI : Addr} (inC : h.get? C = some (excClassObj nm q C N bs bm hc sn sub ab col dd k0 k1 k2 k3 k5 "LookupError.__new__")) (isL : bm.contains (.type "LookupError") = true) (noA : bm.contains (.type "AttributeError") = false) (noN : bm.contains (.type "NameError") = false)
    (li : W.Looks (model prog w) h (typeLookup (.ref C) "__init__") (some (.ref fI))) (bi : ∀ self, W.Looks (model prog w) h (bindSpecial (.ref fI) self) (.ref fI, [self])) (many : us.length ≤ sizeLine)
    (fin : codeAny (model prog w) (A.under (.builtin "type.__call__" ⟨.ref C :: us, []⟩)) (.call (.ref fI) ⟨.ref (h.objs.size + 1) :: us, []⟩) (W.InitBack (h.objs.size + 1) R) ⟨(h.push (W.kdv_tup us)).push (excO C h.objs.size), g, d, t, os⟩) :
    codeAny (model prog w) A (.call (.ref C) ⟨us, []⟩) R ⟨h, g, d, t, os⟩ := by
  have f1 := tc_lookup
  have f2 := tc_bind (.ref C)
  have ty : (⟨h, g, d, t, os⟩ : Shared).TypeIs (.ref C) "type" := ⟨_, inC, rfl⟩
  refine codeAny_of_tree ?_
  show wpAny _ _ (callAny (.ref C) _) _ _ _
  repeat (any_goals (first | assumption | with_reducible refine wpAny_loadPart_at inC ?_ | wp_step))
  refine ⟨rfl, codeAny_call_builtin_at (Code.quiet_builtin _ (by decide +kernel)) entry_typeCall (wpAny_check_type_call_sub inC (key_type_call inC isL noA noN li bi many (codeAny_mono fin fun r s2 z => ?_)))⟩
  rcases r with e | (v | _ | _ | _) <;> exact z
end
/-! KeyError.__init__(self, ..) -/
theorem key_kind : builtinKind "KeyError.__init__" = some .slot := by kernel_rfl
theorem key_split : splitId "KeyError.__init__" = some ("KeyError", "__init__") := by kernel_rfl
theorem key_row : Manifest.signature? "KeyError.__init__" = some ⟨.positional, "*", "KeyError", .self, [⟨"args", .varPos, false⟩]⟩ := by kernel_rfl
theorem key_slot : Slot "KeyError" "__init__" "KeyError.__init__" := .of (owner := "KeyError") (n := "__init__") (by rw [typeLookup_type, builtinLookup_eq_fast]; kernel_rfl) (by decide +kernel) (by decide +kernel) (by decide +kernel) (by first | exact .inl (by decide +kernel) | exact .inr (by decide +kernel)) (by rw [isSubtype_type]; kernel_rfl)
theorem key_entry : entryFor table "KeyError.__init__" = some Builtin.«BaseException.__init__» := entryFor_alias (id' := "BaseException.__init__") (by rw [fastTable_eq_tree]; kernel_rfl) (by first | rfl | decide +kernel) (by decide +kernel) (by rw [fastTable_eq_tree]; kernel_rfl)
section
variable {M : Model} {A : Around} {E : Value → Shared → Prop} {h : Heap} {g : Array GenState} {d : Drawn} {t : Nat} {os : OsState}
variable {nm q : Str} {C N : Addr} {bs bm : List Value} {hc : Bool} {sn : List Str} {sub : List Value} {ab : Bool} {col : Option Bool} {dd : Option Addr} {k0 k1 k2 k3 k5 : Option Value} {newId : String}
theorem key_init_check {e : Addr} {oe : Obj} {us : List Value} {Q : Unit → Shared → Prop} (inC : h.get? C = some (excClassObj nm q C N bs bm hc sn sub ab col dd k0 k1 k2 k3 k5 newId)) (isK : bm.contains (.type "KeyError") = true) (there : h.get? e = some oe) (cl : oe.cls = .ref C) (fin : Q () ⟨h, g, d, t, os⟩) :
    wpAny M A (checkBuiltinCall "KeyError.__init__" ⟨.ref e :: us, []⟩) Q E ⟨h, g, d, t, os⟩ := by
  have sees : (Value.ref C :: bm).contains (.type "KeyError") = true := by rw [List.contains_cons, isK, Bool.or_true]
  have st : (("KeyError" : String) != "*") = true := by decide
  simp only [checkBuiltinCall, key_kind, key_split, key_row]
  repeat (first | with_reducible refine wpAny_loadPart_at inC ?_ | (with_reducible refine wpAny_loadPart_at there ?_; rw [cl]) | (with_reducible refine wpAny_isSubtype_exc inC ?_; rw [sees]) | wp_step)
  refine wpAny_onRaise ?_
  have free : ∀ (a b : String) (n : Nat), Bind.check ⟨.positional, "*", "KeyError", .self, [⟨"args", .varPos, false⟩]⟩ a b n (List.map (fun y => y.fst) ({ pos := Value.ref e :: us } : Args).kw) = pure () := fun _ _ _ => check_star_args _ _ _ _ _ _
  rw [free]
  exact wpAny_pure fin
end
section
variable {prog : Program} {w : World} {A : Around} {E : Value → Shared → Prop} {R : Result → Shared → Prop} {h : Heap} {g : Array GenState} {d : Drawn} {t : Nat} {os : OsState}
variable {nm q : Str} {C N : Addr} {bs bm : List Value} {hc : Bool} {sn : List Str} {sub : List Value} {ab : Bool} {col : Option Bool} {dd : Option Addr} {k0 k1 k2 k3 k5 : Option Value} {newId : String}
theorem key_init {e t0 : Addr} {us : List Value} (inC : h.get? C = some (excClassObj nm q C N bs bm hc sn sub ab col dd k0 k1 k2 k3 k5 newId)) (isK : bm.contains (.type "KeyError") = true) (there : h.get? e = some (excO C t0)) (many : us.length ≤ sizeLine)
    (fin : ∀ g2 t1, (∀ b o, b ≠ e → h.get? b = some o → g2.get? b = some o) → g2.get? e = some (excO C t1) → R (.ok (.ret .none)) ⟨g2, g, d, t, os⟩) :
    codeAny (model prog w) A (.call (.builtin "KeyError.__init__") ⟨.ref e :: us, []⟩) R ⟨h, g, d, t, os⟩ := by
  refine codeAny_call_builtin key_slot.plain key_entry (key_init_check inC isK there rfl ?_)
  wp_walk
  refine fin _ h.objs.size (fun b o nb z => ?_) ?_
  · exact (Heap.get?_update_other _ _ (Ne.symm nb)).trans (Heap.get?_push_of_some _ z)
  · exact (Heap.get?_update_self _ (Heap.get?_push_of_some _ there) rfl).trans rfl
end
end KA
/-! own errors over KeyError in the hand layer -/
namespace KA
open PySem PySem.Spec PyProof.Rows L2
abbrev KeyC (K : PySem.W.Frag) (C : Addr) : Prop := OexB "LookupError.__new__" keT K C
theorem typ_KE : typeOf (.type "KeyError") = pure (.type "type") := by kernel_rfl
section
variable {X : Cx} {pins : List (Addr × Obj)} {σ : L2.St} {H : Hp} {s : Shared} {a C : Addr} {E : Value → Shared → Prop} {A : Around}
theorem key_go {us : List Value} {Q : Value → Shared → Prop} (T : KeyC X.K C) (I : L2.Inv X pins σ H s) (e : H a = some (exo a C none)) (hl : us.length ≤ sizeLine) (fin : ∀ s2, L2.Inv X pins σ H s2 → Q .none s2) :
    wpAny (model X.prog X.w) A (call (.builtin "KeyError.__init__") (.ref a :: us)) Q E s := by
  obtain ⟨nm, q, N, bs, bm, sn, sub, ab, col, dd, k0, k1, k2, k3, k5, hC, hbm⟩ := T.cls
  obtain ⟨t1, ho⟩ := exo_at I.hok e
  obtain ⟨hp, g, d, t, os⟩ := s
  refine wpAny_call (key_init (I.kIn _ _ hC) ((PySem.W.excTail_contains "KeyError" bm hbm).trans (by decide)) ho hl fun g2 t2 kp lies => ?_)
  have J := I.write (t' := t) (x := a) (e := a) (o := exo a C none) (by rw [e]; exact True.intro) (.inl rfl) kp ⟨_, lies⟩ (exo_ok lies)
  have same : upd H a (exo a C none) = H := funext fun b => by
    by_cases hb : b = a
    · rw [hb, upd_same, e]
    · rw [upd_ne hb]
  rw [same] at J
  exact fin _ J
end
section
variable {X : Cx} {e : Expr} {es : List Expr} {ta : TA} {p p1 p2 pos : Pos}
/-- KeyError.__init__(self, ..) -/
theorem pe_kinit {pl : Sem Bool} (hg : Gl X "KeyError") (hm : X.mg "KeyError" = none) (vV : PySem.W.findCls X.K (.type "KeyError") (.type "type") "__init__" = some (.val (.builtin "KeyError.__init__"))) (ha : PA X (e :: es) ta)
    (hc : eval (.Call (.Attribute (.Name "KeyError" p1) "__init__" p2) (e :: es) [] pos) X.env = (do
      let w ← eval (.Name "KeyError" p1) X.env
      standAt p2.atName
      let (g, fst) ← holding [w] (getMethod w "__init__" pl)
      callWith pos g fst (backTo pos (starEach (e :: es) X.env)) (backToKw pos (keywordEach [] X.env))) := by rfl)
    (he : starEach (e :: es) X.env = (false, eval e X.env) :: starEach es X.env := by rfl) (hpl : (backTo pos (starEach es X.env)).any (·.1) = false := by rfl) :
    PE X (.Call (.Attribute (.Name "KeyError" p1) "__init__" p2) (e :: es) [] pos) (tBI "LookupError.__new__" keT X.K ta) := by
  constructor
  intro pins s σ H Q I h
  refine PySem.W.methodCall_KW (ld_blt I hg hm (show bootBuiltins "KeyError" = some (.type "KeyError") by decide +kernel) ?_ (by decide) (by decide)) hc
  obtain ⟨m, fr⟩ := I.fr
  refine PySem.W.method_type fr I.ok.mod.kin typ_KE (by decide +kernel) vV (by decide +kernel) ?_
  show wpAny _ _ (callWith pos (Value.builtin "KeyError.__init__") [] (backTo pos (starEach (e :: es) X.env)) []) _ _ _
  refine PyProof.Rows.callWith_method1 (thn (ha.run pos pins _ σ H _ (I.tok _) h) fun us s1 ⟨vs, H1, I1, r1, a, C, ws, ev, hl, T, ea, q⟩ => ?_) he hpl
  subst ev
  cases r1 with
  | @cons _ u0 _ ur ra rest =>
    cases (show u0 = Value.ref a from ra)
    have many : ur.length ≤ sizeLine := by
      rw [← Paired.length rest, sizeLine_eq]
      omega
    exact key_go T I1 ea many fun s2 J => ⟨.non, H1, J, rfl, q⟩
/-- C(e, ..), C over KeyError, kept as a value -/
theorem pe_kexV {CX : CXT} {x : Str} {C fI : Addr} {k : Nat} {fd : FuncData} {ps : List Str} {sp : Sp} {ds : List Value} {dvs : List V} (T : KeyC X.K C) (iC : PySem.W.findIn X.K (.ref C) "__init__" = some (some (.ref fI))) (tI : PySem.W.typeIn X.K (.ref fI) = some (.type "function"))
    (F1 : FnOk X.prog X.w X.K X.mg X.base CX k fI fd ps sp) (rm : Room (k + 1) X.A) (hb : Binds X.K fd ps ds) (hd : Vals dvs ds) (hx : Passes CX X (fun _ _ _ => False)) (hg : Gl X x) (hm : X.mg x = some (.ref C)) (ha : PA X (e :: es) ta)
    (db : (x == ("__debug__" : Str)) = false := by decide) (he : starEach (e :: es) X.env = (false, eval e X.env) :: starEach es X.env := by rfl) (hpl : (backTo pos (starEach es X.env)).any (·.1) = false := by rfl) :
    PE X (.Call (.Name x p) (e :: es) [] pos) (tMkV C sp dvs ta) := by
  constructor
  intro pins s σ H Q I h
  obtain ⟨nm, q, N, bs, bm, sn, sub, ab, col, dd, k0, k1, k2, k3, k5, hC, hbm⟩ := T.cls
  refine wpAny_Call_Name_kw (ld_glob I hg hm (PySem.W.callWith_K (h₀ := X.base) I.ok.mod.kin T.kC (thn (ha.run pos pins s σ H _ I h) fun us s1 ⟨vs, H1, I1, r1, hz, q1⟩ => ⟨I1.kIn, ?_⟩) he hpl) db)
  show wpAny _ _ (call (.ref C) us) _ _ _
  obtain ⟨hp, g, dr, tk, os⟩ := s1
  have new : hp.objs.size ≤ hp.objs.size + 1 := Nat.le_succ _
  have told := q1 (hp.objs.size + 1) (I1.hok.fresh new)
  have lies : ((hp.push (PySem.W.kdv_tup us)).push (PySem.HandSPX.excO C hp.objs.size)).get? (hp.objs.size + 1) = some (PySem.HandSPX.excO C hp.objs.size) := by heap_get
  have I2 : L2.Inv X pins σ (upd H1 (hp.objs.size + 1) (exo (hp.objs.size + 1) C none)) ⟨(hp.push (PySem.W.kdv_tup us)).push (PySem.HandSPX.excO C hp.objs.size), g, dr, tk, os⟩ :=
    I1.laid (t' := tk) (a := hp.objs.size + 1) (o := exo (hp.objs.size + 1) C none) (fun b o z => Heap.get?_push_of_some _ (Heap.get?_push_of_some _ z)) new (exo_ok lies)
  have all : Vals (V.ref (hp.objs.size + 1) :: (vs ++ dvs)) (Value.ref (hp.objs.size + 1) :: (us ++ ds)) := .cons rfl (r1.append hd)
  have many : us.length ≤ sizeLine := by
    rw [← Paired.length r1, sizeLine_eq]
    omega
  have has := fun Y => PySem.W.excTail_contains (bmB := keT) Y bm hbm
  refine wpAny_call (key_call (I1.kIn _ _ hC) ((has "LookupError").trans (by decide)) ((has "AttributeError").trans (by decide)) ((has "NameError").trans (by decide)) (PySem.W.looks_findIn I1.kIn iC) (fun self => PySem.W.bind_fn I1.kIn self tI) many
    (codeAny_mono (F1.run _ X.stack _ _ ⟨Value.ref (hp.objs.size + 1) :: us, []⟩ (Value.ref (hp.objs.size + 1) :: (us ++ ds)) _ _ (fun _ _ _ => False) (rm.make C us []) (I2.env0.make C us []) (hb _ (Value.ref (hp.objs.size + 1) :: us) I2.kIn (all.length.symm.trans (F1.len _ _ _ _ told))) all told) fun r s2 z => ?_))
  match r, z with
  | .error er, z => exact hx pins σ _ _ er s2 I2 z
  | .ok .next, z => exact z.elim
  | .ok .brk, z => exact z.elim
  | .ok .cont, z => exact z.elim
  | .ok (.ret u), z =>
    obtain ⟨v, H2, I3, rv, ev, qq⟩ := I2.after z
    subst ev
    exact ⟨rv, .ref (hp.objs.size + 1), H2, I3, rfl, qq⟩
end
end KA
/-! own errors, made with keywords: the built-in __new__ passes them by -/
namespace KA
open PySem PySem.HandSPX
section
variable {M : Model} {A : Around} {E : Value → Shared → Prop} {h : Heap} {g : Array GenState} {d : Drawn} {t : Nat} {os : OsState}
variable {nm q : Str} {C N : Addr} {bs bm : List Value} {hc : Bool} {sn : List Str} {sub : List Value} {ab : Bool} {col : Option Bool} {dd : Option Addr} {k0 k1 k2 k3 k5 : Option Value} {B nid iid : String} {bmB : List Value} {ks : List (Str × Value)}
theorem mk_check (FL : ExcBaseFacts B nid iid bmB) {us : List Value} {Q : Unit → Shared → Prop} (inC : h.get? C = some (excClassObj nm q C N bs bm hc sn sub ab col dd k0 k1 k2 k3 k5 nid)) (isL : bm.contains (.type B) = true) (fin : Q () ⟨h, g, d, t, os⟩) :
    wpAny M A (checkBuiltinCall nid ⟨.ref C :: us, ks⟩) Q E ⟨h, g, d, t, os⟩ := by
  have sees : (Value.ref C :: bm).contains (.type B) = true := by rw [List.contains_cons, isL, Bool.or_true]
  have st := FL.noStar
  simp only [checkBuiltinCall, FL.newKind, FL.newSplit, FL.newRow]
  repeat (first | refine wpAny_staticBase_exc inC ?_ | refine wpAny_loadPart_at inC ?_ | (refine wpAny_isSubtype_exc inC ?_; rw [sees]) | refine wpAny_madeBy_exc inC ?_ | simp only [bne_self_eq_false, Bool.false_eq_true, if_false] | wp_step)
  exact fin
end
section
variable {prog : Program} {w : World} {A : Around} {E : Value → Shared → Prop} {R : Result → Shared → Prop} {h : Heap} {g : Array GenState} {d : Drawn} {t : Nat} {os : OsState}
variable {nm q : Str} {C N : Addr} {bs bm : List Value} {hc : Bool} {sn : List Str} {sub : List Value} {ab : Bool} {col : Option Bool} {dd : Option Addr} {k0 k1 k2 k3 k5 : Option Value} {B nid iid : String} {bmB : List Value} {ks : List (Str × Value)}
theorem mk_new (FL : ExcBaseFacts B nid iid bmB) {us : List Value} (inC : h.get? C = some (excClassObj nm q C N bs bm hc sn sub ab col dd k0 k1 k2 k3 k5 nid)) (isL : bm.contains (.type B) = true) (noA : bm.contains (.type "AttributeError") = false) (noN : bm.contains (.type "NameError") = false)
    (fin : R (.ok (.ret (.ref (h.objs.size + 1)))) ⟨(h.push (W.kdv_tup us)).push (excO C h.objs.size), g, d, t, os⟩) (many : us.length ≤ sizeLine) :
    codeAny (model prog w) A (.builtin nid ⟨.ref C :: us, ks⟩) R ⟨h, g, d, t, os⟩ := by
  have ends := FL.ends
  have c1 : (Value.ref C :: bm).contains (.type B) = true := by rw [List.contains_cons, isL, Bool.or_true]
  have c2 : (Value.ref C :: bm).contains (.type "AttributeError") = false := by rw [List.contains_cons, noA]; rfl
  have c3 : (Value.ref C :: bm).contains (.type "NameError") = false := by rw [List.contains_cons, noN]; rfl
  refine codeAny_builtinAt FL.entry ?_
  unfold Builtin.«BaseException.__new__»
  refine wpAt_bind ?_
  show wpAt _ _ _ (stack >>= _) _ _ _
  refine wpAt_bind (wpAt_stack fun _ _ => wpAt_of_wpAny ?_)
  wp_walk
  refine wpAt_of_wpAny ?_
  rw [FL.owner]
  repeat (first | with_reducible refine wpAny_loadPart_at inC ?_ | with_reducible refine wpAny_madeHere_exc FL.canon inC ?_ | (with_reducible refine wpAny_isSubtype_exc inC ?_; first | rw [c1] | rw [c2] | rw [c3]) | wp_step)
  show R _ _
  rw [Heap.size_push]
  exact fin
theorem mk_type (FL : ExcBaseFacts B nid iid bmB) {us : List Value} {fI : Addr} {Q : Fin → Shared → Prop} (inC : h.get? C = some (excClassObj nm q C N bs bm hc sn sub ab col dd k0 k1 k2 k3 k5 nid)) (isL : bm.contains (.type B) = true) (noA : bm.contains (.type "AttributeError") = false) (noN : bm.contains (.type "NameError") = false)
    (li : W.Looks (model prog w) h (typeLookup (.ref C) "__init__") (some (.ref fI))) (bi : ∀ self, W.Looks (model prog w) h (bindSpecial (.ref fI) self) (.ref fI, [self])) (many : us.length ≤ sizeLine)
    (fin : codeAny (model prog w) A (.call (.ref fI) ⟨.ref (h.objs.size + 1) :: us, ks⟩)
      (fun r s2 => match r with | .ok (.ret v) => v = .none ∧ Q (.done (.ret (.ref (h.objs.size + 1)))) s2 | .ok _ => False | .error e => E e s2) ⟨(h.push (W.kdv_tup us)).push (excO C h.objs.size), g, d, t, os⟩) :
    wpAny (model prog w) A (Builtin.«type.__call__» ⟨.ref C :: us, ks⟩) Q E ⟨h, g, d, t, os⟩ := by
  repeat (first | with_reducible refine wpAny_madeBy_exc inC ?_ | with_reducible refine wpAny_loadPart_at inC ?_ | wp_step)
  refine codeAny_call_builtin_code (Code.quiet_builtin _ FL.quiet) (mk_check FL inC isL (mk_new FL inC isL noA noN ?_ many))
  show wpAny _ _ _ _ _ _
  have keeps : ∀ b o, h.get? b = some o → ((h.push (W.kdv_tup us)).push (excO C h.objs.size)).get? b = some o := fun b o z => Heap.get?_push_of_some _ (Heap.get?_push_of_some _ z)
  have inC2 := keeps _ _ inC
  have lies : ((h.push (W.kdv_tup us)).push (excO C h.objs.size)).get? (h.objs.size + 1) = some (excO C h.objs.size) := by heap_get
  have itself : (Value.ref C :: bm).contains (.ref C) = true := by simp
  have li2 := li.keeps keeps
  have bi2 := (bi (.ref (h.objs.size + 1))).keeps keeps
  unfold isInstance
  repeat (first | (with_reducible refine wpAny_isSubtype_exc inC2 ?_; rw [itself]) | with_reducible refine wpAny_loadPart_at lies ?_ | wp_step)
  show wpAny _ _ (typeLookup (.ref C) _) _ _ _
  refine li2.at (wpAny_holding (wpAny_bind (bi2.at (wpAny_bind (wpAny_call (codeAny_mono fin fun r s2 z => ?_))))))
  match r, z with
  | .error e, z => exact z
  | .ok .next, z => exact z.elim
  | .ok .brk, z => exact z.elim
  | .ok .cont, z => exact z.elim
  | .ok (.ret v), z =>
    obtain ⟨rfl, z⟩ := z
    first
      | exact wpAny_pure (wpAny_pure z)
      | (wp_walk; exact z)
theorem mk_call (FL : ExcBaseFacts B nid iid bmB) {us : List Value} {fI : Addr} (inC : h.get? C = some (excClassObj nm q C N bs bm hc sn sub ab col dd k0 k1 k2 k3 k5 nid)) (isL : bm.contains (.type B) = true) (noA : bm.contains (.type "AttributeError") = false) (noN : bm.contains (.type "NameError") = false)
    (li : W.Looks (model prog w) h (typeLookup (.ref C) "__init__") (some (.ref fI))) (bi : ∀ self, W.Looks (model prog w) h (bindSpecial (.ref fI) self) (.ref fI, [self])) (many : us.length ≤ sizeLine)
    (fin : codeAny (model prog w) (A.under (.builtin "type.__call__" ⟨.ref C :: us, ks⟩)) (.call (.ref fI) ⟨.ref (h.objs.size + 1) :: us, ks⟩) (W.InitBack (h.objs.size + 1) R) ⟨(h.push (W.kdv_tup us)).push (excO C h.objs.size), g, d, t, os⟩) :
    codeAny (model prog w) A (.call (.ref C) ⟨us, ks⟩) R ⟨h, g, d, t, os⟩ := by
  have f1 := tc_lookup
  have f2 := tc_bind (.ref C)
  have ty : (⟨h, g, d, t, os⟩ : Shared).TypeIs (.ref C) "type" := ⟨_, inC, rfl⟩
  refine codeAny_of_tree ?_
  show wpAny _ _ (callAny (.ref C) _) _ _ _
  repeat (any_goals (first | assumption | with_reducible refine wpAny_loadPart_at inC ?_ | wp_step))
  refine ⟨rfl, codeAny_call_builtin_at (Code.quiet_builtin _ (by decide +kernel)) entry_typeCall (wpAny_check_type_call_sub inC (mk_type FL inC isL noA noN li bi many (codeAny_mono fin fun r s2 z => ?_)))⟩
  rcases r with e | (v | _ | _ | _) <;> exact z
end
end KA
/-! own errors as values, made with keywords or with nothing -/
namespace KA
open PySem PySem.Spec PyProof.Rows L2
abbrev veT : List Value := [.type "ValueError", .type "Exception", .type "BaseException", .type "object"]
theorem typ_VE : typeOf (.type "ValueError") = pure (.type "type") := by kernel_rfl
def tMkVK (C : Addr) (m : Nat) (sp : Sp) (gV : List V → List V → List V) (tk : TA) : TE := fun σ H Q => tk σ H fun zs H1 => zs.length = m ∧ m ≤ 1000 ∧ ∀ a, H1 a = none → sp (gV [.ref a] zs) (upd H1 a (exo a C none)) (fun v H2 => v = .non ∧ Q (.ref a) H2) (fun _ _ _ => False)
section
variable {X : Cx} {CX : CXT} {k : Nat} {fd : FuncData} {ps ks : List Str} {sp : Sp} {x : Str} {C fI : Addr} {p pos : Pos} {kws : List Keyword} {tk : TA} {g : List Value → List Value → List Value} {gV : List V → List V → List V} {B nid iid : String} {bmB bmC : List Value}
/-- C(k = v, ..): B and nid say by which built-in __new__ it is made, bmC what stands behind the own classes -/
theorem pe_exVK (FL : ExcBaseFacts B nid iid bmB) (T : OexB nid bmC X.K C) (c1 : bmC.contains (.type B) = true) (c2 : bmC.contains (.type "AttributeError") = false) (c3 : bmC.contains (.type "NameError") = false)
    (iC : PySem.W.findIn X.K (.ref C) "__init__" = some (some (.ref fI))) (tI : PySem.W.typeIn X.K (.ref fI) = some (.type "function")) (F1 : FnOk X.prog X.w X.K X.mg X.base CX k fI fd ps sp) (rm : Room (k + 1) X.A) (hb : KBn X.K fd ps 1 ks g gV) (hx : Passes CX X (fun _ _ _ => False))
    (hg : Gl X x) (hm : X.mg x = some (.ref C)) (hkw : PK X kws tk) (hall : (backToKw pos (keywordEach kws X.env)).all (·.1.isSome) = true := by rfl) (hks : (backToKw pos (keywordEach kws X.env)).filterMap (·.1) = ks := by rfl) (db : (x == ("__debug__" : Str)) = false := by decide)
    (hpl : ((backTo pos (starEach [] X.env)).any (·.1) || (backToKw pos (keywordEach kws X.env)).any (·.1.isNone)) = false := by rfl) :
    PE X (.Call (.Name x p) [] kws pos) (tMkVK C ks.length sp gV tk) := by
  constructor
  intro pins s σ H Q I h
  obtain ⟨nm, q, N, bs, bm, sn, sub, ab, col, dd, k0, k1, k2, k3, k5, hC, hbm⟩ := T.cls
  refine wpAny_Call_Name_kw (ld_glob I hg hm (PySem.W.callWith_KW0 (h₀ := X.base) I.ok.mod.kin T.kC hall (thn (hkw.run pos pins s σ H _ I h) fun ws s1 ⟨zs, H1, I1, rz, l1, l2, q1⟩ => ⟨I1.kIn, ?_⟩) hpl) db)
  rw [hks]
  show wpAny _ _ (call (.ref C) [] (ks.zip ws)) _ _ _
  obtain ⟨hp, g', dr, tk', os⟩ := s1
  have new : hp.objs.size ≤ hp.objs.size + 1 := Nat.le_succ _
  have told := q1 (hp.objs.size + 1) (I1.hok.fresh new)
  have lies : ((hp.push (PySem.W.kdv_tup [])).push (PySem.HandSPX.excO C hp.objs.size)).get? (hp.objs.size + 1) = some (PySem.HandSPX.excO C hp.objs.size) := by heap_get
  have I2 : L2.Inv X pins σ (upd H1 (hp.objs.size + 1) (exo (hp.objs.size + 1) C none)) ⟨(hp.push (PySem.W.kdv_tup [])).push (PySem.HandSPX.excO C hp.objs.size), g', dr, tk', os⟩ :=
    I1.laid (t' := tk') (a := hp.objs.size + 1) (o := exo (hp.objs.size + 1) C none) (fun b o z => Heap.get?_push_of_some _ (Heap.get?_push_of_some _ z)) new (exo_ok lies)
  have r1 : Vals [V.ref (hp.objs.size + 1)] [Value.ref (hp.objs.size + 1)] := .cons rfl .nil
  have has := fun Y => PySem.W.excTail_contains (bmB := bmC) Y bm hbm
  refine wpAny_call (mk_call FL (us := []) (ks := ks.zip ws) (I1.kIn _ _ hC) ((has B).trans c1) ((has "AttributeError").trans c2) ((has "NameError").trans c3) (PySem.W.looks_findIn I1.kIn iC) (fun self => PySem.W.bind_fn I1.kIn self tI) (Nat.zero_le _)
    (codeAny_mono (F1.run _ X.stack _ _ ⟨[Value.ref (hp.objs.size + 1)], ks.zip ws⟩ (g [Value.ref (hp.objs.size + 1)] ws) _ _ (fun _ _ _ => False) (rm.make C [] (ks.zip ws)) (I2.env0.make C [] (ks.zip ws)) (hb.to _ [Value.ref (hp.objs.size + 1)] ws I2.kIn rfl (rz.length.symm.trans l1)) (hb.rel r1 rz) told) fun r s2 z => ?_))
  match r, z with
  | .error er, z => exact hx pins σ _ _ er s2 I2 z
  | .ok .next, z => exact z.elim
  | .ok .brk, z => exact z.elim
  | .ok .cont, z => exact z.elim
  | .ok (.ret u), z =>
    obtain ⟨v, H2, I3, rv, ev, qq⟩ := I2.after z
    subst ev
    exact ⟨rv, .ref (hp.objs.size + 1), H2, I3, rfl, qq⟩
/-- C(): the defaults do -/
def tMkV0 (C : Addr) (sp : Sp) (dvs : List V) : TE := fun σ H Q => ∀ a, H a = none → sp (.ref a :: dvs) (upd H a (exo a C none)) (fun v H2 => v = .non ∧ Q (.ref a) H2) (fun _ _ _ => False)
theorem pe_exV0 {ds : List Value} {dvs : List V} (FL : ExcBaseFacts B nid iid bmB) (T : OexB nid bmC X.K C) (c1 : bmC.contains (.type B) = true) (c2 : bmC.contains (.type "AttributeError") = false) (c3 : bmC.contains (.type "NameError") = false)
    (iC : PySem.W.findIn X.K (.ref C) "__init__" = some (some (.ref fI))) (tI : PySem.W.typeIn X.K (.ref fI) = some (.type "function")) (F1 : FnOk X.prog X.w X.K X.mg X.base CX k fI fd ps sp) (rm : Room (k + 1) X.A) (hb : Binds X.K fd ps ds) (hd : Vals dvs ds) (hx : Passes CX X (fun _ _ _ => False))
    (hg : Gl X x) (hm : X.mg x = some (.ref C)) (db : (x == ("__debug__" : Str)) = false := by decide) :
    PE X (.Call (.Name x p) [] [] pos) (tMkV0 C sp dvs) := by
  constructor
  intro pins s σ H Q I h
  obtain ⟨nm, q, N, bs, bm, sn, sub, ab, col, dd, k0, k1, k2, k3, k5, hC, hbm⟩ := T.cls
  refine wpAny_Call_Name_kw (ld_glob I hg hm (PySem.W.callWith_K0 (first := []) I.kIn T.kC ?_) db)
  show wpAny _ _ (call (.ref C) []) _ _ _
  obtain ⟨hp, g', dr, tk', os⟩ := s
  have new : hp.objs.size ≤ hp.objs.size + 1 := Nat.le_succ _
  have told := h (hp.objs.size + 1) (I.hok.fresh new)
  have lies : ((hp.push (PySem.W.kdv_tup [])).push (PySem.HandSPX.excO C hp.objs.size)).get? (hp.objs.size + 1) = some (PySem.HandSPX.excO C hp.objs.size) := by heap_get
  have I2 : L2.Inv X pins σ (upd H (hp.objs.size + 1) (exo (hp.objs.size + 1) C none)) ⟨(hp.push (PySem.W.kdv_tup [])).push (PySem.HandSPX.excO C hp.objs.size), g', dr, tk', os⟩ :=
    I.laid (t' := tk') (a := hp.objs.size + 1) (o := exo (hp.objs.size + 1) C none) (fun b o z => Heap.get?_push_of_some _ (Heap.get?_push_of_some _ z)) new (exo_ok lies)
  have all : Vals (V.ref (hp.objs.size + 1) :: dvs) (Value.ref (hp.objs.size + 1) :: ds) := .cons rfl hd
  have has := fun Y => PySem.W.excTail_contains (bmB := bmC) Y bm hbm
  refine wpAny_call (mk_call FL (us := []) (ks := []) (I.kIn _ _ hC) ((has B).trans c1) ((has "AttributeError").trans c2) ((has "NameError").trans c3) (PySem.W.looks_findIn I.kIn iC) (fun self => PySem.W.bind_fn I.kIn self tI) (Nat.zero_le _)
    (codeAny_mono (F1.run _ X.stack _ _ ⟨[Value.ref (hp.objs.size + 1)], []⟩ (Value.ref (hp.objs.size + 1) :: ds) _ _ (fun _ _ _ => False) (rm.make C [] []) (I2.env0.make C [] []) (hb _ [Value.ref (hp.objs.size + 1)] I2.kIn (all.length.symm.trans (F1.len _ _ _ _ told))) all told) fun r s2 z => ?_))
  match r, z with
  | .error er, z => exact hx pins σ _ _ er s2 I2 z
  | .ok .next, z => exact z.elim
  | .ok .brk, z => exact z.elim
  | .ok .cont, z => exact z.elim
  | .ok (.ret u), z =>
    obtain ⟨v, H2, I3, rv, ev, qq⟩ := I2.after z
    subst ev
    exact ⟨rv, .ref (hp.objs.size + 1), H2, I3, rfl, qq⟩
end
end KA
namespace KA
open PySem PySem.Spec PyProof.Rows L2
/-- keywords of a def that has no defaults -/
theorem fun_kb {K : PySem.W.Frag} {x qual : Str} {st : Stmt} {f : Addr} {fd : FuncData} {ps : List Str} (F : Fun K x qual st f fd) (n : Nat) (ks : List Str) (m : List (Nat × Nat))
    (to : ∀ (kV doc pm : Value) (an : Option Addr) (cdv ct : Value) (us ws : List Value), us.length = n → ws.length = ks.length → bindArgs (PySem.W.fnOf x qual (defArgs st) (defBody st) (defScope st) .none kV doc pm an cdv ct) ⟨us, ks.zip ws⟩ = pure (ps.zip (kw m us [] ws))) :
    KBn K fd ps n ks (fun us ws => kw m us [] ws) (fun vs zs => kw m vs [] zs) := by
  obtain ⟨oc, od, kV, doc, pm, an, cdv, ct, osl, rfl, lk, hcd⟩ := F.ex
  exact ⟨fun s us ws _ l1 l2 => .of_eq (to kV doc pm an cdv ct us ws l1 l2), fun r1 r2 => kw_rel m r1 .nil r2⟩
end KA
namespace KA
open PySem PySem.SeqAt
open AutoSeq1 (wpAny_loadPart')
open MeetsSeq MeetsSeq2 MeetsSeq3 SeqRoads2
section
variable {prog : Program} {w : World} {A : Around} {R : Result → Shared → Prop}
/-- two lists as long, read anew at each turn: the two items are told equal (then J goes on) or not (then F) -/
def LstI (prog : Program) (w : World) (A : Around) (E : Value → Shared → Prop) (p q : Addr) (N : Nat) (J : Nat → Shared → Prop) (F : Shared → Prop) : Prop :=
  ∀ i s, J i s → ∃ (xs ys : Array Value) (m m2 : Nat), s.heap.get? p = some { cls := .type "list", data := .seq xs m } ∧ s.heap.get? q = some { cls := .type "list", data := .seq ys m2 } ∧ xs.size = N ∧ ys.size = N ∧
    ∀ (g1 : i < xs.size) (g2 : i < ys.size), wpAny (model prog w) A.in1 (eqBool xs[i] ys[i]) (fun r s' => (r = true → J (i + 1) s') ∧ (r = false → F s' ∧ ∃ (xs ys : Array Value) (m m2 : Nat), s'.heap.get? p = some { cls := .type "list", data := .seq xs m } ∧ s'.heap.get? q = some { cls := .type "list", data := .seq ys m2 } ∧ xs.size = N ∧ ys.size = N)) E s
/-- op: 2 is ==, 3 is != ; what is told where all items are equal is no -/
theorem turnsB (op : Nat) (yes : Bool) (hop : (op = 2 ∧ yes = true) ∨ (op = 3 ∧ yes = false)) (p q : Addr) (N : Nat) (J : Nat → Shared → Prop) (F : Shared → Prop) (hJ : LstI prog w A (fun e s' => R (.error e) s') p q N J F)
    (done : ∀ s, J N s → R (.ok (.ret (.bool yes))) s) (fail : ∀ s, F s → R (.ok (.ret (.bool (!yes)))) s) : ∀ (k i : Nat), N - i = k → i ≤ N → ∀ s, J i s →
      wpAny (model prog w) A.in1 (Builtin.«list.__eq__.loop» ⟨[.ref p, .ref q, rawInt i, rawInt op], []⟩) (GQ.FinOf prog w A R) (fun e s' => R (.error e) s') s
  | 0, i, hk, hi, s, hs => by
    obtain ⟨xs, ys, m, m2, gp, gq, zp, zq, _⟩ := hJ _ _ hs
    have iN : i = N := by omega
    have last : R (.ok (.ret (.bool yes))) s := done s (iN ▸ hs)
    have n1 : xs[((i : Nat) : Int).toNat]? = none := by simp; omega
    have n2 : ys[((i : Nat) : Int).toNat]? = none := by simp; omega
    rcases hop with ⟨rfl, rfl⟩ | ⟨rfl, rfl⟩
    · obtain ⟨hh, gg, dd, kk, oo⟩ := s
      wp_walk using wpAny_loadPart' gp, wpAny_loadPart' gq
      rw [n1, n2]
      wp_walk using wpAny_loadPart' gp, wpAny_loadPart' gq
      show R (.ok (.ret (.bool (xs.size == ys.size)))) _
      rw [zp, zq]
      simpa using last
    · obtain ⟨hh, gg, dd, kk, oo⟩ := s
      wp_walk using wpAny_loadPart' gp, wpAny_loadPart' gq
      rw [n1, n2]
      wp_walk using wpAny_loadPart' gp, wpAny_loadPart' gq
      show R (.ok (.ret (.bool (xs.size != ys.size)))) _
      rw [zp, zq]
      simpa using last
  | k + 1, i, hk, hi, s, hs => by
    obtain ⟨xs, ys, m, m2, gp, gq, zp, zq, tn⟩ := hJ _ _ hs
    have ip : i < xs.size := by omega
    have iq : i < ys.size := by omega
    have tt := tn ip iq
    have n1 : xs[((i : Nat) : Int).toNat]? = some xs[i] := by simp [ip]
    have n2 : ys[((i : Nat) : Int).toNat]? = some ys[i] := by simp [iq]
    have up : ((i : Int) + 1) = ((i + 1 : Nat) : Int) := by omega
    have next := fun s2 h2 => turnsB op yes hop p q N J F hJ done fail k (i + 1) (by omega) (by omega) s2 h2
    rcases hop with ⟨rfl, rfl⟩ | ⟨rfl, rfl⟩
    · obtain ⟨hh, gg, dd, kk, oo⟩ := s
      wp_walk using wpAny_loadPart' gp, wpAny_loadPart' gq
      rw [n1, n2]
      refine wpAny_bind (wpAny_mono tt (fun r s2 h2 => ?_) fun _ _ x => x)
      cases r with
      | true =>
        have h3 := next s2 (h2.1 rfl)
        obtain ⟨hh2, gg2, dd2, kk2, oo2⟩ := s2
        wp_walk
        rw [up]
        exact ⟨plainId_quiet plain_eq_loop _, codeAny_builtin entry_eq_loop (by rw [Around.under_plainId plain_eq_loop _]; exact h3)⟩
      | false =>
        obtain ⟨hF, xs2, ys2, m3, m4, gp2, gq2, zp2, zq2⟩ := h2.2 rfl
        have h3 := fail s2 hF
        have n3 : xs2[((i : Nat) : Int).toNat]? = some (xs2[i]'(by omega)) := by simp
        have n4 : ys2[((i : Nat) : Int).toNat]? = some (ys2[i]'(by omega)) := by simp
        obtain ⟨hh2, gg2, dd2, kk2, oo2⟩ := s2
        wp_walk using wpAny_loadPart' gp2, wpAny_loadPart' gq2
        rw [n3, n4]
        wp_walk
        exact h3
    · obtain ⟨hh, gg, dd, kk, oo⟩ := s
      wp_walk using wpAny_loadPart' gp, wpAny_loadPart' gq
      rw [n1, n2]
      refine wpAny_bind (wpAny_mono tt (fun r s2 h2 => ?_) fun _ _ x => x)
      cases r with
      | true =>
        have h3 := next s2 (h2.1 rfl)
        obtain ⟨hh2, gg2, dd2, kk2, oo2⟩ := s2
        wp_walk
        rw [up]
        exact ⟨plainId_quiet plain_eq_loop _, codeAny_builtin entry_eq_loop (by rw [Around.under_plainId plain_eq_loop _]; exact h3)⟩
      | false =>
        obtain ⟨hF, xs2, ys2, m3, m4, gp2, gq2, zp2, zq2⟩ := h2.2 rfl
        have h3 := fail s2 hF
        have n3 : xs2[((i : Nat) : Int).toNat]? = some (xs2[i]'(by omega)) := by simp
        have n4 : ys2[((i : Nat) : Int).toNat]? = some (ys2[i]'(by omega)) := by simp
        obtain ⟨hh2, gg2, dd2, kk2, oo2⟩ := s2
        wp_walk using wpAny_loadPart' gp2, wpAny_loadPart' gq2
        rw [n3, n4]
        wp_walk
        exact h3
theorem listsB (ne yes : Bool) (hop : ne = !yes) (p q : Addr) (N : Nat) (J : Nat → Shared → Prop) (F : Shared → Prop) (hJ : LstI prog w A (fun e s' => R (.error e) s') p q N J F)
    (done : ∀ s, J N s → R (.ok (.ret (.bool yes))) s) (fail : ∀ s, F s → R (.ok (.ret (.bool (!yes)))) s) {s : Shared} (hs : J 0 s) :
    wpAny (model prog w) A.in1 ((if ne then Builtin.«list.__ne__» else Builtin.«list.__eq__») ⟨[.ref p, .ref q], []⟩) (GQ.FinOf prog w A R) (fun e s' => R (.error e) s') s := by
  obtain ⟨xs, ys, m, m2, gp, gq, zp, zq, _⟩ := hJ _ _ hs
  have same : ¬ (xs.size != ys.size) = true := by simp [zp, zq]
  have sub := AutoSeq1.sub_list_list
  cases yes with
  | true =>
    subst hop
    have all := turnsB (A := A) (R := R) 2 true (.inl ⟨rfl, rfl⟩) p q N J F hJ done fail _ 0 rfl (Nat.zero_le _) s hs
    obtain ⟨hh, gg, dd, kk, oo⟩ := s
    show wpAny _ _ (Builtin.«list.__eq__» ⟨[.ref p, .ref q], []⟩) _ _ _
    wp_walk using wpAny_loadPart' gp, wpAny_loadPart' gq
    exact ⟨plainId_quiet plain_eq_loop _, codeAny_builtin entry_eq_loop (by rw [Around.under_plainId plain_eq_loop _]; exact all)⟩
  | false =>
    subst hop
    have all := turnsB (A := A) (R := R) 3 false (.inr ⟨rfl, rfl⟩) p q N J F hJ done fail _ 0 rfl (Nat.zero_le _) s hs
    obtain ⟨hh, gg, dd, kk, oo⟩ := s
    show wpAny _ _ (Builtin.«list.__ne__» ⟨[.ref p, .ref q], []⟩) _ _ _
    wp_walk using wpAny_loadPart' gp, wpAny_loadPart' gq
    exact ⟨plainId_quiet plain_eq_loop _, codeAny_builtin entry_eq_loop (by rw [Around.under_plainId plain_eq_loop _]; exact all)⟩
/-- lists of unlike lengths -/
theorem listsN (ne : Bool) (p q : Addr) {xs ys : Array Value} {m m2 : Nat} {s : Shared} (gp : s.heap.get? p = some { cls := .type "list", data := .seq xs m }) (gq : s.heap.get? q = some { cls := .type "list", data := .seq ys m2 }) (h : xs.size ≠ ys.size)
    (fail : R (.ok (.ret (.bool ne))) s) : wpAny (model prog w) A.in1 ((if ne then Builtin.«list.__ne__» else Builtin.«list.__eq__») ⟨[.ref p, .ref q], []⟩) (GQ.FinOf prog w A R) (fun e s' => R (.error e) s') s := by
  have unl : (xs.size != ys.size) = true := by simpa using h
  have sub := AutoSeq1.sub_list_list
  cases ne with
  | true =>
    obtain ⟨hh, gg, dd, kk, oo⟩ := s
    show wpAny _ _ (Builtin.«list.__ne__» ⟨[.ref p, .ref q], []⟩) _ _ _
    wp_walk using wpAny_loadPart' gp, wpAny_loadPart' gq
    exact fail
  | false =>
    obtain ⟨hh, gg, dd, kk, oo⟩ := s
    show wpAny _ _ (Builtin.«list.__eq__» ⟨[.ref p, .ref q], []⟩) _ _ _
    wp_walk using wpAny_loadPart' gp, wpAny_loadPart' gq
    exact fail
end
end KA
namespace KA
open PySem PySem.SeqAt
open AutoSeq1 (wpAny_loadPart')
open MeetsSeq MeetsSeq2 MeetsSeq3 SeqRoads2
section
variable {prog : Program} {w : World} {A : Around} {R : Result → Shared → Prop}
theorem tupsB (ne : Bool) (p q : Addr) (xs ys : Array Value) (n n2 : Nat) (d1 d2 : Option Addr) (l1 l2 : Array (Option Value)) (J : Nat → Shared → Prop) (F : Shared → Prop)
    (turn : ∀ i (h1 : i < xs.size) (h2 : i < ys.size) s, J i s → wpAny (model prog w) A.in1 (eqBool xs[i] ys[i]) (fun r s' => (r = true → J (i + 1) s') ∧ (r = false → F s')) (fun e s' => R (.error e) s') s)
    (done : ∀ s, J (min xs.size ys.size) s → R (.ok (.ret (.bool (ne ^^ (xs.size == ys.size))))) s) (fail : ∀ s, F s → R (.ok (.ret (.bool ne))) s)
    {s : Shared} (gp : s.heap.get? p = some { cls := .type "tuple", dict := d1, data := .seq xs n, slots := l1 }) (gq : s.heap.get? q = some { cls := .type "tuple", dict := d2, data := .seq ys n2, slots := l2 }) (h : J 0 s) :
    wpAny (model prog w) A.in1 ((if ne then Builtin.«tuple.__ne__» else Builtin.«tuple.__eq__») ⟨[.ref p, .ref q], []⟩) (GQ.FinOf prog w A R) (fun e s' => R (.error e) s') s := by
  have sub := AutoSeq1.sub_tuple_tuple
  have hZ : (xs.toList.zip ys.toList).length = min xs.size ys.size := by simp
  have h0 := h
  have at_ : ∀ {i : Nat} {z : Value × Value} {rest : List (Value × Value)}, z :: rest = (xs.toList.zip ys.toList).drop i → ∃ (h1 : i < xs.size) (h2 : i < ys.size), z = (xs[i], ys[i]) ∧ rest = (xs.toList.zip ys.toList).drop (i + 1) := fun {i z rest} hz => by
    have lt : i < (xs.toList.zip ys.toList).length := by
      rcases Nat.lt_or_ge i (xs.toList.zip ys.toList).length with h' | h'
      · exact h'
      · rw [List.drop_of_length_le h'] at hz
        cases hz
    have h1 : i < xs.size := by omega
    have h2 : i < ys.size := by omega
    rw [List.drop_eq_getElem_cons lt] at hz
    injection hz with e1 e2
    exact ⟨h1, h2, by rw [e1]; simp, e2⟩
  have end_ : ∀ {i : Nat}, ([] : List (Value × Value)) = (xs.toList.zip ys.toList).drop i → i ≤ min xs.size ys.size → i = min xs.size ys.size := fun {i} hz hi => by
    rcases Nat.lt_or_ge i (xs.toList.zip ys.toList).length with h' | h'
    · rw [List.drop_eq_getElem_cons h'] at hz
      cases hz
    · omega
  cases ne with
  | false =>
    obtain ⟨hh, gg, dd, kk, oo⟩ := s
    show wpAny _ _ (Builtin.«tuple.__eq__» ⟨[.ref p, .ref q], []⟩) _ _ _
    wp_walk using wpAny_loadPart' gp, wpAny_loadPart' gq, wpAny_forIn_list _ (fun rest b s' => b.1 = none ∧ ∃ i, rest = (xs.toList.zip ys.toList).drop i ∧ i ≤ min xs.size ys.size ∧ J i s') _
    case turn =>
      rintro ⟨y, x⟩ rest b s' ⟨hb', i, hz, hi, hI⟩
      obtain ⟨h1, h2, e, hrest⟩ := at_ hz
      injection e with e1 e2
      subst e1 e2
      refine wpAny_bind (wpAny_mono (turn i h1 h2 s' hI) (fun r s2 q2 => ?_) fun _ _ x => x)
      cases r with
      | true =>
        wp_walk
        exact ⟨rfl, i + 1, hrest, by omega, q2.1 rfl⟩
      | false =>
        have h3 := fail s2 (q2.2 rfl)
        wp_walk
        exact h3
    case fin =>
      rintro ⟨b1, b2⟩ s' ⟨hb', i, hz, hi, hI⟩
      simp only at hb'
      subst hb'
      have hR := done s' (end_ hz hi ▸ hI)
      wp_walk
      simpa [Builtin.Tuple.tupleCompareSizes] using hR
    case h =>
      exact ⟨rfl, 0, rfl, Nat.zero_le _, h0⟩
  | true =>
    obtain ⟨hh, gg, dd, kk, oo⟩ := s
    show wpAny _ _ (Builtin.«tuple.__ne__» ⟨[.ref p, .ref q], []⟩) _ _ _
    wp_walk using wpAny_loadPart' gp, wpAny_loadPart' gq, wpAny_forIn_list _ (fun rest b s' => b.1 = none ∧ ∃ i, rest = (xs.toList.zip ys.toList).drop i ∧ i ≤ min xs.size ys.size ∧ J i s') _
    case turn =>
      rintro ⟨y, x⟩ rest b s' ⟨hb', i, hz, hi, hI⟩
      obtain ⟨h1, h2, e, hrest⟩ := at_ hz
      injection e with e1 e2
      subst e1 e2
      refine wpAny_bind (wpAny_mono (turn i h1 h2 s' hI) (fun r s2 q2 => ?_) fun _ _ x => x)
      cases r with
      | true =>
        wp_walk
        exact ⟨rfl, i + 1, hrest, by omega, q2.1 rfl⟩
      | false =>
        have h3 := fail s2 (q2.2 rfl)
        wp_walk
        exact h3
    case fin =>
      rintro ⟨b1, b2⟩ s' ⟨hb', i, hz, hi, hI⟩
      simp only at hb'
      subst hb'
      have hR := done s' (end_ hz hi ▸ hI)
      wp_walk
      simpa [Builtin.Tuple.tupleCompareSizes, bne] using hR
    case h =>
      exact ⟨rfl, 0, rfl, Nat.zero_le _, h0⟩
end
section
variable {prog : Program} {w : World} {A : Around} {E : Value → Shared → Prop} {s : Shared}
def opNe (ne : Bool) : CmpOp := if ne then .NotEq else .Eq
theorem rcL {p q : Addr} {N : Nat} {Q : Value → Shared → Prop} (ne : Bool) (hu : A.units < cLine) (J : Nat → Shared → Prop) (F : Shared → Prop) (hJ : LstI prog w A E p q N J F)
    (done : ∀ s, J N s → Q (.bool (!ne)) s) (fail : ∀ s, F s → Q (.bool ne) s) (hs : J 0 s) : wpAny (model prog w) A (richCompare (opNe ne) (.ref p) (.ref q)) Q E s := by
  obtain ⟨xs, ys, m, m2, gp, gq, _, _, _⟩ := hJ _ _ hs
  cases ne with
  | false =>
    refine wpAny_richCompare_same_room (op := .Eq) ⟨_, gp, rfl⟩ ⟨_, gq, rfl⟩ PySem.F.slot_list_eq (GQ.call_here PySem.F.slot_list_eq ⟨_, gp, rfl⟩ PySem.F.entry_list_eq (PySem.F.args_list_eq_2 _ _) ?_) hu
    exact listsB (R := wants (fun v s' => v ≠ .notImplemented ∧ Q v s') E) false true rfl p q N J F hJ (fun s' z => ⟨(fun x => nomatch x), done s' z⟩) (fun s' z => ⟨(fun x => nomatch x), fail s' z⟩) hs
  | true =>
    refine wpAny_richCompare_same_room (op := .NotEq) ⟨_, gp, rfl⟩ ⟨_, gq, rfl⟩ PySem.F.slot_list_ne (GQ.call_here PySem.F.slot_list_ne ⟨_, gp, rfl⟩ PySem.F.entry_list_ne (PySem.F.args_list_ne_2 _ _) ?_) hu
    exact listsB (R := wants (fun v s' => v ≠ .notImplemented ∧ Q v s') E) true false rfl p q N J F hJ (fun s' z => ⟨(fun x => nomatch x), done s' z⟩) (fun s' z => ⟨(fun x => nomatch x), fail s' z⟩) hs
theorem rcN {p q : Addr} {xs ys : Array Value} {m m2 : Nat} {Q : Value → Shared → Prop} (ne : Bool) (hu : A.units < cLine) (gp : s.heap.get? p = some { cls := .type "list", data := .seq xs m }) (gq : s.heap.get? q = some { cls := .type "list", data := .seq ys m2 }) (h : xs.size ≠ ys.size)
    (fail : Q (.bool ne) s) : wpAny (model prog w) A (richCompare (opNe ne) (.ref p) (.ref q)) Q E s := by
  cases ne with
  | false =>
    refine wpAny_richCompare_same_room (op := .Eq) ⟨_, gp, rfl⟩ ⟨_, gq, rfl⟩ PySem.F.slot_list_eq (GQ.call_here PySem.F.slot_list_eq ⟨_, gp, rfl⟩ PySem.F.entry_list_eq (PySem.F.args_list_eq_2 _ _) ?_) hu
    exact listsN (R := wants (fun v s' => v ≠ .notImplemented ∧ Q v s') E) false p q gp gq h ⟨(fun x => nomatch x), fail⟩
  | true =>
    refine wpAny_richCompare_same_room (op := .NotEq) ⟨_, gp, rfl⟩ ⟨_, gq, rfl⟩ PySem.F.slot_list_ne (GQ.call_here PySem.F.slot_list_ne ⟨_, gp, rfl⟩ PySem.F.entry_list_ne (PySem.F.args_list_ne_2 _ _) ?_) hu
    exact listsN (R := wants (fun v s' => v ≠ .notImplemented ∧ Q v s') E) true p q gp gq h ⟨(fun x => nomatch x), fail⟩
theorem rcT {p q : Addr} {xs ys : Array Value} {Q : Value → Shared → Prop} (ne : Bool) (hu : A.units < cLine) (J : Nat → Shared → Prop) (F : Shared → Prop) (hl : s.heap.IsTuple p xs) (hb : s.heap.IsTuple q ys)
    (turn : ∀ i (h1 : i < xs.size) (h2 : i < ys.size) s, J i s → wpAny (model prog w) A.in1 (eqBool xs[i] ys[i]) (fun r s' => (r = true → J (i + 1) s') ∧ (r = false → F s')) E s)
    (done : ∀ s, J (min xs.size ys.size) s → Q (.bool (ne ^^ (xs.size == ys.size))) s) (fail : ∀ s, F s → Q (.bool ne) s) (h : J 0 s) : wpAny (model prog w) A (richCompare (opNe ne) (.ref p) (.ref q)) Q E s := by
  obtain ⟨⟨cls, dd, data, sl⟩, ho, hc, n, hd⟩ := id hl
  obtain ⟨⟨cls2, dd2, data2, sl2⟩, ho2, hc2, n2, hd2⟩ := id hb
  simp only at hc hd hc2 hd2
  subst hc hd hc2 hd2
  cases ne with
  | false =>
    refine wpAny_richCompare_same_room (op := .Eq) ⟨_, ho, rfl⟩ ⟨_, ho2, rfl⟩ PySem.F.slot_tuple_eq (GQ.call_here PySem.F.slot_tuple_eq ⟨_, ho, rfl⟩ PySem.F.entry_tuple_eq (PySem.F.args_tuple_eq_2 _ _) ?_) hu
    exact tupsB (R := wants (fun v s' => v ≠ .notImplemented ∧ Q v s') E) false p q xs ys n n2 dd dd2 sl sl2 J F turn (fun s' z => ⟨(fun x => nomatch x), done s' z⟩) (fun s' z => ⟨(fun x => nomatch x), fail s' z⟩) ho ho2 h
  | true =>
    refine wpAny_richCompare_same_room (op := .NotEq) ⟨_, ho, rfl⟩ ⟨_, ho2, rfl⟩ PySem.F.slot_tuple_ne (GQ.call_here PySem.F.slot_tuple_ne ⟨_, ho, rfl⟩ PySem.F.entry_tuple_ne (PySem.F.args_tuple_ne_2 _ _) ?_) hu
    exact tupsB (R := wants (fun v s' => v ≠ .notImplemented ∧ Q v s') E) true p q xs ys n n2 dd dd2 sl sl2 J F turn (fun s' z => ⟨(fun x => nomatch x), done s' z⟩) (fun s' z => ⟨(fun x => nomatch x), fail s' z⟩) ho ho2 h
end
end KA
namespace KA
open PySem PySem.Spec PyProof.Rows L2
section
variable {X : Cx} {n : Nat}
/-- x == y (or another comparison), x an instance of the class at C whose own def keeps sp, y of any kind -/
def rOwn (K : PySem.W.Frag) (C : Addr) (sp : Sp) (E : XK) : R2 := fun x y H Q => ∃ (a dx : Addr) (fs : List (Str × V)) (t : Value), x = .ref a ∧ H a = some (.ins C dx fs) ∧ TyX K H y t ∧ PySem.W.notFirst K C t = true ∧ sp [.ref a, y] H (fun v H' => (∃ b, v = .bl b) ∧ Q v H') E
theorem op_own {op : CmpOp} {CX : CXT} {C f : Addr} {fd : FuncData} {ps : List Str} {sp : Sp} {E : XK} (F : FnOk X.prog X.w X.K X.mg X.base CX n f fd ps sp)
    (hs : PySem.W.findIn X.K (.ref C) (cmpInfo op).2.1 = some (some (.ref f))) (hf : PySem.W.isFn X.K (.ref f) = true) (hb : Binds X.K fd ps []) (hx : Passes CX X E) (hr : Room n X.A) (ho : compareOp op = richCompare op := by rfl) : OpR X (compareOp op) (rOwn X.K C sp E) := by
  intro pins s σ H x y u v Q I rx ry d
  obtain ⟨a, dx, fs, t, rfl, ha, ty, hn, hsp⟩ := d
  cases rx
  obtain ⟨mA, J, _⟩ := ins_get I.hok ha
  obtain ⟨od, J, _⟩ := J.look
  obtain ⟨Pz, Z, p, _⟩ := kit_of I ry ty
  obtain ⟨m, hF⟩ := I.fr
  rw [ho]
  refine PySem.W.cmp_K (op := op) (tb := t) hr.units0 hF I.ok.mod.kin J (Z.ty _ _ I.kIn p) hn hs hf ?_
  have hl := F.len _ _ _ _ hsp
  have r2 : Vals [V.ref a, y] [Value.ref a, v] := .cons rfl (.cons ry .nil)
  refine wpAny_call (codeAny_mono (F.run X.A X.stack s H ⟨[.ref a, v], []⟩ [.ref a, v] [.ref a, y] _ E hr I.env0 (by
    have := hb s [.ref a, v] I.kIn (by simpa using hl)
    simpa using this) r2 hsp) fun r s' hq => ?_)
  cases r with
  | error e => exact hx pins σ H s e s' I hq
  | ok fl =>
    cases fl with
    | ret w =>
      obtain ⟨z, H', I', rz, ⟨b, ez⟩, q⟩ := I.after hq
      subst ez
      cases rz
      exact ⟨.bl b, H', I', rfl, q⟩
    | next => exact False.elim hq
    | brk => exact False.elim hq
    | cont => exact False.elim hq
end
end KA
namespace KA
open PySem PySem.Spec PySem.W PyProof.Rows
section
variable {prog : Program} {w : World} {A : Around} {E : Value → Shared → Prop} {s : Shared} {K : Frag} {x C f : Addr} {ox : Obj} {od : Option Obj}
theorem repr_K {Q : Value → Shared → Prop} (hu : A.in1.units < cLine) (X : K.In s.heap) (I : InstAt s.heap x ox C od) (hs : findIn K (.ref C) "__repr__" = some (some (.ref f))) (hf : isFn K (.ref f) = true)
    (hcall : wpAny (model prog w) A.in1 (call (.ref f) [.ref x]) (fun r s' => ∃ m tk, r = .str m tk ∧ Q (.str m tk) s') E s) :
    wpAny (model prog w) A (call (.builtin "repr") [.ref x]) Q E s := by
  refine Calls.call_function_entry F.kind_repr F.plain_repr F.entry_repr (F.args_repr1 _) ?_
  unfold Builtin.«repr»
  refine wpAny_bind (m := oneArg "repr" _) (wpAny_pure ?_)
  refine wpAny_bind (wpAny_cRoomFor hu ?_)
  refine wpAny_bind (wpAny_bind (I.type.here ((looks_findIn X hs).here ?_)))
  show wpAny _ _ (if (some (Value.ref f)).isNone = true then _ else _) _ _ _
  rw [if_neg (by simp)]
  refine wpAny_bind (m := callSpecialIfBound? (.ref x) (Str.ofString "__repr__") _) (ifBound_K X I hs hf (wpAny_mono hcall (fun r s' hr => ?_) fun _ _ y => y))
  obtain ⟨m, tk, rfl, hq⟩ := hr
  refine wpAny_bind (wpAny_isInstance (typeIs_str _ _ _) isSubtype_str_str ?_)
  first
    | exact wpAny_pure ⟨_, rfl, hq⟩
    | (rw [if_pos rfl]; exact wpAny_pure ⟨_, rfl, hq⟩)
    | (simp only [if_true]; exact wpAny_pure ⟨_, rfl, hq⟩)
end
end KA
namespace KA
open PySem PySem.Spec PyProof.Rows L2
section
variable {X : Cx} {n : Nat} {CX : CXT} {C f : Addr} {fd : FuncData} {ps : List Str} {sp : Sp} {E : XK}
/-- repr(x), str(x): x an instance of the class at C, whose own def keeps sp -/
def rShow (C : Addr) (sp : Sp) (E : XK) : List V → Hp → VK → Prop := fun xs H Q => ∃ (a dx : Addr) (fs : List (Str × V)), xs = [.ref a] ∧ H a = some (.ins C dx fs) ∧ sp [.ref a] H (fun v H' => (∃ m, v = .str m) ∧ Q v H') E
theorem run_self {A : Around} {pins : List (Addr × Obj)} {σ : L2.St} {H : Hp} {s : Shared} {a : Addr} {Q : VK} (F : FnOk X.prog X.w X.K X.mg X.base CX n f fd ps sp) (hb : Binds X.K fd ps []) (hx : Passes CX X E) (hr : Room n A) (hA : A.frames = X.A.frames) (I : L2.Inv X pins σ H s)
    (hsp : sp [.ref a] H (fun v H' => (∃ m, v = .str m) ∧ Q v H') E) : wpAny (model X.prog X.w) A (call (.ref f) [.ref a]) (fun r s' => ∃ m tk, r = .str m tk ∧ EP X pins σ Q (.str m tk) s') X.xe s := by
  have e0 : Env0 X.prog X.w X.K X.mg X.base A X.stack s H := by
    have e := I.env0
    exact ⟨by rw [hA]; exact e.frames, e.mod, e.bs, e.bsz, e.funs, e.frf, e.hok, e.bare⟩
  have hl := F.len _ _ _ _ hsp
  have r2 : Vals [V.ref a] [Value.ref a] := .cons rfl .nil
  refine wpAny_call (codeAny_mono (F.run A X.stack s H ⟨[.ref a], []⟩ [.ref a] [.ref a] _ E hr e0 (by
    have := hb s [.ref a] I.kIn (by simpa using hl)
    simpa using this) r2 hsp) fun r s' hq => ?_)
  cases r with
  | error e => exact hx pins σ H s e s' I hq
  | ok fl =>
    cases fl with
    | ret w =>
      obtain ⟨z, H', I', rz, ⟨m, ez⟩, q⟩ := I.after hq
      subst ez
      obtain ⟨tk, rfl⟩ := (show ∃ t, w = Value.str m t from rz)
      exact ⟨m, tk, rfl, .str m, H', I', ⟨tk, rfl⟩, q⟩
    | next => exact False.elim hq
    | brk => exact False.elim hq
    | cont => exact False.elim hq
theorem call_reprO (F : FnOk X.prog X.w X.K X.mg X.base CX n f fd ps sp) (hs : PySem.W.findIn X.K (.ref C) "__repr__" = some (some (.ref f))) (hf : PySem.W.isFn X.K (.ref f) = true) (hb : Binds X.K fd ps []) (hx : Passes CX X E) (hr : Room (n + 1) X.A) :
    CallR X (.builtin "repr") (rShow C sp E) := by
  intro pins s σ H xs us Q I r h
  obtain ⟨a, dx, fs, rfl, ha, hsp⟩ := h
  obtain ⟨u, rfl, r1⟩ := vals1 r
  cases (show u = Value.ref a from r1)
  obtain ⟨mA, J, _⟩ := ins_get I.hok ha
  obtain ⟨od, J, _⟩ := J.look
  exact repr_K hr.in1.units0 I.kIn J hs hf (run_self F hb hx hr.in1 rfl I hsp)
theorem call_strO (F : FnOk X.prog X.w X.K X.mg X.base CX n f fd ps sp) (hs : PySem.W.findIn X.K (.ref C) "__str__" = some (some (.ref f))) (hf : PySem.W.isFn X.K (.ref f) = true) (hb : Binds X.K fd ps []) (hx : Passes CX X E) (hr : Room (n + 2) X.A) :
    CallR X (.type "str") (rShow C sp E) := by
  intro pins s σ H xs us Q I r h
  obtain ⟨a, dx, fs, rfl, ha, hsp⟩ := h
  obtain ⟨u, rfl, r1⟩ := vals1 r
  cases (show u = Value.ref a from r1)
  obtain ⟨mA, J, _⟩ := ins_get I.hok ha
  obtain ⟨od, J, _⟩ := J.look
  refine PySem.W.kso_call hr.in1.in1.units0 I.kIn J hs hf (wpAny_mono (run_self F hb hx hr.in1.in1 rfl I hsp) (fun r s' hr => ?_) fun _ _ y => y)
  obtain ⟨m, tk, rfl, q⟩ := hr
  exact q
/-- {x}: a text, an int, a truth -/
def tFmtB (te : TE) : TE := fun σ H Q => te σ H fun x H1 => (∃ y : Str, x = .str y ∧ y.length ≤ sizeLine ∧ Q (.str y) H1) ∨ (∃ i : Int, x = .int i ∧ i.natAbs.log2 < 1920 ∧ Q (.str (toString i)) H1) ∨ ∃ b : Bool, x = .bl b ∧ Q (.str (if b then "True" else "False")) H1
theorem pe_fmtB {e : Expr} {te : TE} {pos : Pos} (he : PE X e te) : PE X (.FormattedValue e (-1) none pos) (tFmtB te) := by
  refine ⟨fun pins s σ H Q I h => ?_⟩
  refine wpAny_FormattedValue_plain (thn (he.run pins s σ H _ I h) fun v s1 hv => ?_)
  obtain ⟨x, H1, I1, r1, q⟩ := hv
  rcases q with ⟨y, rfl, hz, q⟩ | ⟨i, rfl, hz, q⟩ | ⟨b, rfl, q⟩
  · obtain ⟨t, rfl⟩ := r1
    exact wpAny_formatField_str ⟨.str y, H1, I1, ⟨t, rfl⟩, q⟩ ⟨.str y, H1, I1.tok _, ⟨_, rfl⟩, q⟩ hz
  · obtain ⟨t, rfl⟩ := r1
    exact wpAny_formatField_int hz ⟨.str (toString i), H1, I1.tok _, ⟨_, rfl⟩, q⟩
  · cases (show v = Value.bool b from r1)
    exact wpAny_formatField_bool ⟨.str (if b then "True" else "False"), H1, I1.tok _, ⟨_, rfl⟩, q⟩
end
end KA
namespace KA
open PySem PySem.Spec PyProof.Rows L2
/-- two values, and what == tells of them -/
abbrev BEq2 := V → V → Bool → Hp → Prop
def MonB (D : BEq2) : Prop := ∀ x y b H H', Ext H H' → D x y b H → D x y b H'
def EqB (X : Cx) (n : Nat) (D : BEq2) : Prop :=
  ∀ (A : Around) (pins : List (Addr × Obj)) (s : Shared) (σ : L2.St) (H : Hp) (x y : V) (u v : Value) (b : Bool), Sub X n A → L2.Inv X pins σ H s → RelV x u → RelV y v → D x y b H →
    wpAny (model X.prog X.w) A (eqBool u v) (fun r s' => r = b ∧ ∃ H', L2.Inv X pins σ H' s' ∧ Ext H H') X.xe s
def RcB (X : Cx) (n : Nat) (ne : Bool) (D : BEq2) : Prop :=
  ∀ (A : Around) (pins : List (Addr × Obj)) (s : Shared) (σ : L2.St) (H : Hp) (x y : V) (u v : Value) (b : Bool), Sub X n A → L2.Inv X pins σ H s → RelV x u → RelV y v → D x y b H →
    wpAny (model X.prog X.w) A (richCompare (opNe ne) u v) (fun r s' => r = .bool (ne ^^ b) ∧ ∃ H', L2.Inv X pins σ H' s' ∧ Ext H H') X.xe s
section
variable {X : Cx} {n m : Nat} {D D' : BEq2}
theorem EqB.mono (h : EqB X n D) (hn : n ≤ m) : EqB X m D := fun A pins s σ H x y u v b sb => h A pins s σ H x y u v b (sb.mono hn)
theorem EqB.or (h : EqB X n D) (h' : EqB X n D') : EqB X n (fun x y b H => D x y b H ∨ D' x y b H) := fun A pins s σ H x y u v b sb I rx ry d => d.elim (fun d => h A pins s σ H x y u v b sb I rx ry d) (fun d => h' A pins s σ H x y u v b sb I rx ry d)
theorem MonB.or (h : MonB D) (h' : MonB D') : MonB (fun x y b H => D x y b H ∨ D' x y b H) := fun x y b H H' e d => d.elim (fun d => .inl (h x y b H H' e d)) fun d => .inr (h' x y b H H' e d)
/-- flat values -/
def BFlat : BEq2 := fun x y b _ => flatV x = true ∧ flatV y = true ∧ eqV x y = b
theorem monB_flat : MonB BFlat := fun _ _ _ _ _ _ d => d
theorem eqB_flat : EqB X 0 BFlat := by
  intro A pins s σ H x y u v b sb I rx ry d
  obtain ⟨fx, fy, e⟩ := d
  have q := eqAt_V (A := A) (s := s) rx ry fx fy
  rw [e] at q
  exact q X.prog X.w X.xe _ ⟨rfl, H, I, Ext.rfl'⟩
/-- item by item, as far as both go -/
def PrsB (D : BEq2) (xs ys : List V) (f : Nat → Bool) (H : Hp) : Prop := ∀ (i : Nat) x y, xs[i]? = some x → ys[i]? = some y → D x y (f i) H
theorem turnB (hD : MonB D) (h : EqB X n D) {A : Around} (sb : Sub X (n + 1) A) {pins : List (Addr × Obj)} {σ : L2.St} {H : Hp} {xs ys : List V} {its its2 : List Value} {f : Nat → Bool} (p : PrsB D xs ys f H) (r : Vals xs its) (r2 : Vals ys its2)
    (i : Nat) (h1 : i < its.toArray.size) (h2 : i < its2.toArray.size) (s' : Shared) (l : LoopI X pins σ H s') :
    wpAny (model X.prog X.w) A.in1 (eqBool its.toArray[i] its2.toArray[i]) (fun r s2 => r = f i ∧ LoopI X pins σ H s2) X.xe s' := by
  obtain ⟨H1, I1, e1⟩ := l
  have l1 : i < its.length := by simpa using h1
  have l2 : i < its2.length := by simpa using h2
  have k1 : i < xs.length := by rw [r.length]; exact l1
  have k2 : i < ys.length := by rw [r2.length]; exact l2
  obtain ⟨u, hu, ru⟩ := r.get (List.getElem?_eq_getElem k1)
  obtain ⟨v, hv, rv⟩ := r2.get (List.getElem?_eq_getElem k2)
  have g1 : its.toArray[i] = u := by
    rw [List.getElem?_eq_getElem l1] at hu
    simpa using Option.some.inj hu
  have g2 : its2.toArray[i] = v := by
    rw [List.getElem?_eq_getElem l2] at hv
    simpa using Option.some.inj hv
  rw [g1, g2]
  refine wpAny_mono (h A.in1 pins s' σ H1 _ _ u v _ sb.in1 I1 ru rv (hD _ _ _ _ _ e1 (p i _ _ (List.getElem?_eq_getElem k1) (List.getElem?_eq_getElem k2)))) (fun r s2 q => ?_) fun _ _ x => x
  obtain ⟨hr, H2, I2, e2⟩ := q
  exact ⟨hr, H2, I2, e1.trans e2⟩
def allF (N : Nat) (f : Nat → Bool) : Bool := (List.range N).all f
theorem allF_true {N : Nat} {f : Nat → Bool} (h : ∀ j, j < N → f j = true) : allF N f = true := by
  unfold allF
  rw [List.all_eq_true]
  exact fun j hj => h j (List.mem_range.mp hj)
theorem allF_false {N j : Nat} {f : Nat → Bool} (h : j < N) (e : f j = false) : allF N f = false := by
  unfold allF
  rw [List.all_eq_false]
  exact ⟨j, List.mem_range.mpr h, by rw [e]; exact Bool.false_ne_true⟩
def BList (D : BEq2) : BEq2 := fun x y b H => ∃ (p q : Addr) (xs ys : List V) (f : Nat → Bool), x = .ref p ∧ y = .ref q ∧ H p = some (.lst xs) ∧ H q = some (.lst ys) ∧ (xs.length = ys.length → PrsB D xs ys f H) ∧ b = (decide (xs.length = ys.length) && allF xs.length f)
def BTup (K : PySem.W.Frag) (D : BEq2) : BEq2 := fun x y b H => ∃ (p q : Addr) (xs ys : List V) (f : Nat → Bool), x = .ref p ∧ y = .ref q ∧ SqT K H p xs ∧ SqT K H q ys ∧ PrsB D xs ys f H ∧ b = (decide (xs.length = ys.length) && allF xs.length f)
theorem PrsB.mon (hD : MonB D) {xs ys : List V} {f : Nat → Bool} {H H' : Hp} (e : Ext H H') (p : PrsB D xs ys f H) : PrsB D xs ys f H' := fun i x y h1 h2 => hD x y _ H H' e (p i x y h1 h2)
theorem monB_list (hD : MonB D) : MonB (BList D) := fun x y b H H' e d => by
  obtain ⟨p, q, xs, ys, f, hx, hy, h1, h2, pr, hb⟩ := d
  exact ⟨p, q, xs, ys, f, hx, hy, e _ _ h1, e _ _ h2, fun z => (pr z).mon hD e, hb⟩
theorem monB_tup {K : PySem.W.Frag} (hD : MonB D) : MonB (BTup K D) := fun x y b H H' e d => by
  obtain ⟨p, q, xs, ys, f, hx, hy, h1, h2, pr, hb⟩ := d
  exact ⟨p, q, xs, ys, f, hx, hy, h1.ext e, h2.ext e, pr.mon hD e, hb⟩
theorem rcB_list (ne : Bool) (hD : MonB D) (h : EqB X n D) : RcB X (n + 1) ne (BList D) := by
  intro A pins s σ H x y u v b sb I rx ry d
  obtain ⟨p, q, xs, ys, f, rfl, rfl, hp, hq, pr, rfl⟩ := d
  cases rx
  cases ry
  by_cases hl : xs.length = ys.length
  · have pr := pr hl
    have look : ∀ s', LoopI X pins σ H s' → ∃ (as bs : List Value) (m m2 : Nat), Vals xs as ∧ Vals ys bs ∧ s'.heap.get? p = some { cls := .type "list", data := .seq as.toArray m } ∧ s'.heap.get? q = some { cls := .type "list", data := .seq bs.toArray m2 } ∧ as.toArray.size = xs.length ∧ bs.toArray.size = xs.length := fun s' z => by
      obtain ⟨H1, I1, e1⟩ := id z
      obtain ⟨_, its, k, r, e⟩ := I1.hok p _ (e1 _ _ hp)
      obtain ⟨_, its2, k2, r2, e2⟩ := I1.hok q _ (e1 _ _ hq)
      exact ⟨its, its2, k, k2, r, r2, e, e2, by rw [List.size_toArray, ← r.length], by rw [List.size_toArray, ← r2.length, hl]⟩
    refine rcL (N := xs.length) ne sb.room.units0 (fun i s' => LoopI X pins σ H s' ∧ ∀ j, j < i → f j = true) (fun s' => LoopI X pins σ H s' ∧ ∃ j, j < xs.length ∧ f j = false) (fun i s' z => ?_) (fun s' z => ?_) (fun s' z => ?_) ⟨⟨H, I, Ext.rfl'⟩, fun j hj => absurd hj (Nat.not_lt_zero _)⟩
    · obtain ⟨z, hf⟩ := z
      obtain ⟨as, bs, k, k2, r, r2, e, e2, z1, z2⟩ := look s' z
      refine ⟨_, _, k, k2, e, e2, z1, z2, fun g1 g2 => wpAny_mono (turnB hD h sb pr r r2 i g1 g2 s' z) (fun r s2 q2 => ?_) fun _ _ x => x⟩
      obtain ⟨rfl, q2⟩ := q2
      refine ⟨fun t => ⟨q2, fun j hj => ?_⟩, fun t => ⟨⟨q2, i, by omega, t⟩, ?_⟩⟩
      · by_cases hji : j = i
        · rw [hji]; exact t
        · exact hf j (by omega)
      · obtain ⟨as, bs, k, k2, r, r2, e, e2, z1, z2⟩ := look s2 q2
        exact ⟨_, _, k, k2, e, e2, z1, z2⟩
    · obtain ⟨⟨H1, z⟩, hf⟩ := z
      refine ⟨?_, H1, z⟩
      rw [decide_eq_true hl, allF_true hf]
      cases ne <;> rfl
    · obtain ⟨⟨H1, z⟩, j, hj, e⟩ := z
      refine ⟨?_, H1, z⟩
      rw [allF_false hj e, Bool.and_false, Bool.xor_false]
  · obtain ⟨_, its, k, r, e⟩ := I.hok p _ hp
    obtain ⟨_, its2, k2, r2, e2⟩ := I.hok q _ hq
    refine rcN ne sb.room.units0 e e2 (by rw [List.size_toArray, List.size_toArray, ← r.length, ← r2.length]; exact hl) ⟨?_, H, I, Ext.rfl'⟩
    rw [decide_eq_false hl, Bool.false_and, Bool.xor_false]
theorem rcB_tup (ne : Bool) (hD : MonB D) (h : EqB X n D) : RcB X (n + 1) ne (BTup X.K D) := by
  intro A pins s σ H x y u v b sb I rx ry d
  obtain ⟨p, q, xs, ys, f, rfl, rfl, hp, hq, pr, rfl⟩ := d
  cases rx
  cases ry
  obtain ⟨its, r, e, z⟩ := I.tuple hp
  obtain ⟨its2, r2, e2, z2⟩ := I.tuple hq
  have w1 : its.toArray.size = xs.length := by rw [List.size_toArray, ← r.length]
  have w2 : its2.toArray.size = ys.length := by rw [List.size_toArray, ← r2.length]
  refine rcT ne sb.room.units0 (fun i s' => LoopI X pins σ H s' ∧ ∀ j, j < i → f j = true) (fun s' => LoopI X pins σ H s' ∧ ∃ j, j < xs.length ∧ f j = false) e e2 (fun i g1 g2 s' z => ?_) (fun s' z => ?_) (fun s' z => ?_) ⟨⟨H, I, Ext.rfl'⟩, fun j hj => absurd hj (Nat.not_lt_zero _)⟩
  · obtain ⟨z, hf⟩ := z
    refine wpAny_mono (turnB hD h sb pr r r2 i g1 g2 s' z) (fun r s2 q2 => ?_) fun _ _ x => x
    obtain ⟨rfl, q2⟩ := q2
    refine ⟨fun t => ⟨q2, fun j hj => ?_⟩, fun t => ⟨q2, i, by omega, t⟩⟩
    by_cases hji : j = i
    · rw [hji]; exact t
    · exact hf j (by omega)
  · obtain ⟨⟨H1, z⟩, hf⟩ := z
    refine ⟨?_, H1, z⟩
    rw [w1, w2] at hf ⊢
    by_cases hl : xs.length = ys.length
    · rw [decide_eq_true hl, allF_true (fun j hj => hf j (by omega)), hl]
      simp
    · rw [decide_eq_false hl]
      have : (xs.length == ys.length) = false := by simpa using hl
      rw [this]
      rfl
  · obtain ⟨⟨H1, z⟩, j, hj, e⟩ := z
    refine ⟨?_, H1, z⟩
    rw [allF_false hj e, Bool.and_false, Bool.xor_false]
/-- x == y, x != y as expressions -/
def rEqB (ne : Bool) (D : BEq2) : R2 := fun x y H Q => ∃ b, D x y b H ∧ ∀ H', Ext H H' → Q (.bl (ne ^^ b)) H'
theorem op_eqB (h : RcB X n false D) (hr : Room n X.A) : OpR X (compareOp .Eq) (rEqB false D) := by
  intro pins s σ H x y v u Q I rx ry hq
  obtain ⟨b, d, q⟩ := hq
  show wpAny (model X.prog X.w) X.A (richCompare .Eq v u) (EP X pins σ Q) X.xe s
  refine wpAny_mono (h X.A pins s σ H x y v u b ⟨hr, rfl⟩ I rx ry d) (fun r s' z => ?_) fun _ _ x => x
  obtain ⟨rfl, H', I', e⟩ := z
  exact ⟨.bl _, H', I', rfl, q H' e⟩
theorem op_neB (h : RcB X n true D) (hr : Room n X.A) : OpR X (compareOp .NotEq) (rEqB true D) := by
  intro pins s σ H x y v u Q I rx ry hq
  obtain ⟨b, d, q⟩ := hq
  show wpAny (model X.prog X.w) X.A (richCompare .NotEq v u) (EP X pins σ Q) X.xe s
  refine wpAny_mono (h X.A pins s σ H x y v u b ⟨hr, rfl⟩ I rx ry d) (fun r s' z => ?_) fun _ _ x => x
  obtain ⟨rfl, H', I', e⟩ := z
  exact ⟨.bl _, H', I', rfl, q H' e⟩
end
end KA
namespace KB
open PySem PySem.Spec PyProof.Rows L2 KA
def topS (i : Nat) : Stmt := PySem.Challenge.pw_pearlrise_k04_errors_and_their_kinds.main.body.getD i (.Pass ⟨0, 0, 0, 0⟩)
abbrev s_PearlError_init : Stmt := inClass (topS 1) 0
theorem sc_PearlError_init : FnScope ["self", "why"] ["self", "why"] (defScope s_PearlError_init) := ⟨rfl, rfl, rfl, by decide +kernel, rfl, by decide +kernel, by decide +kernel⟩
abbrev s_NotLet_init : Stmt := inClass (topS 7) 0
theorem sc_NotLet_init : FnScope ["self", "at", "why"] ["self", "at", "why"] (defScope s_NotLet_init) := ⟨rfl, rfl, rfl, by decide +kernel, rfl, by decide +kernel, by decide +kernel⟩
abbrev s_TooLate_init : Stmt := inClass (topS 8) 0
theorem sc_TooLate_init : FnScope ["self", "at"] ["self", "at"] (defScope s_TooLate_init) := ⟨rfl, rfl, rfl, by decide +kernel, rfl, by decide +kernel, by decide +kernel⟩
abbrev s_BadText_init : Stmt := inClass (topS 9) 0
theorem sc_BadText_init : FnScope ["self", "line"] ["self", "line"] (defScope s_BadText_init) := ⟨rfl, rfl, rfl, by decide +kernel, rfl, by decide +kernel, by decide +kernel⟩
abbrev s_NoSuch_init : Stmt := inClass (topS 10) 0
theorem sc_NoSuch_init : FnScope ["self", "kind", "name"] ["self", "kind", "name"] (defScope s_NoSuch_init) := ⟨rfl, rfl, rfl, by decide +kernel, rfl, by decide +kernel, by decide +kernel⟩
abbrev s_NoPlace_init : Stmt := inClass (topS 11) 0
theorem sc_NoPlace_init : FnScope ["self", "at"] ["self", "at"] (defScope s_NoPlace_init) := ⟨rfl, rfl, rfl, by decide +kernel, rfl, by decide +kernel, by decide +kernel⟩
abbrev s_Elsewhere_init : Stmt := inClass (topS 12) 0
theorem sc_Elsewhere_init : FnScope ["self", "number", "place"] ["self", "number", "place"] (defScope s_Elsewhere_init) := ⟨rfl, rfl, rfl, by decide +kernel, rfl, by decide +kernel, by decide +kernel⟩
abbrev s_Known_init : Stmt := inClass (topS 13) 0
theorem sc_Known_init : FnScope ["self", "kind", "name"] ["self", "kind", "name"] (defScope s_Known_init) := ⟨rfl, rfl, rfl, by decide +kernel, rfl, by decide +kernel, by decide +kernel⟩
abbrev s_NoShare_init : Stmt := inClass (topS 14) 0
theorem sc_NoShare_init : FnScope ["self", "num"] ["self", "num"] (defScope s_NoShare_init) := ⟨rfl, rfl, rfl, by decide +kernel, rfl, by decide +kernel, by decide +kernel⟩
abbrev s_cell_at : Stmt := topS 16
theorem sc_cell_at : FnScope ["_law_script", "_law_k"] ["_law_script", "_law_k"] (defScope s_cell_at) := ⟨rfl, rfl, rfl, by decide +kernel, rfl, by decide +kernel, by decide +kernel⟩
abbrev s_draws : Stmt := topS 17
theorem sc_draws : FnScope ["_law_cell"] ["_law_cell"] (defScope s_draws) := ⟨rfl, rfl, rfl, by decide +kernel, rfl, by decide +kernel, by decide +kernel⟩
abbrev s_one : Stmt := topS 18
theorem sc_one : FnScope ["_law_draws_here", "_law_many", "_law_found", "_law_mix"] ["_law_draws_here", "_law_many"] (defScope s_one) := ⟨rfl, rfl, rfl, by decide +kernel, rfl, by decide +kernel, by decide +kernel⟩
abbrev s_of : Stmt := topS 19
theorem sc_of : FnScope ["_law_draws_here", "_law_some"] ["_law_draws_here", "_law_some"] (defScope s_of) := ⟨rfl, rfl, rfl, by decide +kernel, rfl, by decide +kernel, by decide +kernel⟩
abbrev s_marks : Stmt := topS 20
theorem sc_marks : FnScope ["_law_e", "_law_some"] ["_law_e"] (defScope s_marks) := ⟨rfl, rfl, rfl, by decide +kernel, rfl, by decide +kernel, by decide +kernel⟩
abbrev s_kinds : Stmt := topS 21
theorem sc_kinds : FnScope ["_law_e", "_law_some"] ["_law_e"] (defScope s_kinds) := ⟨rfl, rfl, rfl, by decide +kernel, rfl, by decide +kernel, by decide +kernel⟩
abbrev s_is_of : Stmt := topS 22
theorem sc_is_of : FnScope ["_law_e", "_law_home", "_law_kinds_here", "_law_due", "_law_k"] ["_law_e", "_law_home", "_law_kinds_here"] (defScope s_is_of) := ⟨rfl, rfl, rfl, by decide +kernel, rfl, by decide +kernel, by decide +kernel⟩
abbrev s_plain_right : Stmt := topS 23
theorem sc_plain_right : FnScope ["_law_reason", "_law_some", "_law_others", "_law_bare", "_law_home", "_law_e"] ["_law_reason"] (defScope s_plain_right) := ⟨rfl, rfl, rfl, by decide +kernel, rfl, by decide +kernel, by decide +kernel⟩
abbrev s_fields_right : Stmt := topS 24
theorem sc_fields_right : FnScope ["_law_spot", "_law_reason", "_law_label", "_law_home", "_law_some", "_law_e"] ["_law_spot", "_law_reason", "_law_label", "_law_home"] (defScope s_fields_right) := ⟨rfl, rfl, rfl, by decide +kernel, rfl, by decide +kernel, by decide +kernel⟩
abbrev s_law : Stmt := topS 25
theorem sc_law : FnScope ["_law_script", "_law_cell", "_law_draws_here", "_law_spot", "_law_letters", "_law_reason", "_law_label", "_law_home"] ["_law_script"] (defScope s_law) := ⟨rfl, rfl, rfl, by decide +kernel, rfl, by decide +kernel, by decide +kernel⟩
structure Tx (K : PySem.W.Frag) (mg : Str → Option Value) : Type where
  A_PearlError_init : Addr
  fd_PearlError_init : FuncData
  F_PearlError_init : FunD K "__init__" "PearlError.__init__" (defArgs s_PearlError_init) (defBody s_PearlError_init) (defScope s_PearlError_init) [.str ""] [] A_PearlError_init fd_PearlError_init
  b_PearlError_init : Binds K fd_PearlError_init ["self", "why"] []
  A_NotLet_init : Addr
  fd_NotLet_init : FuncData
  F_NotLet_init : Fun K "__init__" "NotLet.__init__" s_NotLet_init A_NotLet_init fd_NotLet_init
  b_NotLet_init : Binds K fd_NotLet_init ["self", "at", "why"] []
  A_TooLate_init : Addr
  fd_TooLate_init : FuncData
  F_TooLate_init : Fun K "__init__" "TooLate.__init__" s_TooLate_init A_TooLate_init fd_TooLate_init
  b_TooLate_init : Binds K fd_TooLate_init ["self", "at"] []
  A_BadText_init : Addr
  fd_BadText_init : FuncData
  F_BadText_init : Fun K "__init__" "BadText.__init__" s_BadText_init A_BadText_init fd_BadText_init
  b_BadText_init : Binds K fd_BadText_init ["self", "line"] []
  A_NoSuch_init : Addr
  fd_NoSuch_init : FuncData
  F_NoSuch_init : Fun K "__init__" "NoSuch.__init__" s_NoSuch_init A_NoSuch_init fd_NoSuch_init
  b_NoSuch_init : Binds K fd_NoSuch_init ["self", "kind", "name"] []
  A_NoPlace_init : Addr
  fd_NoPlace_init : FuncData
  F_NoPlace_init : Fun K "__init__" "NoPlace.__init__" s_NoPlace_init A_NoPlace_init fd_NoPlace_init
  b_NoPlace_init : Binds K fd_NoPlace_init ["self", "at"] []
  A_Elsewhere_init : Addr
  fd_Elsewhere_init : FuncData
  F_Elsewhere_init : Fun K "__init__" "Elsewhere.__init__" s_Elsewhere_init A_Elsewhere_init fd_Elsewhere_init
  b_Elsewhere_init : Binds K fd_Elsewhere_init ["self", "number", "place"] []
  A_Known_init : Addr
  fd_Known_init : FuncData
  F_Known_init : Fun K "__init__" "Known.__init__" s_Known_init A_Known_init fd_Known_init
  b_Known_init : Binds K fd_Known_init ["self", "kind", "name"] []
  A_NoShare_init : Addr
  fd_NoShare_init : FuncData
  F_NoShare_init : Fun K "__init__" "NoShare.__init__" s_NoShare_init A_NoShare_init fd_NoShare_init
  b_NoShare_init : Binds K fd_NoShare_init ["self", "num"] []
  A_cell_at : Addr
  fd_cell_at : FuncData
  F_cell_at : Fun K "_law_cell_at" "_law_cell_at" s_cell_at A_cell_at fd_cell_at
  g_cell_at : mg "_law_cell_at" = some (.ref A_cell_at)
  b_cell_at : Binds K fd_cell_at ["_law_script", "_law_k"] []
  A_draws : Addr
  fd_draws : FuncData
  F_draws : Fun K "_law_draws" "_law_draws" s_draws A_draws fd_draws
  g_draws : mg "_law_draws" = some (.ref A_draws)
  b_draws : Binds K fd_draws ["_law_cell"] []
  A_one : Addr
  fd_one : FuncData
  F_one : Fun K "_law_one" "_law_one" s_one A_one fd_one
  g_one : mg "_law_one" = some (.ref A_one)
  b_one : Binds K fd_one ["_law_draws_here", "_law_many"] []
  A_of : Addr
  fd_of : FuncData
  F_of : Fun K "_law_of" "_law_of" s_of A_of fd_of
  g_of : mg "_law_of" = some (.ref A_of)
  b_of : Binds K fd_of ["_law_draws_here", "_law_some"] []
  A_marks : Addr
  fd_marks : FuncData
  F_marks : Fun K "_law_marks" "_law_marks" s_marks A_marks fd_marks
  g_marks : mg "_law_marks" = some (.ref A_marks)
  b_marks : Binds K fd_marks ["_law_e"] []
  A_kinds : Addr
  fd_kinds : FuncData
  F_kinds : Fun K "_law_kinds" "_law_kinds" s_kinds A_kinds fd_kinds
  g_kinds : mg "_law_kinds" = some (.ref A_kinds)
  b_kinds : Binds K fd_kinds ["_law_e"] []
  A_is_of : Addr
  fd_is_of : FuncData
  F_is_of : Fun K "_law_is_of" "_law_is_of" s_is_of A_is_of fd_is_of
  g_is_of : mg "_law_is_of" = some (.ref A_is_of)
  b_is_of : Binds K fd_is_of ["_law_e", "_law_home", "_law_kinds_here"] []
  A_plain_right : Addr
  fd_plain_right : FuncData
  F_plain_right : Fun K "_law_plain_right" "_law_plain_right" s_plain_right A_plain_right fd_plain_right
  g_plain_right : mg "_law_plain_right" = some (.ref A_plain_right)
  b_plain_right : Binds K fd_plain_right ["_law_reason"] []
  A_fields_right : Addr
  fd_fields_right : FuncData
  F_fields_right : Fun K "_law_fields_right" "_law_fields_right" s_fields_right A_fields_right fd_fields_right
  g_fields_right : mg "_law_fields_right" = some (.ref A_fields_right)
  b_fields_right : Binds K fd_fields_right ["_law_spot", "_law_reason", "_law_label", "_law_home"] []
  C_PearlError : Addr
  g_PearlError : mg "PearlError" = some (.ref C_PearlError)
  C_BadBead : Addr
  g_BadBead : mg "BadBead" = some (.ref C_BadBead)
  C_BadRule : Addr
  g_BadRule : mg "BadRule" = some (.ref C_BadRule)
  C_BadLot : Addr
  g_BadLot : mg "BadLot" = some (.ref C_BadLot)
  C_BadDeed : Addr
  g_BadDeed : mg "BadDeed" = some (.ref C_BadDeed)
  C_NoRow : Addr
  g_NoRow : mg "NoRow" = some (.ref C_NoRow)
  C_NotLet : Addr
  g_NotLet : mg "NotLet" = some (.ref C_NotLet)
  C_TooLate : Addr
  g_TooLate : mg "TooLate" = some (.ref C_TooLate)
  C_BadText : Addr
  g_BadText : mg "BadText" = some (.ref C_BadText)
  C_NoSuch : Addr
  g_NoSuch : mg "NoSuch" = some (.ref C_NoSuch)
  C_NoPlace : Addr
  g_NoPlace : mg "NoPlace" = some (.ref C_NoPlace)
  C_Elsewhere : Addr
  g_Elsewhere : mg "Elsewhere" = some (.ref C_Elsewhere)
  C_Known : Addr
  g_Known : mg "Known" = some (.ref C_Known)
  C_NoShare : Addr
  g_NoShare : mg "NoShare" = some (.ref C_NoShare)
  ox_PearlError : OexB "ValueError.__new__" veT K C_PearlError
  in_PearlError : PySem.W.findIn K (.ref C_PearlError) "__init__" = some (some (.ref A_PearlError_init))
  ti_PearlError : PySem.W.typeIn K (.ref A_PearlError_init) = some (.type "function")
  xc_PearlError : ExcC K C_PearlError
  nf_PearlError_why : PySem.W.findIn K (.ref C_PearlError) "why" = some none
  ox_BadBead : OexB "ValueError.__new__" veT K C_BadBead
  in_BadBead : PySem.W.findIn K (.ref C_BadBead) "__init__" = some (some (.ref A_PearlError_init))
  ti_BadBead : PySem.W.typeIn K (.ref A_PearlError_init) = some (.type "function")
  xc_BadBead : ExcC K C_BadBead
  nf_BadBead_why : PySem.W.findIn K (.ref C_BadBead) "why" = some none
  ox_BadRule : OexB "ValueError.__new__" veT K C_BadRule
  in_BadRule : PySem.W.findIn K (.ref C_BadRule) "__init__" = some (some (.ref A_PearlError_init))
  ti_BadRule : PySem.W.typeIn K (.ref A_PearlError_init) = some (.type "function")
  xc_BadRule : ExcC K C_BadRule
  nf_BadRule_why : PySem.W.findIn K (.ref C_BadRule) "why" = some none
  ox_BadLot : OexB "ValueError.__new__" veT K C_BadLot
  in_BadLot : PySem.W.findIn K (.ref C_BadLot) "__init__" = some (some (.ref A_PearlError_init))
  ti_BadLot : PySem.W.typeIn K (.ref A_PearlError_init) = some (.type "function")
  xc_BadLot : ExcC K C_BadLot
  nf_BadLot_why : PySem.W.findIn K (.ref C_BadLot) "why" = some none
  ox_BadDeed : OexB "ValueError.__new__" veT K C_BadDeed
  in_BadDeed : PySem.W.findIn K (.ref C_BadDeed) "__init__" = some (some (.ref A_PearlError_init))
  ti_BadDeed : PySem.W.typeIn K (.ref A_PearlError_init) = some (.type "function")
  xc_BadDeed : ExcC K C_BadDeed
  nf_BadDeed_why : PySem.W.findIn K (.ref C_BadDeed) "why" = some none
  ox_NoRow : OexB "ValueError.__new__" veT K C_NoRow
  in_NoRow : PySem.W.findIn K (.ref C_NoRow) "__init__" = some (some (.ref A_PearlError_init))
  ti_NoRow : PySem.W.typeIn K (.ref A_PearlError_init) = some (.type "function")
  xc_NoRow : ExcC K C_NoRow
  nf_NoRow_why : PySem.W.findIn K (.ref C_NoRow) "why" = some none
  ox_NotLet : OexB "ValueError.__new__" veT K C_NotLet
  in_NotLet : PySem.W.findIn K (.ref C_NotLet) "__init__" = some (some (.ref A_NotLet_init))
  ti_NotLet : PySem.W.typeIn K (.ref A_NotLet_init) = some (.type "function")
  xc_NotLet : ExcC K C_NotLet
  nf_NotLet_why : PySem.W.findIn K (.ref C_NotLet) "why" = some none
  nf_NotLet_at : PySem.W.findIn K (.ref C_NotLet) "at" = some none
  ox_TooLate : OexB "ValueError.__new__" veT K C_TooLate
  in_TooLate : PySem.W.findIn K (.ref C_TooLate) "__init__" = some (some (.ref A_TooLate_init))
  ti_TooLate : PySem.W.typeIn K (.ref A_TooLate_init) = some (.type "function")
  xc_TooLate : ExcC K C_TooLate
  nf_TooLate_why : PySem.W.findIn K (.ref C_TooLate) "why" = some none
  nf_TooLate_at : PySem.W.findIn K (.ref C_TooLate) "at" = some none
  ox_BadText : OexB "ValueError.__new__" veT K C_BadText
  in_BadText : PySem.W.findIn K (.ref C_BadText) "__init__" = some (some (.ref A_BadText_init))
  ti_BadText : PySem.W.typeIn K (.ref A_BadText_init) = some (.type "function")
  xc_BadText : ExcC K C_BadText
  nf_BadText_why : PySem.W.findIn K (.ref C_BadText) "why" = some none
  nf_BadText_line : PySem.W.findIn K (.ref C_BadText) "line" = some none
  ox_NoSuch : OexB "LookupError.__new__" luT K C_NoSuch
  in_NoSuch : PySem.W.findIn K (.ref C_NoSuch) "__init__" = some (some (.ref A_NoSuch_init))
  ti_NoSuch : PySem.W.typeIn K (.ref A_NoSuch_init) = some (.type "function")
  xc_NoSuch : ExcC K C_NoSuch
  nf_NoSuch_kind : PySem.W.findIn K (.ref C_NoSuch) "kind" = some none
  nf_NoSuch_name : PySem.W.findIn K (.ref C_NoSuch) "name" = some none
  ox_NoPlace : OexB "IndexError.__new__" ixT K C_NoPlace
  in_NoPlace : PySem.W.findIn K (.ref C_NoPlace) "__init__" = some (some (.ref A_NoPlace_init))
  ti_NoPlace : PySem.W.typeIn K (.ref A_NoPlace_init) = some (.type "function")
  xc_NoPlace : ExcC K C_NoPlace
  nf_NoPlace_at : PySem.W.findIn K (.ref C_NoPlace) "at" = some none
  ox_Elsewhere : OexB "LookupError.__new__" keT K C_Elsewhere
  in_Elsewhere : PySem.W.findIn K (.ref C_Elsewhere) "__init__" = some (some (.ref A_Elsewhere_init))
  ti_Elsewhere : PySem.W.typeIn K (.ref A_Elsewhere_init) = some (.type "function")
  xc_Elsewhere : ExcC K C_Elsewhere
  nf_Elsewhere_number : PySem.W.findIn K (.ref C_Elsewhere) "number" = some none
  nf_Elsewhere_place : PySem.W.findIn K (.ref C_Elsewhere) "place" = some none
  ox_Known : OexB "LookupError.__new__" keT K C_Known
  in_Known : PySem.W.findIn K (.ref C_Known) "__init__" = some (some (.ref A_Known_init))
  ti_Known : PySem.W.typeIn K (.ref A_Known_init) = some (.type "function")
  xc_Known : ExcC K C_Known
  nf_Known_kind : PySem.W.findIn K (.ref C_Known) "kind" = some none
  nf_Known_name : PySem.W.findIn K (.ref C_Known) "name" = some none
  ox_NoShare : OexB "ZeroDivisionError.__new__" zdT K C_NoShare
  in_NoShare : PySem.W.findIn K (.ref C_NoShare) "__init__" = some (some (.ref A_NoShare_init))
  ti_NoShare : PySem.W.typeIn K (.ref A_NoShare_init) = some (.type "function")
  xc_NoShare : ExcC K C_NoShare
  nf_NoShare_num : PySem.W.findIn K (.ref C_NoShare) "num" = some none
  vV_IndexError : PySem.W.findCls K (.type "IndexError") (.type "type") "__init__" = some (.val (.builtin "IndexError.__init__"))
  vV_KeyError : PySem.W.findCls K (.type "KeyError") (.type "type") "__init__" = some (.val (.builtin "KeyError.__init__"))
  vV_LookupError : PySem.W.findCls K (.type "LookupError") (.type "type") "__init__" = some (.val (.builtin "LookupError.__init__"))
  vV_ValueError : PySem.W.findCls K (.type "ValueError") (.type "type") "__init__" = some (.val (.builtin "ValueError.__init__"))
  vV_ZeroDivisionError : PySem.W.findCls K (.type "ZeroDivisionError") (.type "type") "__init__" = some (.val (.builtin "ZeroDivisionError.__init__"))
  vV : PySem.W.findCls K (.type "ValueError") (.type "type") "__init__" = some (.val (.builtin "ValueError.__init__"))
  kb_n : KBn K fd_NotLet_init ["self", "at", "why"] 1 ["why", "at"] (fun us ws => kw [(0, 0), (2, 1), (2, 0)] us [] ws) (fun vs zs => kw [(0, 0), (2, 1), (2, 0)] vs [] zs)
  kb_t : KBn K fd_TooLate_init ["self", "at"] 1 ["at"] (fun us ws => kw [(0, 0), (2, 0)] us [] ws) (fun vs zs => kw [(0, 0), (2, 0)] vs [] zs)
  kb_b : KBn K fd_BadText_init ["self", "line"] 1 ["line"] (fun us ws => kw [(0, 0), (2, 0)] us [] ws) (fun vs zs => kw [(0, 0), (2, 0)] vs [] zs)
  kb_s : KBn K fd_NoSuch_init ["self", "kind", "name"] 1 ["name", "kind"] (fun us ws => kw [(0, 0), (2, 1), (2, 0)] us [] ws) (fun vs zs => kw [(0, 0), (2, 1), (2, 0)] vs [] zs)
  kb_l : KBn K fd_NoPlace_init ["self", "at"] 1 ["at"] (fun us ws => kw [(0, 0), (2, 0)] us [] ws) (fun vs zs => kw [(0, 0), (2, 0)] vs [] zs)
  kb_e : KBn K fd_Elsewhere_init ["self", "number", "place"] 1 ["place", "number"] (fun us ws => kw [(0, 0), (2, 1), (2, 0)] us [] ws) (fun vs zs => kw [(0, 0), (2, 1), (2, 0)] vs [] zs)
  kb_k : KBn K fd_Known_init ["self", "kind", "name"] 1 ["name", "kind"] (fun us ws => kw [(0, 0), (2, 1), (2, 0)] us [] ws) (fun vs zs => kw [(0, 0), (2, 1), (2, 0)] vs [] zs)
  kb_h : KBn K fd_NoShare_init ["self", "num"] 1 ["num"] (fun us ws => kw [(0, 0), (2, 0)] us [] ws) (fun vs zs => kw [(0, 0), (2, 0)] vs [] zs)
  its_kb_p : List Value
  kb_p : KBn K fd_PearlError_init ["self", "why"] 1 ["why"] (fun us ws => kw [(0, 0), (2, 0)] us its_kb_p ws) (fun vs zs => kw [(0, 0), (2, 0)] vs [.str ""] zs)
  ds0_PearlError_init : List Value
  hd0_PearlError_init : Vals [.str ""] ds0_PearlError_init
  bd0_PearlError_init : Binds K fd_PearlError_init ["self", "why"] ds0_PearlError_init
  cf_PearlError : ClsFn K C_PearlError "__init__" A_PearlError_init
  ki_PearlError : PySem.W.kitOne K (.ref C_PearlError) (.ref C_PearlError) = some true ∧ PySem.W.kitOne K (.ref C_PearlError) (.ref C_BadBead) = some false ∧ PySem.W.kitOne K (.ref C_PearlError) (.ref C_BadRule) = some false ∧ PySem.W.kitOne K (.ref C_PearlError) (.ref C_BadLot) = some false ∧ PySem.W.kitOne K (.ref C_PearlError) (.ref C_BadDeed) = some false ∧ PySem.W.kitOne K (.ref C_PearlError) (.ref C_NoRow) = some false ∧ PySem.W.kitOne K (.ref C_PearlError) (.ref C_NotLet) = some false ∧ PySem.W.kitOne K (.ref C_PearlError) (.ref C_TooLate) = some false ∧ PySem.W.kitOne K (.ref C_PearlError) (.ref C_BadText) = some false ∧ PySem.W.kitOne K (.ref C_PearlError) (.ref C_NoSuch) = some false ∧ PySem.W.kitOne K (.ref C_PearlError) (.ref C_NoPlace) = some false ∧ PySem.W.kitOne K (.ref C_PearlError) (.ref C_Elsewhere) = some false ∧ PySem.W.kitOne K (.ref C_PearlError) (.ref C_Known) = some false ∧ PySem.W.kitOne K (.ref C_PearlError) (.ref C_NoShare) = some false ∧ PySem.W.kitOne K (.ref C_PearlError) (.type "ValueError") = some true ∧ PySem.W.kitOne K (.ref C_PearlError) (.type "LookupError") = some false ∧ PySem.W.kitOne K (.ref C_PearlError) (.type "IndexError") = some false ∧ PySem.W.kitOne K (.ref C_PearlError) (.type "KeyError") = some false ∧ PySem.W.kitOne K (.ref C_PearlError) (.type "ZeroDivisionError") = some false
  ki_BadBead : PySem.W.kitOne K (.ref C_BadBead) (.ref C_PearlError) = some true ∧ PySem.W.kitOne K (.ref C_BadBead) (.ref C_BadBead) = some true ∧ PySem.W.kitOne K (.ref C_BadBead) (.ref C_BadRule) = some false ∧ PySem.W.kitOne K (.ref C_BadBead) (.ref C_BadLot) = some false ∧ PySem.W.kitOne K (.ref C_BadBead) (.ref C_BadDeed) = some false ∧ PySem.W.kitOne K (.ref C_BadBead) (.ref C_NoRow) = some false ∧ PySem.W.kitOne K (.ref C_BadBead) (.ref C_NotLet) = some false ∧ PySem.W.kitOne K (.ref C_BadBead) (.ref C_TooLate) = some false ∧ PySem.W.kitOne K (.ref C_BadBead) (.ref C_BadText) = some false ∧ PySem.W.kitOne K (.ref C_BadBead) (.ref C_NoSuch) = some false ∧ PySem.W.kitOne K (.ref C_BadBead) (.ref C_NoPlace) = some false ∧ PySem.W.kitOne K (.ref C_BadBead) (.ref C_Elsewhere) = some false ∧ PySem.W.kitOne K (.ref C_BadBead) (.ref C_Known) = some false ∧ PySem.W.kitOne K (.ref C_BadBead) (.ref C_NoShare) = some false ∧ PySem.W.kitOne K (.ref C_BadBead) (.type "ValueError") = some true ∧ PySem.W.kitOne K (.ref C_BadBead) (.type "LookupError") = some false ∧ PySem.W.kitOne K (.ref C_BadBead) (.type "IndexError") = some false ∧ PySem.W.kitOne K (.ref C_BadBead) (.type "KeyError") = some false ∧ PySem.W.kitOne K (.ref C_BadBead) (.type "ZeroDivisionError") = some false
  ki_BadRule : PySem.W.kitOne K (.ref C_BadRule) (.ref C_PearlError) = some true ∧ PySem.W.kitOne K (.ref C_BadRule) (.ref C_BadBead) = some false ∧ PySem.W.kitOne K (.ref C_BadRule) (.ref C_BadRule) = some true ∧ PySem.W.kitOne K (.ref C_BadRule) (.ref C_BadLot) = some false ∧ PySem.W.kitOne K (.ref C_BadRule) (.ref C_BadDeed) = some false ∧ PySem.W.kitOne K (.ref C_BadRule) (.ref C_NoRow) = some false ∧ PySem.W.kitOne K (.ref C_BadRule) (.ref C_NotLet) = some false ∧ PySem.W.kitOne K (.ref C_BadRule) (.ref C_TooLate) = some false ∧ PySem.W.kitOne K (.ref C_BadRule) (.ref C_BadText) = some false ∧ PySem.W.kitOne K (.ref C_BadRule) (.ref C_NoSuch) = some false ∧ PySem.W.kitOne K (.ref C_BadRule) (.ref C_NoPlace) = some false ∧ PySem.W.kitOne K (.ref C_BadRule) (.ref C_Elsewhere) = some false ∧ PySem.W.kitOne K (.ref C_BadRule) (.ref C_Known) = some false ∧ PySem.W.kitOne K (.ref C_BadRule) (.ref C_NoShare) = some false ∧ PySem.W.kitOne K (.ref C_BadRule) (.type "ValueError") = some true ∧ PySem.W.kitOne K (.ref C_BadRule) (.type "LookupError") = some false ∧ PySem.W.kitOne K (.ref C_BadRule) (.type "IndexError") = some false ∧ PySem.W.kitOne K (.ref C_BadRule) (.type "KeyError") = some false ∧ PySem.W.kitOne K (.ref C_BadRule) (.type "ZeroDivisionError") = some false
  ki_BadLot : PySem.W.kitOne K (.ref C_BadLot) (.ref C_PearlError) = some true ∧ PySem.W.kitOne K (.ref C_BadLot) (.ref C_BadBead) = some false ∧ PySem.W.kitOne K (.ref C_BadLot) (.ref C_BadRule) = some false ∧ PySem.W.kitOne K (.ref C_BadLot) (.ref C_BadLot) = some true ∧ PySem.W.kitOne K (.ref C_BadLot) (.ref C_BadDeed) = some false ∧ PySem.W.kitOne K (.ref C_BadLot) (.ref C_NoRow) = some false ∧ PySem.W.kitOne K (.ref C_BadLot) (.ref C_NotLet) = some false ∧ PySem.W.kitOne K (.ref C_BadLot) (.ref C_TooLate) = some false ∧ PySem.W.kitOne K (.ref C_BadLot) (.ref C_BadText) = some false ∧ PySem.W.kitOne K (.ref C_BadLot) (.ref C_NoSuch) = some false ∧ PySem.W.kitOne K (.ref C_BadLot) (.ref C_NoPlace) = some false ∧ PySem.W.kitOne K (.ref C_BadLot) (.ref C_Elsewhere) = some false ∧ PySem.W.kitOne K (.ref C_BadLot) (.ref C_Known) = some false ∧ PySem.W.kitOne K (.ref C_BadLot) (.ref C_NoShare) = some false ∧ PySem.W.kitOne K (.ref C_BadLot) (.type "ValueError") = some true ∧ PySem.W.kitOne K (.ref C_BadLot) (.type "LookupError") = some false ∧ PySem.W.kitOne K (.ref C_BadLot) (.type "IndexError") = some false ∧ PySem.W.kitOne K (.ref C_BadLot) (.type "KeyError") = some false ∧ PySem.W.kitOne K (.ref C_BadLot) (.type "ZeroDivisionError") = some false
  ki_BadDeed : PySem.W.kitOne K (.ref C_BadDeed) (.ref C_PearlError) = some true ∧ PySem.W.kitOne K (.ref C_BadDeed) (.ref C_BadBead) = some false ∧ PySem.W.kitOne K (.ref C_BadDeed) (.ref C_BadRule) = some false ∧ PySem.W.kitOne K (.ref C_BadDeed) (.ref C_BadLot) = some false ∧ PySem.W.kitOne K (.ref C_BadDeed) (.ref C_BadDeed) = some true ∧ PySem.W.kitOne K (.ref C_BadDeed) (.ref C_NoRow) = some false ∧ PySem.W.kitOne K (.ref C_BadDeed) (.ref C_NotLet) = some false ∧ PySem.W.kitOne K (.ref C_BadDeed) (.ref C_TooLate) = some false ∧ PySem.W.kitOne K (.ref C_BadDeed) (.ref C_BadText) = some false ∧ PySem.W.kitOne K (.ref C_BadDeed) (.ref C_NoSuch) = some false ∧ PySem.W.kitOne K (.ref C_BadDeed) (.ref C_NoPlace) = some false ∧ PySem.W.kitOne K (.ref C_BadDeed) (.ref C_Elsewhere) = some false ∧ PySem.W.kitOne K (.ref C_BadDeed) (.ref C_Known) = some false ∧ PySem.W.kitOne K (.ref C_BadDeed) (.ref C_NoShare) = some false ∧ PySem.W.kitOne K (.ref C_BadDeed) (.type "ValueError") = some true ∧ PySem.W.kitOne K (.ref C_BadDeed) (.type "LookupError") = some false ∧ PySem.W.kitOne K (.ref C_BadDeed) (.type "IndexError") = some false ∧ PySem.W.kitOne K (.ref C_BadDeed) (.type "KeyError") = some false ∧ PySem.W.kitOne K (.ref C_BadDeed) (.type "ZeroDivisionError") = some false
  ki_NoRow : PySem.W.kitOne K (.ref C_NoRow) (.ref C_PearlError) = some true ∧ PySem.W.kitOne K (.ref C_NoRow) (.ref C_BadBead) = some false ∧ PySem.W.kitOne K (.ref C_NoRow) (.ref C_BadRule) = some false ∧ PySem.W.kitOne K (.ref C_NoRow) (.ref C_BadLot) = some false ∧ PySem.W.kitOne K (.ref C_NoRow) (.ref C_BadDeed) = some false ∧ PySem.W.kitOne K (.ref C_NoRow) (.ref C_NoRow) = some true ∧ PySem.W.kitOne K (.ref C_NoRow) (.ref C_NotLet) = some false ∧ PySem.W.kitOne K (.ref C_NoRow) (.ref C_TooLate) = some false ∧ PySem.W.kitOne K (.ref C_NoRow) (.ref C_BadText) = some false ∧ PySem.W.kitOne K (.ref C_NoRow) (.ref C_NoSuch) = some false ∧ PySem.W.kitOne K (.ref C_NoRow) (.ref C_NoPlace) = some false ∧ PySem.W.kitOne K (.ref C_NoRow) (.ref C_Elsewhere) = some false ∧ PySem.W.kitOne K (.ref C_NoRow) (.ref C_Known) = some false ∧ PySem.W.kitOne K (.ref C_NoRow) (.ref C_NoShare) = some false ∧ PySem.W.kitOne K (.ref C_NoRow) (.type "ValueError") = some true ∧ PySem.W.kitOne K (.ref C_NoRow) (.type "LookupError") = some false ∧ PySem.W.kitOne K (.ref C_NoRow) (.type "IndexError") = some false ∧ PySem.W.kitOne K (.ref C_NoRow) (.type "KeyError") = some false ∧ PySem.W.kitOne K (.ref C_NoRow) (.type "ZeroDivisionError") = some false
  ki_NotLet : PySem.W.kitOne K (.ref C_NotLet) (.ref C_PearlError) = some true ∧ PySem.W.kitOne K (.ref C_NotLet) (.ref C_BadBead) = some false ∧ PySem.W.kitOne K (.ref C_NotLet) (.ref C_BadRule) = some false ∧ PySem.W.kitOne K (.ref C_NotLet) (.ref C_BadLot) = some false ∧ PySem.W.kitOne K (.ref C_NotLet) (.ref C_BadDeed) = some false ∧ PySem.W.kitOne K (.ref C_NotLet) (.ref C_NoRow) = some false ∧ PySem.W.kitOne K (.ref C_NotLet) (.ref C_NotLet) = some true ∧ PySem.W.kitOne K (.ref C_NotLet) (.ref C_TooLate) = some false ∧ PySem.W.kitOne K (.ref C_NotLet) (.ref C_BadText) = some false ∧ PySem.W.kitOne K (.ref C_NotLet) (.ref C_NoSuch) = some false ∧ PySem.W.kitOne K (.ref C_NotLet) (.ref C_NoPlace) = some false ∧ PySem.W.kitOne K (.ref C_NotLet) (.ref C_Elsewhere) = some false ∧ PySem.W.kitOne K (.ref C_NotLet) (.ref C_Known) = some false ∧ PySem.W.kitOne K (.ref C_NotLet) (.ref C_NoShare) = some false ∧ PySem.W.kitOne K (.ref C_NotLet) (.type "ValueError") = some true ∧ PySem.W.kitOne K (.ref C_NotLet) (.type "LookupError") = some false ∧ PySem.W.kitOne K (.ref C_NotLet) (.type "IndexError") = some false ∧ PySem.W.kitOne K (.ref C_NotLet) (.type "KeyError") = some false ∧ PySem.W.kitOne K (.ref C_NotLet) (.type "ZeroDivisionError") = some false
  ki_TooLate : PySem.W.kitOne K (.ref C_TooLate) (.ref C_PearlError) = some true ∧ PySem.W.kitOne K (.ref C_TooLate) (.ref C_BadBead) = some false ∧ PySem.W.kitOne K (.ref C_TooLate) (.ref C_BadRule) = some false ∧ PySem.W.kitOne K (.ref C_TooLate) (.ref C_BadLot) = some false ∧ PySem.W.kitOne K (.ref C_TooLate) (.ref C_BadDeed) = some false ∧ PySem.W.kitOne K (.ref C_TooLate) (.ref C_NoRow) = some false ∧ PySem.W.kitOne K (.ref C_TooLate) (.ref C_NotLet) = some false ∧ PySem.W.kitOne K (.ref C_TooLate) (.ref C_TooLate) = some true ∧ PySem.W.kitOne K (.ref C_TooLate) (.ref C_BadText) = some false ∧ PySem.W.kitOne K (.ref C_TooLate) (.ref C_NoSuch) = some false ∧ PySem.W.kitOne K (.ref C_TooLate) (.ref C_NoPlace) = some false ∧ PySem.W.kitOne K (.ref C_TooLate) (.ref C_Elsewhere) = some false ∧ PySem.W.kitOne K (.ref C_TooLate) (.ref C_Known) = some false ∧ PySem.W.kitOne K (.ref C_TooLate) (.ref C_NoShare) = some false ∧ PySem.W.kitOne K (.ref C_TooLate) (.type "ValueError") = some true ∧ PySem.W.kitOne K (.ref C_TooLate) (.type "LookupError") = some false ∧ PySem.W.kitOne K (.ref C_TooLate) (.type "IndexError") = some false ∧ PySem.W.kitOne K (.ref C_TooLate) (.type "KeyError") = some false ∧ PySem.W.kitOne K (.ref C_TooLate) (.type "ZeroDivisionError") = some false
  ki_BadText : PySem.W.kitOne K (.ref C_BadText) (.ref C_PearlError) = some true ∧ PySem.W.kitOne K (.ref C_BadText) (.ref C_BadBead) = some false ∧ PySem.W.kitOne K (.ref C_BadText) (.ref C_BadRule) = some false ∧ PySem.W.kitOne K (.ref C_BadText) (.ref C_BadLot) = some false ∧ PySem.W.kitOne K (.ref C_BadText) (.ref C_BadDeed) = some false ∧ PySem.W.kitOne K (.ref C_BadText) (.ref C_NoRow) = some false ∧ PySem.W.kitOne K (.ref C_BadText) (.ref C_NotLet) = some false ∧ PySem.W.kitOne K (.ref C_BadText) (.ref C_TooLate) = some false ∧ PySem.W.kitOne K (.ref C_BadText) (.ref C_BadText) = some true ∧ PySem.W.kitOne K (.ref C_BadText) (.ref C_NoSuch) = some false ∧ PySem.W.kitOne K (.ref C_BadText) (.ref C_NoPlace) = some false ∧ PySem.W.kitOne K (.ref C_BadText) (.ref C_Elsewhere) = some false ∧ PySem.W.kitOne K (.ref C_BadText) (.ref C_Known) = some false ∧ PySem.W.kitOne K (.ref C_BadText) (.ref C_NoShare) = some false ∧ PySem.W.kitOne K (.ref C_BadText) (.type "ValueError") = some true ∧ PySem.W.kitOne K (.ref C_BadText) (.type "LookupError") = some false ∧ PySem.W.kitOne K (.ref C_BadText) (.type "IndexError") = some false ∧ PySem.W.kitOne K (.ref C_BadText) (.type "KeyError") = some false ∧ PySem.W.kitOne K (.ref C_BadText) (.type "ZeroDivisionError") = some false
  ki_NoSuch : PySem.W.kitOne K (.ref C_NoSuch) (.ref C_PearlError) = some false ∧ PySem.W.kitOne K (.ref C_NoSuch) (.ref C_BadBead) = some false ∧ PySem.W.kitOne K (.ref C_NoSuch) (.ref C_BadRule) = some false ∧ PySem.W.kitOne K (.ref C_NoSuch) (.ref C_BadLot) = some false ∧ PySem.W.kitOne K (.ref C_NoSuch) (.ref C_BadDeed) = some false ∧ PySem.W.kitOne K (.ref C_NoSuch) (.ref C_NoRow) = some false ∧ PySem.W.kitOne K (.ref C_NoSuch) (.ref C_NotLet) = some false ∧ PySem.W.kitOne K (.ref C_NoSuch) (.ref C_TooLate) = some false ∧ PySem.W.kitOne K (.ref C_NoSuch) (.ref C_BadText) = some false ∧ PySem.W.kitOne K (.ref C_NoSuch) (.ref C_NoSuch) = some true ∧ PySem.W.kitOne K (.ref C_NoSuch) (.ref C_NoPlace) = some false ∧ PySem.W.kitOne K (.ref C_NoSuch) (.ref C_Elsewhere) = some false ∧ PySem.W.kitOne K (.ref C_NoSuch) (.ref C_Known) = some false ∧ PySem.W.kitOne K (.ref C_NoSuch) (.ref C_NoShare) = some false ∧ PySem.W.kitOne K (.ref C_NoSuch) (.type "ValueError") = some false ∧ PySem.W.kitOne K (.ref C_NoSuch) (.type "LookupError") = some true ∧ PySem.W.kitOne K (.ref C_NoSuch) (.type "IndexError") = some false ∧ PySem.W.kitOne K (.ref C_NoSuch) (.type "KeyError") = some false ∧ PySem.W.kitOne K (.ref C_NoSuch) (.type "ZeroDivisionError") = some false
  ki_NoPlace : PySem.W.kitOne K (.ref C_NoPlace) (.ref C_PearlError) = some false ∧ PySem.W.kitOne K (.ref C_NoPlace) (.ref C_BadBead) = some false ∧ PySem.W.kitOne K (.ref C_NoPlace) (.ref C_BadRule) = some false ∧ PySem.W.kitOne K (.ref C_NoPlace) (.ref C_BadLot) = some false ∧ PySem.W.kitOne K (.ref C_NoPlace) (.ref C_BadDeed) = some false ∧ PySem.W.kitOne K (.ref C_NoPlace) (.ref C_NoRow) = some false ∧ PySem.W.kitOne K (.ref C_NoPlace) (.ref C_NotLet) = some false ∧ PySem.W.kitOne K (.ref C_NoPlace) (.ref C_TooLate) = some false ∧ PySem.W.kitOne K (.ref C_NoPlace) (.ref C_BadText) = some false ∧ PySem.W.kitOne K (.ref C_NoPlace) (.ref C_NoSuch) = some false ∧ PySem.W.kitOne K (.ref C_NoPlace) (.ref C_NoPlace) = some true ∧ PySem.W.kitOne K (.ref C_NoPlace) (.ref C_Elsewhere) = some false ∧ PySem.W.kitOne K (.ref C_NoPlace) (.ref C_Known) = some false ∧ PySem.W.kitOne K (.ref C_NoPlace) (.ref C_NoShare) = some false ∧ PySem.W.kitOne K (.ref C_NoPlace) (.type "ValueError") = some false ∧ PySem.W.kitOne K (.ref C_NoPlace) (.type "LookupError") = some true ∧ PySem.W.kitOne K (.ref C_NoPlace) (.type "IndexError") = some true ∧ PySem.W.kitOne K (.ref C_NoPlace) (.type "KeyError") = some false ∧ PySem.W.kitOne K (.ref C_NoPlace) (.type "ZeroDivisionError") = some false
  ki_Elsewhere : PySem.W.kitOne K (.ref C_Elsewhere) (.ref C_PearlError) = some false ∧ PySem.W.kitOne K (.ref C_Elsewhere) (.ref C_BadBead) = some false ∧ PySem.W.kitOne K (.ref C_Elsewhere) (.ref C_BadRule) = some false ∧ PySem.W.kitOne K (.ref C_Elsewhere) (.ref C_BadLot) = some false ∧ PySem.W.kitOne K (.ref C_Elsewhere) (.ref C_BadDeed) = some false ∧ PySem.W.kitOne K (.ref C_Elsewhere) (.ref C_NoRow) = some false ∧ PySem.W.kitOne K (.ref C_Elsewhere) (.ref C_NotLet) = some false ∧ PySem.W.kitOne K (.ref C_Elsewhere) (.ref C_TooLate) = some false ∧ PySem.W.kitOne K (.ref C_Elsewhere) (.ref C_BadText) = some false ∧ PySem.W.kitOne K (.ref C_Elsewhere) (.ref C_NoSuch) = some false ∧ PySem.W.kitOne K (.ref C_Elsewhere) (.ref C_NoPlace) = some false ∧ PySem.W.kitOne K (.ref C_Elsewhere) (.ref C_Elsewhere) = some true ∧ PySem.W.kitOne K (.ref C_Elsewhere) (.ref C_Known) = some false ∧ PySem.W.kitOne K (.ref C_Elsewhere) (.ref C_NoShare) = some false ∧ PySem.W.kitOne K (.ref C_Elsewhere) (.type "ValueError") = some false ∧ PySem.W.kitOne K (.ref C_Elsewhere) (.type "LookupError") = some true ∧ PySem.W.kitOne K (.ref C_Elsewhere) (.type "IndexError") = some false ∧ PySem.W.kitOne K (.ref C_Elsewhere) (.type "KeyError") = some true ∧ PySem.W.kitOne K (.ref C_Elsewhere) (.type "ZeroDivisionError") = some false
  ki_Known : PySem.W.kitOne K (.ref C_Known) (.ref C_PearlError) = some false ∧ PySem.W.kitOne K (.ref C_Known) (.ref C_BadBead) = some false ∧ PySem.W.kitOne K (.ref C_Known) (.ref C_BadRule) = some false ∧ PySem.W.kitOne K (.ref C_Known) (.ref C_BadLot) = some false ∧ PySem.W.kitOne K (.ref C_Known) (.ref C_BadDeed) = some false ∧ PySem.W.kitOne K (.ref C_Known) (.ref C_NoRow) = some false ∧ PySem.W.kitOne K (.ref C_Known) (.ref C_NotLet) = some false ∧ PySem.W.kitOne K (.ref C_Known) (.ref C_TooLate) = some false ∧ PySem.W.kitOne K (.ref C_Known) (.ref C_BadText) = some false ∧ PySem.W.kitOne K (.ref C_Known) (.ref C_NoSuch) = some false ∧ PySem.W.kitOne K (.ref C_Known) (.ref C_NoPlace) = some false ∧ PySem.W.kitOne K (.ref C_Known) (.ref C_Elsewhere) = some false ∧ PySem.W.kitOne K (.ref C_Known) (.ref C_Known) = some true ∧ PySem.W.kitOne K (.ref C_Known) (.ref C_NoShare) = some false ∧ PySem.W.kitOne K (.ref C_Known) (.type "ValueError") = some false ∧ PySem.W.kitOne K (.ref C_Known) (.type "LookupError") = some true ∧ PySem.W.kitOne K (.ref C_Known) (.type "IndexError") = some false ∧ PySem.W.kitOne K (.ref C_Known) (.type "KeyError") = some true ∧ PySem.W.kitOne K (.ref C_Known) (.type "ZeroDivisionError") = some false
  ki_NoShare : PySem.W.kitOne K (.ref C_NoShare) (.ref C_PearlError) = some false ∧ PySem.W.kitOne K (.ref C_NoShare) (.ref C_BadBead) = some false ∧ PySem.W.kitOne K (.ref C_NoShare) (.ref C_BadRule) = some false ∧ PySem.W.kitOne K (.ref C_NoShare) (.ref C_BadLot) = some false ∧ PySem.W.kitOne K (.ref C_NoShare) (.ref C_BadDeed) = some false ∧ PySem.W.kitOne K (.ref C_NoShare) (.ref C_NoRow) = some false ∧ PySem.W.kitOne K (.ref C_NoShare) (.ref C_NotLet) = some false ∧ PySem.W.kitOne K (.ref C_NoShare) (.ref C_TooLate) = some false ∧ PySem.W.kitOne K (.ref C_NoShare) (.ref C_BadText) = some false ∧ PySem.W.kitOne K (.ref C_NoShare) (.ref C_NoSuch) = some false ∧ PySem.W.kitOne K (.ref C_NoShare) (.ref C_NoPlace) = some false ∧ PySem.W.kitOne K (.ref C_NoShare) (.ref C_Elsewhere) = some false ∧ PySem.W.kitOne K (.ref C_NoShare) (.ref C_Known) = some false ∧ PySem.W.kitOne K (.ref C_NoShare) (.ref C_NoShare) = some true ∧ PySem.W.kitOne K (.ref C_NoShare) (.type "ValueError") = some false ∧ PySem.W.kitOne K (.ref C_NoShare) (.type "LookupError") = some false ∧ PySem.W.kitOne K (.ref C_NoShare) (.type "IndexError") = some false ∧ PySem.W.kitOne K (.ref C_NoShare) (.type "KeyError") = some false ∧ PySem.W.kitOne K (.ref C_NoShare) (.type "ZeroDivisionError") = some true
  z_ValueError : mg "ValueError" = none
  z_LookupError : mg "LookupError" = none
  z_IndexError : mg "IndexError" = none
  z_KeyError : mg "KeyError" = none
  z_ZeroDivisionError : mg "ZeroDivisionError" = none
  z_len : mg "len" = none
  z_int : mg "int" = none
  z_isinstance : mg "isinstance" = none
  z_range : mg "range" = none
  z_str : mg "str" = none
end KB
namespace KB
open PySem PySem.Spec PyProof.Rows L2 KA
section
variable {P : Program} {w : World} {K : PySem.W.Frag} {mg : Str → Option Value} {base : Heap}
/-- E(v1, v2), its fields f1 and f2 -/
def spErr2 (newId : String) (bmB : List Value) (K : PySem.W.Frag) (f1 f2 : Str) : Sp := fun vs H Q _ => ∃ (a C : Addr) (v1 v2 : V), vs = [.ref a, v1, v2] ∧ OexB newId bmB K C ∧ PySem.W.findIn K (.ref C) f1 = some none ∧ PySem.W.findIn K (.ref C) f2 = some none ∧ H a = some (exo a C none) ∧
  ∀ dx, H dx = none → dx ≠ a → Q .non (upd (upd (upd H dx (exd dx [(f1, v1)])) a (exo a C (some dx))) dx (exd dx [(f2, v2), (f1, v1)]))
/-- the same over PearlError: why is told by the class (w0) -/
def spErrW (K : PySem.W.Frag) (f : Str) (w0 : V) : Sp := fun vs H Q _ => ∃ (a C : Addr) (v : V), vs = [.ref a, v] ∧ OexB "ValueError.__new__" veT K C ∧ PySem.W.findIn K (.ref C) f = some none ∧ PySem.W.findIn K (.ref C) "why" = some none ∧ H a = some (exo a C none) ∧
  ∀ dx, H dx = none → dx ≠ a → Q .non (upd (upd (upd H dx (exd dx [("why", w0)])) a (exo a C (some dx))) dx (exd dx [(f, v), ("why", w0)]))
def spNotL (K : PySem.W.Frag) : Sp := fun vs H Q _ => ∃ (a C : Addr) (v1 v2 : V), vs = [.ref a, v1, v2] ∧ OexB "ValueError.__new__" veT K C ∧ PySem.W.findIn K (.ref C) "at" = some none ∧ PySem.W.findIn K (.ref C) "why" = some none ∧ H a = some (exo a C none) ∧
  ∀ dx, H dx = none → dx ≠ a → Q .non (upd (upd (upd H dx (exd dx [("why", v2)])) a (exo a C (some dx))) dx (exd dx [("at", v1), ("why", v2)]))
theorem ok_PearlError_init (T : Tx K mg) : FnOk P w K mg base CX0 1 T.A_PearlError_init T.fd_PearlError_init ["self", "why"] (spErr "ValueError.__new__" veT K "why") := by
  refine okD T.F_PearlError_init sc_PearlError_init (fun vs H Q E h => ?_) (fun cdv A outer s H vs Q E hr h => ?_)
  · obtain ⟨a, C, v, rfl, T1, hno, ha, q⟩ := h
    rfl
  obtain ⟨a, C, v, rfl, T1, hno, ha, q⟩ := h
  refine ⟨_, (pss_cons (ps_expr (pe_binit PySem.F.excBase_ValueError (by rfl) T.z_ValueError (by decide +kernel) typ_VE (by decide +kernel) (by decide +kernel) T.vV_ValueError (pa_cons (pv 0) (pa_cons (pv 1) pa_nil))))
      (pss_one (ps_ostB (newId := "ValueError.__new__") (bmB := veT) PySem.F.store_ValueError (pv 0) (pv 1)))), ?_⟩
  refine ⟨_, rfl, _, rfl, a, C, [v], rfl, (by show 1 ≤ 1000; decide), T1, ha, ?_⟩
  exact ⟨_, rfl, _, rfl, a, C, rfl, T1, hno, .inl ⟨ha, q⟩⟩
theorem ok_NotLet_init (T : Tx K mg) : FnOk P w K mg base CX0 2 T.A_NotLet_init T.fd_NotLet_init ["self", "at", "why"] (spNotL K) := by
  refine T.F_NotLet_init.ok sc_NotLet_init (fun vs H Q E h => ?_) (fun cdv A outer s H vs Q E hr h => ?_)
  · obtain ⟨a, C, v1, v2, rfl, T1, n1, n2, ha, q⟩ := h
    rfl
  obtain ⟨a, C, v1, v2, rfl, T1, n1, n2, ha, q⟩ := h
  refine ⟨_, (pss_cons (ps_expr (pe_cfn T.cf_PearlError (ok_PearlError_init T) (hr.mono (by decide)) (by rfl) T.g_PearlError T.b_PearlError_init .nil pass0 (pa_cons (pv 0) (pa_cons (pv 2) pa_nil))))
      (pss_one (ps_ostB (newId := "ValueError.__new__") (bmB := veT) PySem.F.store_ValueError (pv 0) (pv 1)))), ?_⟩
  refine ⟨_, rfl, _, rfl, a, C, v2, rfl, T1, n2, ha, fun dx hd hne => ?_⟩
  refine ⟨_, rfl, _, rfl, a, C, rfl, T1, n1, .inr ⟨dx, [("why", v2)], upd_same, ?_, (by show 1 ≤ 900; decide), q dx hd hne⟩⟩
  rw [upd_ne hne]
  exact upd_same
theorem ok_TooLate_init (T : Tx K mg) : FnOk P w K mg base CX0 2 T.A_TooLate_init T.fd_TooLate_init ["self", "at"] (spErrW K "at" (.str "a deed that stands behind it would be refused")) := by
  refine T.F_TooLate_init.ok sc_TooLate_init (fun vs H Q E h => ?_) (fun cdv A outer s H vs Q E hr h => ?_)
  · obtain ⟨a, C, v, rfl, T1, n1, n2, ha, q⟩ := h
    rfl
  obtain ⟨a, C, v, rfl, T1, n1, n2, ha, q⟩ := h
  refine ⟨_, (pss_cons (ps_expr (pe_cfn T.cf_PearlError (ok_PearlError_init T) (hr.mono (by decide)) (by rfl) T.g_PearlError T.b_PearlError_init .nil pass0 (pa_cons (pv 0) (pa_cons pe_str pa_nil))))
      (pss_one (ps_ostB (newId := "ValueError.__new__") (bmB := veT) PySem.F.store_ValueError (pv 0) (pv 1)))), ?_⟩
  refine ⟨_, rfl, a, C, .str "a deed that stands behind it would be refused", rfl, T1, n2, ha, fun dx hd hne => ?_⟩
  refine ⟨_, rfl, _, rfl, a, C, rfl, T1, n1, .inr ⟨dx, [("why", .str "a deed that stands behind it would be refused")], upd_same, ?_, (by show 1 ≤ 900; decide), q dx hd hne⟩⟩
  rw [upd_ne hne]
  exact upd_same
theorem ok_BadText_init (T : Tx K mg) : FnOk P w K mg base CX0 2 T.A_BadText_init T.fd_BadText_init ["self", "line"] (spErrW K "line" (.str "a line can't be read")) := by
  refine T.F_BadText_init.ok sc_BadText_init (fun vs H Q E h => ?_) (fun cdv A outer s H vs Q E hr h => ?_)
  · obtain ⟨a, C, v, rfl, T1, n1, n2, ha, q⟩ := h
    rfl
  obtain ⟨a, C, v, rfl, T1, n1, n2, ha, q⟩ := h
  refine ⟨_, (pss_cons (ps_expr (pe_cfn T.cf_PearlError (ok_PearlError_init T) (hr.mono (by decide)) (by rfl) T.g_PearlError T.b_PearlError_init .nil pass0 (pa_cons (pv 0) (pa_cons pe_str pa_nil))))
      (pss_one (ps_ostB (newId := "ValueError.__new__") (bmB := veT) PySem.F.store_ValueError (pv 0) (pv 1)))), ?_⟩
  refine ⟨_, rfl, a, C, .str "a line can't be read", rfl, T1, n2, ha, fun dx hd hne => ?_⟩
  refine ⟨_, rfl, _, rfl, a, C, rfl, T1, n1, .inr ⟨dx, [("why", .str "a line can't be read")], upd_same, ?_, (by show 1 ≤ 900; decide), q dx hd hne⟩⟩
  rw [upd_ne hne]
  exact upd_same
theorem ok_NoSuch_init (T : Tx K mg) : FnOk P w K mg base CX0 1 T.A_NoSuch_init T.fd_NoSuch_init ["self", "kind", "name"] (spErr2 "LookupError.__new__" luT K "kind" "name") := by
  refine T.F_NoSuch_init.ok sc_NoSuch_init (fun vs H Q E h => ?_) (fun cdv A outer s H vs Q E hr h => ?_)
  · obtain ⟨a, C, v1, v2, rfl, T1, n1, n2, ha, q⟩ := h
    rfl
  obtain ⟨a, C, v1, v2, rfl, T1, n1, n2, ha, q⟩ := h
  refine ⟨_, (pss_cons (ps_expr (pe_binit PySem.F.excBase_LookupError (by rfl) T.z_LookupError (by decide +kernel) typ_LU (by decide +kernel) (by decide +kernel) T.vV_LookupError (pa_cons (pv 0) (pa_cons pe_str pa_nil))))
      (pss_cons (ps_ostB (newId := "LookupError.__new__") (bmB := luT) PySem.F.store_LookupError (pv 0) (pv 1))
      (pss_one (ps_ostB (newId := "LookupError.__new__") (bmB := luT) PySem.F.store_LookupError (pv 0) (pv 2))))), ?_⟩
  refine ⟨_, rfl, a, C, [.str "there is no such thing"], rfl, (by show 1 ≤ 1000; decide), T1, ha, ?_⟩
  refine ⟨_, rfl, _, rfl, a, C, rfl, T1, n1, .inl ⟨ha, fun dx hd hne => ?_⟩⟩
  refine ⟨_, rfl, _, rfl, a, C, rfl, T1, n2, .inr ⟨dx, [("kind", v1)], upd_same, ?_, (by show 1 ≤ 900; decide), q dx hd hne⟩⟩
  rw [upd_ne hne]
  exact upd_same
theorem ok_NoPlace_init (T : Tx K mg) : FnOk P w K mg base CX0 1 T.A_NoPlace_init T.fd_NoPlace_init ["self", "at"] (spErr "IndexError.__new__" ixT K "at") := by
  refine T.F_NoPlace_init.ok sc_NoPlace_init (fun vs H Q E h => ?_) (fun cdv A outer s H vs Q E hr h => ?_)
  · obtain ⟨a, C, v, rfl, T1, hno, ha, q⟩ := h
    rfl
  obtain ⟨a, C, v, rfl, T1, hno, ha, q⟩ := h
  refine ⟨_, (pss_cons (ps_expr (pe_binit PySem.F.excBase_IndexError (by rfl) T.z_IndexError (by decide +kernel) typ_IX (by decide +kernel) (by decide +kernel) T.vV_IndexError (pa_cons (pv 0) (pa_cons pe_str pa_nil))))
      (pss_one (ps_ostB (newId := "IndexError.__new__") (bmB := ixT) PySem.F.store_IndexError (pv 0) (pv 1)))), ?_⟩
  refine ⟨_, rfl, a, C, [.str "there is no such place"], rfl, (by show 1 ≤ 1000; decide), T1, ha, ?_⟩
  exact ⟨_, rfl, _, rfl, a, C, rfl, T1, hno, .inl ⟨ha, q⟩⟩
theorem ok_Elsewhere_init (T : Tx K mg) : FnOk P w K mg base CX0 1 T.A_Elsewhere_init T.fd_Elsewhere_init ["self", "number", "place"] (spErr2 "LookupError.__new__" keT K "number" "place") := by
  refine T.F_Elsewhere_init.ok sc_Elsewhere_init (fun vs H Q E h => ?_) (fun cdv A outer s H vs Q E hr h => ?_)
  · obtain ⟨a, C, v1, v2, rfl, T1, n1, n2, ha, q⟩ := h
    rfl
  obtain ⟨a, C, v1, v2, rfl, T1, n1, n2, ha, q⟩ := h
  refine ⟨_, (pss_cons (ps_expr (pe_kinit (by rfl) T.z_KeyError T.vV_KeyError (pa_cons (pv 0) (pa_cons pe_str pa_nil))))
      (pss_cons (ps_ostB (newId := "LookupError.__new__") (bmB := keT) store_Key (pv 0) (pv 1))
      (pss_one (ps_ostB (newId := "LookupError.__new__") (bmB := keT) store_Key (pv 0) (pv 2))))), ?_⟩
  refine ⟨_, rfl, a, C, [.str "the bead is elsewhere"], rfl, (by show 1 ≤ 1000; decide), T1, ha, ?_⟩
  refine ⟨_, rfl, _, rfl, a, C, rfl, T1, n1, .inl ⟨ha, fun dx hd hne => ?_⟩⟩
  refine ⟨_, rfl, _, rfl, a, C, rfl, T1, n2, .inr ⟨dx, [("number", v1)], upd_same, ?_, (by show 1 ≤ 900; decide), q dx hd hne⟩⟩
  rw [upd_ne hne]
  exact upd_same
theorem ok_Known_init (T : Tx K mg) : FnOk P w K mg base CX0 1 T.A_Known_init T.fd_Known_init ["self", "kind", "name"] (spErr2 "LookupError.__new__" keT K "kind" "name") := by
  refine T.F_Known_init.ok sc_Known_init (fun vs H Q E h => ?_) (fun cdv A outer s H vs Q E hr h => ?_)
  · obtain ⟨a, C, v1, v2, rfl, T1, n1, n2, ha, q⟩ := h
    rfl
  obtain ⟨a, C, v1, v2, rfl, T1, n1, n2, ha, q⟩ := h
  refine ⟨_, (pss_cons (ps_expr (pe_kinit (by rfl) T.z_KeyError T.vV_KeyError (pa_cons (pv 0) (pa_cons pe_str pa_nil))))
      (pss_cons (ps_ostB (newId := "LookupError.__new__") (bmB := keT) store_Key (pv 0) (pv 1))
      (pss_one (ps_ostB (newId := "LookupError.__new__") (bmB := keT) store_Key (pv 0) (pv 2))))), ?_⟩
  refine ⟨_, rfl, a, C, [.str "it is known already"], rfl, (by show 1 ≤ 1000; decide), T1, ha, ?_⟩
  refine ⟨_, rfl, _, rfl, a, C, rfl, T1, n1, .inl ⟨ha, fun dx hd hne => ?_⟩⟩
  refine ⟨_, rfl, _, rfl, a, C, rfl, T1, n2, .inr ⟨dx, [("kind", v1)], upd_same, ?_, (by show 1 ≤ 900; decide), q dx hd hne⟩⟩
  rw [upd_ne hne]
  exact upd_same
theorem ok_NoShare_init (T : Tx K mg) : FnOk P w K mg base CX0 1 T.A_NoShare_init T.fd_NoShare_init ["self", "num"] (spErr "ZeroDivisionError.__new__" zdT K "num") := by
  refine T.F_NoShare_init.ok sc_NoShare_init (fun vs H Q E h => ?_) (fun cdv A outer s H vs Q E hr h => ?_)
  · obtain ⟨a, C, v, rfl, T1, hno, ha, q⟩ := h
    rfl
  obtain ⟨a, C, v, rfl, T1, hno, ha, q⟩ := h
  refine ⟨_, (pss_cons (ps_expr (pe_binit PySem.F.excBase_ZeroDivisionError (by rfl) T.z_ZeroDivisionError (by decide +kernel) typ_ZD (by decide +kernel) (by decide +kernel) T.vV_ZeroDivisionError (pa_cons (pv 0) (pa_cons pe_str pa_nil))))
      (pss_one (ps_ostB (newId := "ZeroDivisionError.__new__") (bmB := zdT) PySem.F.store_ZeroDivisionError (pv 0) (pv 1)))), ?_⟩
  refine ⟨_, rfl, a, C, [.str "a share is over nought"], rfl, (by show 1 ≤ 1000; decide), T1, ha, ?_⟩
  exact ⟨_, rfl, _, rfl, a, C, rfl, T1, hno, .inl ⟨ha, q⟩⟩
end
end KB
namespace KB
open PySem PySem.Spec PyProof.Rows L2 KA
section
variable {P : Program} {w : World} {K : PySem.W.Frag} {mg : Str → Option Value} {base : Heap}
def PM : Int → Prop := fun b => 0 ≤ b ∧ b < 2147483647
def spCell (K : PySem.W.Frag) : Sp := fun vs H Q _ => ∃ (a : Addr) (ns : List Int), vs = [.ref a, .int 0] ∧ SqL K H a (ns.map V.int) ∧ Q (.int (ns.headD 0)) H
theorem ok_cell_at (T : Tx K mg) : FnOk P w K mg base CX0 1 T.A_cell_at T.fd_cell_at ["_law_script", "_law_k"] (spCell K) := by
  refine T.F_cell_at.ok sc_cell_at (fun vs H Q E h => ?_) (fun cdv A outer s H vs Q E hr h => ?_)
  · obtain ⟨a, ns, rfl, hS, q⟩ := h
    rfl
  obtain ⟨a, ns, rfl, hS, q⟩ := h
  refine ⟨_, (pss_cons (ps_if (pt_cmpR op_lt (pv 1) (pe_callB call_len_seq (by rfl) T.z_len PySem.boot_len (pa_cons (pv 0) pa_nil)) (nomark _)) (pss_one (ps_ret (pe_ix ix_list (pv 0) (pv 1) (fun _ _ => rfl)))) pss_nil)
      (pss_one (ps_ret pe_int))), ?_⟩
  refine ⟨_, rfl, _, rfl, a, _, rfl, .inl hS, _, _, rfl, rfl, _, rfl, ?_⟩
  cases ns with
  | nil => exact iteF q
  | cons n r =>
    rw [decide_eq_true (show (0 : Int) < (((n :: r).map V.int).length : Int) by rw [List.length_map, List.length_cons]; omega)]
    exact iteT ⟨_, rfl, _, rfl, a, _, _, _, rfl, rfl, hS, atI_nat (j := 0) rfl, q⟩
def spDraws : Sp := fun vs H Q _ => ∃ (n : Int), vs = [.int n] ∧ ∀ (d : Addr) (H' : Hp), H d = none → Same H H' → Dr PM d 0 H' → Q (.ref d) H'
theorem ok_draws (T : Tx K mg) : FnOk P w K mg base CX0 1 T.A_draws T.fd_draws ["_law_cell"] (spDraws) := by
  refine T.F_draws.ok sc_draws (fun vs H Q E h => ?_) (fun cdv A outer s H vs Q E hr h => ?_)
  · obtain ⟨n, rfl, q⟩ := h
    rfl
  obtain ⟨n, rfl, q⟩ := h
  refine ⟨_, (pss_one (ps_ret (pe_lst (pa_cons (pe_op op_mul (pv 0) (pe_callTy call_int1 (by rfl) T.z_int (by decide +kernel) (pa_cons (pe_cmpR op_ge (pv 0) (pe_op op_pow pe_int pe_int) (nomark _)) pa_nil))) (pa_cons (pe_op op_mod (pv 0) pe_int) (pa_cons pe_int pa_nil)))))), ?_⟩
  refine ⟨_, rfl, _, rfl, _, _, rfl, rfl, ⟨by decide, by decide, by decide⟩, _, _, rfl, rfl, .inr ⟨_, rfl, _, _, rfl, rfl, .inr ?_, ?_⟩⟩
  · split <;> decide
  · refine ⟨_, rfl, _, _, rfl, rfl, (by show (0 : Int) < 2147483647; decide), (by show 3 ≤ sizeLine; decide), fun d hd => q d _ hd (same_upd hd) ⟨_, _, _, upd_same, ⟨Int.emod_nonneg _ (by decide), Int.emod_lt_of_pos _ (by decide)⟩, Int.le_refl _, Int.le_refl _⟩⟩
def spOne : Sp := fun vs H Q _ => ∃ (d : Addr) (m : Int) (n : Nat), vs = [.ref d, .int m] ∧ 0 < m ∧ m.natAbs.log2 < 9000 ∧ Dr PM d n H ∧ n ≤ 1000000 ∧
  ∀ (H' : Hp) (r : Int), 0 ≤ r → r < m → But d H H' → Dr PM d (n + 1) H' → Q (.int r) H'
theorem ok_one (T : Tx K mg) : FnOk P w K mg base CX0 1 T.A_one T.fd_one ["_law_draws_here", "_law_many"] (spOne) := by
  refine T.F_one.ok sc_one (fun vs H Q E h => ?_) (fun cdv A outer s H vs Q E hr h => ?_)
  · obtain ⟨d, m, n, rfl, hm, hl, ⟨a, b, c, hd, ⟨hb0, hb1⟩, hc0, hc1⟩, hn, q⟩ := h
    rfl
  obtain ⟨d, m, n, rfl, hm, hl, ⟨a, b, c, hd, ⟨hb0, hb1⟩, hc0, hc1⟩, hn, q⟩ := h
  refine ⟨_, (pss_cons (ps_if (pt_cmpR op_gt (pe_ix ix_list (pv 0) pe_int (fun _ _ => rfl)) pe_int (nomark _)) (pss_cons (ps_set (i := 2) sc_one.nd rfl (Or.inl rfl) (pe_op op_mod (pe_ix ix_list (pv 0) pe_int (fun _ _ => rfl)) (pv 1)))
      (pss_cons (ps_asg (pe_op op_fdivW (pe_ix ix_list (pv 0) pe_int (fun _ _ => rfl)) (pv 1)) (pg_sub (pv 0) pe_int set_list))
      (pss_one (ps_ret (pv 2))))) pss_nil)
      (pss_cons (ps_asg (pe_op op_add (pe_ix ix_list (pv 0) pe_int (fun _ _ => rfl)) pe_int) (pg_sub (pv 0) pe_int set_list))
      (pss_cons (ps_set (i := 3) sc_one.nd rfl (Or.inl rfl) (pe_op op_mod (pe_op op_pow (pe_op op_add (pe_op op_add (pe_ix ix_list (pv 0) pe_int (fun _ _ => rfl)) (pe_op op_mul pe_int (pe_ix ix_list (pv 0) pe_int (fun _ _ => rfl)))) pe_int) pe_int) pe_int))
      (pss_cons (ps_set (i := 3) sc_one.nd rfl (Or.inl rfl) (pe_op op_mod (pe_op op_mul (pv 3) (pe_op op_add (pe_op op_add (pe_op op_fdiv (pv 3) pe_int) pe_int) (pe_ix ix_list (pv 0) pe_int (fun _ _ => rfl)))) pe_int))
      (pss_one (ps_ret (pe_op op_mod (pe_op op_mod (pe_op op_mul (pv 3) (pe_op op_add (pe_op op_fdiv (pv 3) pe_int) pe_int)) pe_int) (pv 1)))))))), ?_⟩
  refine ⟨_, rfl, d, _, _, _, rfl, rfl, SqL.of hd, atI_nat (j := 0) rfl, _, _, rfl, rfl, _, rfl, ite2 (fun e => ?_) (fun e => ?_)⟩
  · refine ⟨_, rfl, d, _, _, _, rfl, rfl, SqL.of hd, atI_nat (j := 0) rfl, _, rfl, _, _, rfl, rfl, hm, ?_⟩
    refine ⟨_, rfl, d, _, _, _, rfl, rfl, SqL.of hd, atI_nat (j := 0) rfl, _, rfl, _, _, rfl, rfl, ⟨hm, hl⟩, ?_⟩
    refine ⟨_, rfl, d, _, _, 0, rfl, rfl, hd, rfl, ?_⟩
    exact ⟨_, rfl, q _ _ (Int.emod_nonneg _ (by omega)) (Int.emod_lt_of_pos _ hm) But.at_ ⟨_, _, _, upd_same, ⟨hb0, hb1⟩, hc0, by omega⟩⟩
  · refine ⟨_, rfl, d, _, _, _, rfl, rfl, SqL.of hd, atI_nat (j := 2) rfl, _, _, rfl, rfl, ?_⟩
    refine ⟨_, rfl, d, _, _, 2, rfl, rfl, hd, rfl, ?_⟩
    have hd' : (upd H d (.lst [.int a, .int b, .int (c + 1)])) d = some (.lst [.int a, .int b, .int (c + 1)]) := upd_same
    refine ⟨_, rfl, d, _, _, _, rfl, rfl, SqL.of hd', atI_nat (j := 1) rfl, _, rfl, d, _, _, _, rfl, rfl, SqL.of hd', atI_nat (j := 2) rfl, _, _, rfl, rfl, .inl ⟨by decide, by decide⟩, _, _, rfl, rfl, _, _, rfl, rfl, _, _, rfl, rfl, ⟨by decide, by decide, ?_⟩, _, _, rfl, rfl, (by show (0 : Int) < 2147483647; decide), ?_⟩
    · have e64 : (2 : Nat) ^ 64 = 18446744073709551616 := by decide
      rw [e64]
      omega
    · generalize hx : (b + 7919 * (c + 1) + 1) ^ (5 : Int).toNat % 2147483647 = x
      have hx0 : 0 ≤ x := by rw [← hx]; exact Int.emod_nonneg _ (by decide)
      have hx1 : x < 2147483647 := by rw [← hx]; exact Int.emod_lt_of_pos _ (by decide)
      have e64 : (2 : Int) ^ 64 = 18446744073709551616 := by decide
      refine ⟨_, rfl, _, rfl, _, _, rfl, rfl, ⟨by decide, by decide⟩, _, _, rfl, rfl, _, rfl, d, _, _, _, rfl, rfl, SqL.of hd', atI_nat (j := 2) rfl, _, _, rfl, rfl, _, _, rfl, rfl, .inl ⟨?_, ?_⟩, _, _, rfl, rfl, (by show (0 : Int) < 2147483629; decide), ?_⟩
      · rw [e64]; omega
      · rw [e64]; omega
      · generalize hy : x * (x / 1009 + 69621 + (c + 1)) % 2147483629 = y
        have hy0 : 0 ≤ y := by rw [← hy]; exact Int.emod_nonneg _ (by decide)
        have hy1 : y < 2147483629 := by rw [← hy]; exact Int.emod_lt_of_pos _ (by decide)
        refine ⟨_, rfl, _, rfl, _, _, rfl, rfl, ⟨by decide, by decide⟩, _, _, rfl, rfl, _, _, rfl, rfl, .inl ⟨?_, ?_⟩, _, _, rfl, rfl, (by show (0 : Int) < 2147483399; decide), _, rfl, _, _, rfl, rfl, hm, ?_⟩
        · rw [e64]; omega
        · rw [e64]; omega
        · exact q _ _ (Int.emod_nonneg _ (by omega)) (Int.emod_lt_of_pos _ hm) But.at_ ⟨_, _, _, upd_same, ⟨hb0, hb1⟩, by omega, by omega⟩
def spOf (K : PySem.W.Frag) : Sp := fun vs H Q _ => ∃ (d b : Addr) (n : Nat) (xs : List V), vs = [.ref d, .ref b] ∧ b ≠ d ∧ SqL K H b xs ∧ xs ≠ [] ∧ xs.length ≤ 1000 ∧ Dr PM d n H ∧ n ≤ 1000000 ∧
  ∀ (H' : Hp) (v : V), v ∈ xs → But d H H' → Dr PM d (n + 1) H' → Q v H'
theorem ok_of (T : Tx K mg) : FnOk P w K mg base CX0 2 T.A_of T.fd_of ["_law_draws_here", "_law_some"] (spOf K) := by
  refine T.F_of.ok sc_of (fun vs H Q E h => ?_) (fun cdv A outer s H vs Q E hr h => ?_)
  · obtain ⟨d, b, n, xs, rfl, hbd, hS, hne, hlen, dr, hn, q⟩ := h
    rfl
  obtain ⟨d, b, n, xs, rfl, hbd, hS, hne, hlen, dr, hn, q⟩ := h
  refine ⟨_, (pss_one (ps_ret (pe_ix ix_list (pv 1) (pe_call (ok_one T) (hr.mono (by decide)) (by rfl) T.g_one T.F_one.kp T.b_one .nil pass0 (pa_cons (pv 0) (pa_cons (pe_callB call_len_seq (by rfl) T.z_len PySem.boot_len (pa_cons (pv 1) pa_nil)) pa_nil))) (fun _ _ => rfl)))), ?_⟩
  have hl : 0 < (xs.length : Int) := by
    cases xs with
    | nil => exact absurd rfl hne
    | cons x r => rw [List.length_cons]; omega
  refine ⟨_, rfl, _, rfl, _, rfl, b, xs, rfl, .inl hS, d, _, n, rfl, hl, log_tiny hl (by omega), dr, hn, fun H' r h0 h1 bt dr' => ?_⟩
  obtain ⟨j, rfl⟩ : ∃ j : Nat, r = (j : Int) := ⟨r.toNat, by omega⟩
  have hj : j < xs.length := by omega
  exact ⟨b, xs, _, _, rfl, rfl, but_seq bt hbd hS, atI_nat (List.getElem?_eq_getElem hj), q H' _ (List.getElem_mem hj) bt dr'⟩
/-- the class D is of the i-th kind, under the built-in ones that ks tells -/
structure Kd {K : PySem.W.Frag} {mg : Str → Option Value} (T : Tx K mg) (D : Addr) (i : Nat) (ks : List Bool) : Prop where
  xc : ExcC K D
  own : ∀ (j : Nat) (c : Addr), [T.C_PearlError, T.C_BadBead, T.C_BadRule, T.C_BadLot, T.C_BadDeed, T.C_NoRow, T.C_NotLet, T.C_TooLate, T.C_BadText, T.C_NoSuch, T.C_NoPlace, T.C_Elsewhere, T.C_Known, T.C_NoShare][j]? = some c → PySem.W.kitOne K (.ref D) (.ref c) = some (decide (j = i) || (decide (j = 0) && decide (i < 9)))
  tys : ∀ (j : Nat) (c : String), ["ValueError", "LookupError", "IndexError", "KeyError", "ZeroDivisionError"][j]? = some c → PySem.W.kitOne K (.ref D) (.type c) = some (ks.getD j false)
def markV (i j : Nat) : V := .bl (decide (j = i) || (decide (j = 0) && decide (i < 9)))
def spMarks (T : Tx K mg) : Sp := fun vs H Q _ => ∃ (a D d : Addr) (fs : List (Str × V)) (i : Nat) (ks : List Bool), vs = [.ref a] ∧ H a = some (exo a D (some d)) ∧ H d = some (exd d fs) ∧ Kd T D i ks ∧ ∀ H' l, Same H H' → H l = none → H' l = some (.lst ((List.range 14).map (markV i))) → Q (.ref l) H'
theorem ok_marks (T : Tx K mg) : FnOk P w K mg base CX0 1 T.A_marks T.fd_marks ["_law_e"] (spMarks T) := by
  refine T.F_marks.ok sc_marks (fun vs H Q E h => ?_) (fun cdv A outer s H vs Q E hr h => ?_)
  · obtain ⟨a, D, d, fs, i, ks, rfl, ha, hd, hk, q⟩ := h
    rfl
  obtain ⟨a, D, d, fs, i, ks, rfl, ha, hd, hk, q⟩ := h
  refine ⟨_, (pss_cons (ps_set (i := 1) sc_marks.nd rfl (Or.inl rfl) (pe_lst (pa_cons (pe_callB call_isV (by rfl) T.z_isinstance (by decide +kernel) (pa_cons (pv 0) (pa_cons (pe_glob (v := .ref T.C_PearlError) (by rfl) T.g_PearlError rfl) pa_nil))) (pa_cons (pe_callB call_isV (by rfl) T.z_isinstance (by decide +kernel) (pa_cons (pv 0) (pa_cons (pe_glob (v := .ref T.C_BadBead) (by rfl) T.g_BadBead rfl) pa_nil))) (pa_cons (pe_callB call_isV (by rfl) T.z_isinstance (by decide +kernel) (pa_cons (pv 0) (pa_cons (pe_glob (v := .ref T.C_BadRule) (by rfl) T.g_BadRule rfl) pa_nil))) pa_nil)))))
      (pss_cons (ps_set (i := 1) sc_marks.nd rfl (Or.inl rfl) (pe_op op_cat (pv 1) (pe_lst (pa_cons (pe_callB call_isV (by rfl) T.z_isinstance (by decide +kernel) (pa_cons (pv 0) (pa_cons (pe_glob (v := .ref T.C_BadLot) (by rfl) T.g_BadLot rfl) pa_nil))) (pa_cons (pe_callB call_isV (by rfl) T.z_isinstance (by decide +kernel) (pa_cons (pv 0) (pa_cons (pe_glob (v := .ref T.C_BadDeed) (by rfl) T.g_BadDeed rfl) pa_nil))) pa_nil)))))
      (pss_cons (ps_set (i := 1) sc_marks.nd rfl (Or.inl rfl) (pe_op op_cat (pv 1) (pe_lst (pa_cons (pe_callB call_isV (by rfl) T.z_isinstance (by decide +kernel) (pa_cons (pv 0) (pa_cons (pe_glob (v := .ref T.C_NoRow) (by rfl) T.g_NoRow rfl) pa_nil))) (pa_cons (pe_callB call_isV (by rfl) T.z_isinstance (by decide +kernel) (pa_cons (pv 0) (pa_cons (pe_glob (v := .ref T.C_NotLet) (by rfl) T.g_NotLet rfl) pa_nil))) (pa_cons (pe_callB call_isV (by rfl) T.z_isinstance (by decide +kernel) (pa_cons (pv 0) (pa_cons (pe_glob (v := .ref T.C_TooLate) (by rfl) T.g_TooLate rfl) pa_nil))) pa_nil))))))
      (pss_cons (ps_set (i := 1) sc_marks.nd rfl (Or.inl rfl) (pe_op op_cat (pv 1) (pe_lst (pa_cons (pe_callB call_isV (by rfl) T.z_isinstance (by decide +kernel) (pa_cons (pv 0) (pa_cons (pe_glob (v := .ref T.C_BadText) (by rfl) T.g_BadText rfl) pa_nil))) (pa_cons (pe_callB call_isV (by rfl) T.z_isinstance (by decide +kernel) (pa_cons (pv 0) (pa_cons (pe_glob (v := .ref T.C_NoSuch) (by rfl) T.g_NoSuch rfl) pa_nil))) (pa_cons (pe_callB call_isV (by rfl) T.z_isinstance (by decide +kernel) (pa_cons (pv 0) (pa_cons (pe_glob (v := .ref T.C_NoPlace) (by rfl) T.g_NoPlace rfl) pa_nil))) pa_nil))))))
      (pss_one (ps_ret (pe_op op_cat (pv 1) (pe_lst (pa_cons (pe_callB call_isV (by rfl) T.z_isinstance (by decide +kernel) (pa_cons (pv 0) (pa_cons (pe_glob (v := .ref T.C_Elsewhere) (by rfl) T.g_Elsewhere rfl) pa_nil))) (pa_cons (pe_callB call_isV (by rfl) T.z_isinstance (by decide +kernel) (pa_cons (pv 0) (pa_cons (pe_glob (v := .ref T.C_Known) (by rfl) T.g_Known rfl) pa_nil))) (pa_cons (pe_callB call_isV (by rfl) T.z_isinstance (by decide +kernel) (pa_cons (pv 0) (pa_cons (pe_glob (v := .ref T.C_NoShare) (by rfl) T.g_NoShare rfl) pa_nil))) pa_nil))))))))))), ?_⟩
  let M := markV i
  refine ⟨_, rfl, a, D, d, fs, _, _, _, rfl, ha, hd, hk.xc, .own _, hk.own 0 _ rfl, _, rfl, a, D, d, fs, _, _, _, rfl, ha, hd, hk.xc, .own _, hk.own 1 _ rfl, _, rfl, a, D, d, fs, _, _, _, rfl, ha, hd, hk.xc, .own _, hk.own 2 _ rfl, (by show 3 ≤ sizeLine; decide), fun l0 hl0 => ?_⟩
  have z0 := same_upd hl0 (o := .lst (List.map M (List.range 3)))
  refine ⟨_, rfl, _, rfl, a, D, d, fs, _, _, _, rfl, (z0 _ _ ha), (z0 _ _ hd), hk.xc, .own _, hk.own 3 _ rfl, _, rfl, a, D, d, fs, _, _, _, rfl, (z0 _ _ ha), (z0 _ _ hd), hk.xc, .own _, hk.own 4 _ rfl, (by show 2 ≤ sizeLine; decide), fun p1 hp1 => ?_⟩
  have y1 := same_upd hp1 (o := .lst ((List.range 2).map fun k => M (3 + k)))
  refine ⟨l0, p1, _, _, rfl, rfl, y1 _ _ upd_same, upd_same, (by show 5 ≤ sizeLine; decide), fun l1 hl1 => ?_⟩
  have x1 := same_upd hl1 (o := .lst (List.map M (List.range 5)))
  have z1 := z0.trans (y1.trans x1)
  refine ⟨_, rfl, _, rfl, a, D, d, fs, _, _, _, rfl, (z1 _ _ ha), (z1 _ _ hd), hk.xc, .own _, hk.own 5 _ rfl, _, rfl, a, D, d, fs, _, _, _, rfl, (z1 _ _ ha), (z1 _ _ hd), hk.xc, .own _, hk.own 6 _ rfl, _, rfl, a, D, d, fs, _, _, _, rfl, (z1 _ _ ha), (z1 _ _ hd), hk.xc, .own _, hk.own 7 _ rfl, (by show 3 ≤ sizeLine; decide), fun p2 hp2 => ?_⟩
  have y2 := same_upd hp2 (o := .lst ((List.range 3).map fun k => M (5 + k)))
  refine ⟨l1, p2, _, _, rfl, rfl, y2 _ _ upd_same, upd_same, (by show 8 ≤ sizeLine; decide), fun l2 hl2 => ?_⟩
  have x2 := same_upd hl2 (o := .lst (List.map M (List.range 8)))
  have z2 := z1.trans (y2.trans x2)
  refine ⟨_, rfl, _, rfl, a, D, d, fs, _, _, _, rfl, (z2 _ _ ha), (z2 _ _ hd), hk.xc, .own _, hk.own 8 _ rfl, _, rfl, a, D, d, fs, _, _, _, rfl, (z2 _ _ ha), (z2 _ _ hd), hk.xc, .own _, hk.own 9 _ rfl, _, rfl, a, D, d, fs, _, _, _, rfl, (z2 _ _ ha), (z2 _ _ hd), hk.xc, .own _, hk.own 10 _ rfl, (by show 3 ≤ sizeLine; decide), fun p3 hp3 => ?_⟩
  have y3 := same_upd hp3 (o := .lst ((List.range 3).map fun k => M (8 + k)))
  refine ⟨l2, p3, _, _, rfl, rfl, y3 _ _ upd_same, upd_same, (by show 11 ≤ sizeLine; decide), fun l3 hl3 => ?_⟩
  have x3 := same_upd hl3 (o := .lst (List.map M (List.range 11)))
  have z3 := z2.trans (y3.trans x3)
  refine ⟨_, rfl, _, rfl, a, D, d, fs, _, _, _, rfl, (z3 _ _ ha), (z3 _ _ hd), hk.xc, .own _, hk.own 11 _ rfl, _, rfl, a, D, d, fs, _, _, _, rfl, (z3 _ _ ha), (z3 _ _ hd), hk.xc, .own _, hk.own 12 _ rfl, _, rfl, a, D, d, fs, _, _, _, rfl, (z3 _ _ ha), (z3 _ _ hd), hk.xc, .own _, hk.own 13 _ rfl, (by show 3 ≤ sizeLine; decide), fun p4 hp4 => ?_⟩
  have y4 := same_upd hp4 (o := .lst ((List.range 3).map fun k => M (11 + k)))
  refine ⟨l3, p4, _, _, rfl, rfl, y4 _ _ upd_same, upd_same, (by show 14 ≤ sizeLine; decide), fun l4 hl4 => ?_⟩
  have x4 := same_upd hl4 (o := .lst (List.map M (List.range 14)))
  have z4 := z3.trans (y4.trans x4)
  exact q _ l4 z4 ((z3.trans y4).free hl4) upd_same
def spKinds (T : Tx K mg) : Sp := fun vs H Q _ => ∃ (a D d : Addr) (fs : List (Str × V)) (i : Nat) (ks : List Bool), vs = [.ref a] ∧ H a = some (exo a D (some d)) ∧ H d = some (exd d fs) ∧ Kd T D i ks ∧ ∀ H' l, Same H H' → H l = none → H' l = some (.lst ((List.range 5).map fun j => V.bl (ks.getD j false))) → Q (.ref l) H'
theorem ok_kinds (T : Tx K mg) : FnOk P w K mg base CX0 1 T.A_kinds T.fd_kinds ["_law_e"] (spKinds T) := by
  refine T.F_kinds.ok sc_kinds (fun vs H Q E h => ?_) (fun cdv A outer s H vs Q E hr h => ?_)
  · obtain ⟨a, D, d, fs, i, ks, rfl, ha, hd, hk, q⟩ := h
    rfl
  obtain ⟨a, D, d, fs, i, ks, rfl, ha, hd, hk, q⟩ := h
  refine ⟨_, (pss_cons (ps_set (i := 1) sc_kinds.nd rfl (Or.inl rfl) (pe_lst (pa_cons (pe_callB call_isV (by rfl) T.z_isinstance (by decide +kernel) (pa_cons (pv 0) (pa_cons (pe_bltn (v := .ty "ValueError") (by rfl) T.z_ValueError (by decide +kernel) rfl) pa_nil))) (pa_cons (pe_callB call_isV (by rfl) T.z_isinstance (by decide +kernel) (pa_cons (pv 0) (pa_cons (pe_bltn (v := .ty "LookupError") (by rfl) T.z_LookupError (by decide +kernel) rfl) pa_nil))) (pa_cons (pe_callB call_isV (by rfl) T.z_isinstance (by decide +kernel) (pa_cons (pv 0) (pa_cons (pe_bltn (v := .ty "IndexError") (by rfl) T.z_IndexError (by decide +kernel) rfl) pa_nil))) pa_nil)))))
      (pss_one (ps_ret (pe_op op_cat (pv 1) (pe_lst (pa_cons (pe_callB call_isV (by rfl) T.z_isinstance (by decide +kernel) (pa_cons (pv 0) (pa_cons (pe_bltn (v := .ty "KeyError") (by rfl) T.z_KeyError (by decide +kernel) rfl) pa_nil))) (pa_cons (pe_callB call_isV (by rfl) T.z_isinstance (by decide +kernel) (pa_cons (pv 0) (pa_cons (pe_bltn (v := .ty "ZeroDivisionError") (by rfl) T.z_ZeroDivisionError (by decide +kernel) rfl) pa_nil))) pa_nil))))))), ?_⟩
  let M : Nat → V := fun j => V.bl (ks.getD j false)
  refine ⟨_, rfl, a, D, d, fs, _, _, _, rfl, ha, hd, hk.xc, .ty _, hk.tys 0 _ rfl, _, rfl, a, D, d, fs, _, _, _, rfl, ha, hd, hk.xc, .ty _, hk.tys 1 _ rfl, _, rfl, a, D, d, fs, _, _, _, rfl, ha, hd, hk.xc, .ty _, hk.tys 2 _ rfl, (by show 3 ≤ sizeLine; decide), fun l0 hl0 => ?_⟩
  have z0 := same_upd hl0 (o := .lst (List.map M (List.range 3)))
  refine ⟨_, rfl, _, rfl, a, D, d, fs, _, _, _, rfl, (z0 _ _ ha), (z0 _ _ hd), hk.xc, .ty _, hk.tys 3 _ rfl, _, rfl, a, D, d, fs, _, _, _, rfl, (z0 _ _ ha), (z0 _ _ hd), hk.xc, .ty _, hk.tys 4 _ rfl, (by show 2 ≤ sizeLine; decide), fun p1 hp1 => ?_⟩
  have y1 := same_upd hp1 (o := .lst ((List.range 2).map fun k => M (3 + k)))
  refine ⟨l0, p1, _, _, rfl, rfl, y1 _ _ upd_same, upd_same, (by show 5 ≤ sizeLine; decide), fun l1 hl1 => ?_⟩
  have x1 := same_upd hl1 (o := .lst (List.map M (List.range 5)))
  have z1 := z0.trans (y1.trans x1)
  exact q _ l1 z1 ((z0.trans y1).free hl1) upd_same
end
end KB
namespace KB
open PySem PySem.Spec PyProof.Rows L2 KA
theorem dpAll_map {K : PySem.W.Frag} {H : Hp} {f : Nat → V} {g : Nat → PyData} (h : ∀ j, Dp K H (f j) (g j)) : ∀ l : List Nat, DpAll K H (l.map f) (l.map g)
  | [] => .nil
  | j :: l => .cons (h j) (dpAll_map h l)
theorem flat_ok {g : Nat → PyData} (h : ∀ j, PyData.canLay0 (g j) = true ∧ PyData.depth (g j) ≤ 1) : ∀ l : List Nat, PyData.canLayAll0 (l.map g) = true ∧ PyData.depthAll (l.map g) ≤ 1
  | [] => ⟨rfl, Nat.zero_le _⟩
  | j :: l => by
    obtain ⟨a, b⟩ := flat_ok h l
    obtain ⟨c, d⟩ := h j
    constructor
    · show (PyData.canLay0 (g j) && PyData.canLayAll0 (l.map g)) = true
      rw [a, c]
      rfl
    · show max (PyData.depth (g j)) (PyData.depthAll (l.map g)) ≤ 1
      omega
theorem flat_shaped {g : Nat → PyData} (h : ∀ j, PyData.canLay0 (g j) = true ∧ PyData.depth (g j) ≤ 1) (l : List Nat) : SeqAt.shaped (.list (l.map g)) = true := by
  obtain ⟨a, b⟩ := flat_ok h l
  show (PyData.canLayAll0 (l.map g) && decide (PyData.depthAll (l.map g) + 1 ≤ 64)) = true
  rw [a, decide_eq_true (by omega)]
  rfl
theorem eqv_self {d : PyData} (h : SeqAt.shaped d = true) : PyData.eqv d d = true := SeqAt.eqv_refl _ (SeqAt.canLay_of_shaped h)
def markD (i j : Nat) : PyData := .bool (decide (j = i) || (decide (j = 0) && decide (i < 9)))
def intD (j : Nat) : PyData := .int (j : Nat)
theorem di (j i : Nat) : decide (V.int (0 + (j : Int)) = V.int (i : Int)) = decide (j = i) := by
  rw [decide_eq_decide]
  constructor
  · intro e
    injection e with e
    omega
  · intro e
    rw [e, Int.zero_add]
section
variable {P : Program} {w : World} {K : PySem.W.Frag} {mg : Str → Option Value} {base : Heap}
/-- what stands under the built-in kinds that ks tells -/
def kindsL (ks : List Bool) : List V := ((List.range 5).filter fun j => ks.getD j false).map fun j => V.int (j : Nat)
def spIsOf (T : Tx K mg) : Sp := fun vs H Q _ => ∃ (a D d b : Addr) (fs : List (Str × V)) (i : Nat) (ks : List Bool), vs = [.ref a, .int i, .ref b] ∧ H a = some (exo a D (some d)) ∧ H d = some (exd d fs) ∧ Kd T D i ks ∧ H b = some (.lst (kindsL ks)) ∧ ∀ H', Same H H' → Q (.bl true) H'
theorem ok_is_of (T : Tx K mg) : FnOk P w K mg base CX0 2 T.A_is_of T.fd_is_of ["_law_e", "_law_home", "_law_kinds_here"] (spIsOf T) := by
  refine T.F_is_of.ok sc_is_of (fun vs H Q E h => ?_) (fun cdv A outer s H vs Q E hr h => ?_)
  · obtain ⟨a, D, d, b, fs, i, ks, rfl, ha, hd, hk, hb, q⟩ := h
    rfl
  obtain ⟨a, D, d, b, fs, i, ks, rfl, ha, hd, hk, hb, q⟩ := h
  refine ⟨_, (pss_cons (ps_setLc (i := 3) (own := [("_law_k", 4)]) (g := gName 4) (tt := tYes) rfl sc_is_of.nd rfl rfl (sw_true rfl rfl rfl (by decide +kernel)) (pi_range1 (by rfl) T.z_range (pa_cons pe_int pa_nil)) (blkOk_by (N := ["_law_e", "_law_home", "_law_kinds_here", "_law_due", "_law_k"]) (sc := defScope s_is_of) (by decide +kernel)) (fun _ _ _ _ _ => (pg_name (i := 4) sc_is_of.nd rfl (Or.inl rfl))) (fun _ _ _ _ _ => pts_nil) (fun _ _ _ _ _ => (pe_or (pe_cmpR op_eq (pv 4) (pv 1) (nomark _)) (pe_one (pe_and (pe_cmpR op_eq (pv 4) pe_int (nomark _)) (pe_one (pe_cmpR op_lt (pv 1) pe_int (nomark _))))))))
      (pss_one (ps_ret (pe_and (pe_cmpR (op_eqD hr.units) (pe_call (ok_marks T) (hr.mono (by decide)) (by rfl) T.g_marks T.F_marks.kp T.b_marks .nil pass0 (pa_cons (pv 0) pa_nil)) (pv 3) (nomark _)) (pe_one (pe_cmpR (op_eqD hr.units) (pe_lc (own := [("_law_k", 4)]) (g := gName 4) (tt := _) rfl sc_is_of.nd (pi_range1 (by rfl) T.z_range (pa_cons pe_int pa_nil)) (blkOk_by (N := ["_law_e", "_law_home", "_law_kinds_here", "_law_due", "_law_k"]) (sc := defScope s_is_of) (by decide +kernel)) (fun _ _ _ _ _ => (pg_name (i := 4) sc_is_of.nd rfl (Or.inl rfl))) (fun _ _ _ _ _ => (pts_one (pt_val (pe_ix (ix_listK (K' := K) rfl) (pe_call (ok_kinds T) (hr.mono (by decide)) (by rfl) T.g_kinds T.F_kinds.kp T.b_kinds .nil pass0 (pa_cons (pv 0) pa_nil)) (pv 4) (fun _ _ => rfl))))) (fun _ _ _ _ _ => (pv 4))) (pv 2) (nomark _))))))), ?_⟩
  refine ⟨_, rfl, by decide, by decide, fun D0 hD0 => lc_someR (n := 14) hD0 (by decide) (fun _ => true) (markV i) ?_ ?_⟩
  · intro j H2 R C hj s2 yes no
    have yes := yes rfl H2 (Same.refl _)
    refine ⟨rfl, yesT ⟨_, rfl, _, rfl, rfl, _, rfl, ?_⟩⟩
    rw [di]
    by_cases h : j = i
    · rw [show markV i j = .bl true by unfold markV; rw [decide_eq_true h]; rfl] at yes
      rw [decide_eq_true h]
      exact iteT yes
    · rw [decide_eq_false h]
      refine iteF ⟨_, rfl, rfl, _, rfl, ?_⟩
      rw [show decide (V.int (0 + (j : Int)) = V.int 0) = decide (j = 0) from di j 0]
      by_cases h0 : j = 0
      · rw [show markV i j = .bl (decide ((i : Int) < 9)) by unfold markV; rw [decide_eq_false h, decide_eq_true h0, Bool.false_or, Bool.true_and, show decide (i < 9) = decide ((i : Int) < 9) by rw [decide_eq_decide]; omega]] at yes
        rw [decide_eq_true h0]
        exact iteT ⟨_, rfl, _, _, rfl, rfl, yes⟩
      · rw [show markV i j = .bl false by unfold markV; rw [decide_eq_false h, decide_eq_false h0]; rfl] at yes
        rw [decide_eq_false h0]
        exact iteF yes
  · intro H1 s1 e1
    have e1 : H1 D0 = some (.lst ((List.range 14).map (markV i))) := e1
    have sh := flat_shaped (g := markD i) (fun j => ⟨rfl, Nat.zero_le _⟩) (List.range 14)
    refine ⟨_, rfl, a, D, d, fs, i, ks, rfl, s1 _ _ ha, s1 _ _ hd, hk, fun H2 l s2 fl el => ⟨_, rfl, .list ((List.range 14).map (markD i)), .list ((List.range 14).map (markD i)), .lst (SqL.of el) (dpAll_map (fun j => .bl _) _), .lst (SqL.of (s2 _ _ e1)) (dpAll_map (fun j => .bl _) _), sh, sh, _, rfl, ?_⟩⟩
    rw [eqv_self sh]
    have s12 := s1.trans s2
    refine iteT ⟨_, rfl, by decide, by decide, fun D1 hD1 => lc_someR (n := 5) hD1 (by decide) (fun j => ks.getD j false) (fun j => V.int (j : Nat)) ?_ ?_⟩
    · intro j H3 R C hj s3 yes no
      have s13 := s12.trans s3
      refine ⟨rfl, _, rfl, a, D, d, fs, i, ks, rfl, s13 _ _ ha, s13 _ _ hd, hk, fun H4 l4 s4 f4 e4 => ?_⟩
      have at0 : atI ((List.range 5).map fun j => V.bl (ks.getD j false)) (0 + (j : Int)) = some (.bl (ks.getD j false)) := by
        rw [Int.zero_add]
        exact atI_nat (by rw [List.getElem?_map, List.getElem?_range hj]; rfl)
      refine ⟨_, rfl, l4, _, _, _, rfl, rfl, SqL.of e4, at0, _, rfl, ite2 (fun h => ⟨_, rfl, ?_⟩) (fun h => no (by simpa using h) H4 s4)⟩
      rw [Int.zero_add]
      exact yes h H4 s4
    · intro H3 s3 e3
      have sh2 := flat_shaped (g := intD) (fun j => ⟨rfl, Nat.zero_le _⟩) ((List.range 5).filter fun j => ks.getD j false)
      refine ⟨_, rfl, .list (((List.range 5).filter fun j => ks.getD j false).map intD), .list (((List.range 5).filter fun j => ks.getD j false).map intD), .lst (SqL.of e3) (dpAll_map (fun j => .int _) _), .lst (SqL.of ((s12.trans s3) _ _ hb)) (dpAll_map (fun j => .int _) _), sh2, sh2, ?_⟩
      rw [eqv_self sh2]
      exact q _ (s12.trans s3)
end
end KB
namespace KB
open PySem PySem.Spec PyProof.Rows L2 KA
section
variable {P : Program} {w : World} {K : PySem.W.Frag} {mg : Str → Option Value} {base : Heap}
theorem kd_PearlError (T : Tx K mg) : Kd T T.C_PearlError 0 [true, false, false, false, false] := by
  obtain ⟨h0, h1, h2, h3, h4, h5, h6, h7, h8, h9, h10, h11, h12, h13, h14, h15, h16, h17, h18⟩ := T.ki_PearlError
  refine ⟨T.xc_PearlError, fun j c e => ?_, fun j c e => ?_⟩
  · exact match j, e with
      | 0, rfl => h0
      | 1, rfl => h1
      | 2, rfl => h2
      | 3, rfl => h3
      | 4, rfl => h4
      | 5, rfl => h5
      | 6, rfl => h6
      | 7, rfl => h7
      | 8, rfl => h8
      | 9, rfl => h9
      | 10, rfl => h10
      | 11, rfl => h11
      | 12, rfl => h12
      | 13, rfl => h13
      | _ + 14, e => nomatch e
  · exact match j, e with
      | 0, rfl => h14
      | 1, rfl => h15
      | 2, rfl => h16
      | 3, rfl => h17
      | 4, rfl => h18
      | _ + 5, e => nomatch e
theorem kd_BadBead (T : Tx K mg) : Kd T T.C_BadBead 1 [true, false, false, false, false] := by
  obtain ⟨h0, h1, h2, h3, h4, h5, h6, h7, h8, h9, h10, h11, h12, h13, h14, h15, h16, h17, h18⟩ := T.ki_BadBead
  refine ⟨T.xc_BadBead, fun j c e => ?_, fun j c e => ?_⟩
  · exact match j, e with
      | 0, rfl => h0
      | 1, rfl => h1
      | 2, rfl => h2
      | 3, rfl => h3
      | 4, rfl => h4
      | 5, rfl => h5
      | 6, rfl => h6
      | 7, rfl => h7
      | 8, rfl => h8
      | 9, rfl => h9
      | 10, rfl => h10
      | 11, rfl => h11
      | 12, rfl => h12
      | 13, rfl => h13
      | _ + 14, e => nomatch e
  · exact match j, e with
      | 0, rfl => h14
      | 1, rfl => h15
      | 2, rfl => h16
      | 3, rfl => h17
      | 4, rfl => h18
      | _ + 5, e => nomatch e
theorem kd_BadRule (T : Tx K mg) : Kd T T.C_BadRule 2 [true, false, false, false, false] := by
  obtain ⟨h0, h1, h2, h3, h4, h5, h6, h7, h8, h9, h10, h11, h12, h13, h14, h15, h16, h17, h18⟩ := T.ki_BadRule
  refine ⟨T.xc_BadRule, fun j c e => ?_, fun j c e => ?_⟩
  · exact match j, e with
      | 0, rfl => h0
      | 1, rfl => h1
      | 2, rfl => h2
      | 3, rfl => h3
      | 4, rfl => h4
      | 5, rfl => h5
      | 6, rfl => h6
      | 7, rfl => h7
      | 8, rfl => h8
      | 9, rfl => h9
      | 10, rfl => h10
      | 11, rfl => h11
      | 12, rfl => h12
      | 13, rfl => h13
      | _ + 14, e => nomatch e
  · exact match j, e with
      | 0, rfl => h14
      | 1, rfl => h15
      | 2, rfl => h16
      | 3, rfl => h17
      | 4, rfl => h18
      | _ + 5, e => nomatch e
theorem kd_BadLot (T : Tx K mg) : Kd T T.C_BadLot 3 [true, false, false, false, false] := by
  obtain ⟨h0, h1, h2, h3, h4, h5, h6, h7, h8, h9, h10, h11, h12, h13, h14, h15, h16, h17, h18⟩ := T.ki_BadLot
  refine ⟨T.xc_BadLot, fun j c e => ?_, fun j c e => ?_⟩
  · exact match j, e with
      | 0, rfl => h0
      | 1, rfl => h1
      | 2, rfl => h2
      | 3, rfl => h3
      | 4, rfl => h4
      | 5, rfl => h5
      | 6, rfl => h6
      | 7, rfl => h7
      | 8, rfl => h8
      | 9, rfl => h9
      | 10, rfl => h10
      | 11, rfl => h11
      | 12, rfl => h12
      | 13, rfl => h13
      | _ + 14, e => nomatch e
  · exact match j, e with
      | 0, rfl => h14
      | 1, rfl => h15
      | 2, rfl => h16
      | 3, rfl => h17
      | 4, rfl => h18
      | _ + 5, e => nomatch e
theorem kd_BadDeed (T : Tx K mg) : Kd T T.C_BadDeed 4 [true, false, false, false, false] := by
  obtain ⟨h0, h1, h2, h3, h4, h5, h6, h7, h8, h9, h10, h11, h12, h13, h14, h15, h16, h17, h18⟩ := T.ki_BadDeed
  refine ⟨T.xc_BadDeed, fun j c e => ?_, fun j c e => ?_⟩
  · exact match j, e with
      | 0, rfl => h0
      | 1, rfl => h1
      | 2, rfl => h2
      | 3, rfl => h3
      | 4, rfl => h4
      | 5, rfl => h5
      | 6, rfl => h6
      | 7, rfl => h7
      | 8, rfl => h8
      | 9, rfl => h9
      | 10, rfl => h10
      | 11, rfl => h11
      | 12, rfl => h12
      | 13, rfl => h13
      | _ + 14, e => nomatch e
  · exact match j, e with
      | 0, rfl => h14
      | 1, rfl => h15
      | 2, rfl => h16
      | 3, rfl => h17
      | 4, rfl => h18
      | _ + 5, e => nomatch e
theorem kd_NoRow (T : Tx K mg) : Kd T T.C_NoRow 5 [true, false, false, false, false] := by
  obtain ⟨h0, h1, h2, h3, h4, h5, h6, h7, h8, h9, h10, h11, h12, h13, h14, h15, h16, h17, h18⟩ := T.ki_NoRow
  refine ⟨T.xc_NoRow, fun j c e => ?_, fun j c e => ?_⟩
  · exact match j, e with
      | 0, rfl => h0
      | 1, rfl => h1
      | 2, rfl => h2
      | 3, rfl => h3
      | 4, rfl => h4
      | 5, rfl => h5
      | 6, rfl => h6
      | 7, rfl => h7
      | 8, rfl => h8
      | 9, rfl => h9
      | 10, rfl => h10
      | 11, rfl => h11
      | 12, rfl => h12
      | 13, rfl => h13
      | _ + 14, e => nomatch e
  · exact match j, e with
      | 0, rfl => h14
      | 1, rfl => h15
      | 2, rfl => h16
      | 3, rfl => h17
      | 4, rfl => h18
      | _ + 5, e => nomatch e
theorem kd_NotLet (T : Tx K mg) : Kd T T.C_NotLet 6 [true, false, false, false, false] := by
  obtain ⟨h0, h1, h2, h3, h4, h5, h6, h7, h8, h9, h10, h11, h12, h13, h14, h15, h16, h17, h18⟩ := T.ki_NotLet
  refine ⟨T.xc_NotLet, fun j c e => ?_, fun j c e => ?_⟩
  · exact match j, e with
      | 0, rfl => h0
      | 1, rfl => h1
      | 2, rfl => h2
      | 3, rfl => h3
      | 4, rfl => h4
      | 5, rfl => h5
      | 6, rfl => h6
      | 7, rfl => h7
      | 8, rfl => h8
      | 9, rfl => h9
      | 10, rfl => h10
      | 11, rfl => h11
      | 12, rfl => h12
      | 13, rfl => h13
      | _ + 14, e => nomatch e
  · exact match j, e with
      | 0, rfl => h14
      | 1, rfl => h15
      | 2, rfl => h16
      | 3, rfl => h17
      | 4, rfl => h18
      | _ + 5, e => nomatch e
theorem kd_TooLate (T : Tx K mg) : Kd T T.C_TooLate 7 [true, false, false, false, false] := by
  obtain ⟨h0, h1, h2, h3, h4, h5, h6, h7, h8, h9, h10, h11, h12, h13, h14, h15, h16, h17, h18⟩ := T.ki_TooLate
  refine ⟨T.xc_TooLate, fun j c e => ?_, fun j c e => ?_⟩
  · exact match j, e with
      | 0, rfl => h0
      | 1, rfl => h1
      | 2, rfl => h2
      | 3, rfl => h3
      | 4, rfl => h4
      | 5, rfl => h5
      | 6, rfl => h6
      | 7, rfl => h7
      | 8, rfl => h8
      | 9, rfl => h9
      | 10, rfl => h10
      | 11, rfl => h11
      | 12, rfl => h12
      | 13, rfl => h13
      | _ + 14, e => nomatch e
  · exact match j, e with
      | 0, rfl => h14
      | 1, rfl => h15
      | 2, rfl => h16
      | 3, rfl => h17
      | 4, rfl => h18
      | _ + 5, e => nomatch e
theorem kd_BadText (T : Tx K mg) : Kd T T.C_BadText 8 [true, false, false, false, false] := by
  obtain ⟨h0, h1, h2, h3, h4, h5, h6, h7, h8, h9, h10, h11, h12, h13, h14, h15, h16, h17, h18⟩ := T.ki_BadText
  refine ⟨T.xc_BadText, fun j c e => ?_, fun j c e => ?_⟩
  · exact match j, e with
      | 0, rfl => h0
      | 1, rfl => h1
      | 2, rfl => h2
      | 3, rfl => h3
      | 4, rfl => h4
      | 5, rfl => h5
      | 6, rfl => h6
      | 7, rfl => h7
      | 8, rfl => h8
      | 9, rfl => h9
      | 10, rfl => h10
      | 11, rfl => h11
      | 12, rfl => h12
      | 13, rfl => h13
      | _ + 14, e => nomatch e
  · exact match j, e with
      | 0, rfl => h14
      | 1, rfl => h15
      | 2, rfl => h16
      | 3, rfl => h17
      | 4, rfl => h18
      | _ + 5, e => nomatch e
theorem kd_NoSuch (T : Tx K mg) : Kd T T.C_NoSuch 9 [false, true, false, false, false] := by
  obtain ⟨h0, h1, h2, h3, h4, h5, h6, h7, h8, h9, h10, h11, h12, h13, h14, h15, h16, h17, h18⟩ := T.ki_NoSuch
  refine ⟨T.xc_NoSuch, fun j c e => ?_, fun j c e => ?_⟩
  · exact match j, e with
      | 0, rfl => h0
      | 1, rfl => h1
      | 2, rfl => h2
      | 3, rfl => h3
      | 4, rfl => h4
      | 5, rfl => h5
      | 6, rfl => h6
      | 7, rfl => h7
      | 8, rfl => h8
      | 9, rfl => h9
      | 10, rfl => h10
      | 11, rfl => h11
      | 12, rfl => h12
      | 13, rfl => h13
      | _ + 14, e => nomatch e
  · exact match j, e with
      | 0, rfl => h14
      | 1, rfl => h15
      | 2, rfl => h16
      | 3, rfl => h17
      | 4, rfl => h18
      | _ + 5, e => nomatch e
theorem kd_NoPlace (T : Tx K mg) : Kd T T.C_NoPlace 10 [false, true, true, false, false] := by
  obtain ⟨h0, h1, h2, h3, h4, h5, h6, h7, h8, h9, h10, h11, h12, h13, h14, h15, h16, h17, h18⟩ := T.ki_NoPlace
  refine ⟨T.xc_NoPlace, fun j c e => ?_, fun j c e => ?_⟩
  · exact match j, e with
      | 0, rfl => h0
      | 1, rfl => h1
      | 2, rfl => h2
      | 3, rfl => h3
      | 4, rfl => h4
      | 5, rfl => h5
      | 6, rfl => h6
      | 7, rfl => h7
      | 8, rfl => h8
      | 9, rfl => h9
      | 10, rfl => h10
      | 11, rfl => h11
      | 12, rfl => h12
      | 13, rfl => h13
      | _ + 14, e => nomatch e
  · exact match j, e with
      | 0, rfl => h14
      | 1, rfl => h15
      | 2, rfl => h16
      | 3, rfl => h17
      | 4, rfl => h18
      | _ + 5, e => nomatch e
theorem kd_Elsewhere (T : Tx K mg) : Kd T T.C_Elsewhere 11 [false, true, false, true, false] := by
  obtain ⟨h0, h1, h2, h3, h4, h5, h6, h7, h8, h9, h10, h11, h12, h13, h14, h15, h16, h17, h18⟩ := T.ki_Elsewhere
  refine ⟨T.xc_Elsewhere, fun j c e => ?_, fun j c e => ?_⟩
  · exact match j, e with
      | 0, rfl => h0
      | 1, rfl => h1
      | 2, rfl => h2
      | 3, rfl => h3
      | 4, rfl => h4
      | 5, rfl => h5
      | 6, rfl => h6
      | 7, rfl => h7
      | 8, rfl => h8
      | 9, rfl => h9
      | 10, rfl => h10
      | 11, rfl => h11
      | 12, rfl => h12
      | 13, rfl => h13
      | _ + 14, e => nomatch e
  · exact match j, e with
      | 0, rfl => h14
      | 1, rfl => h15
      | 2, rfl => h16
      | 3, rfl => h17
      | 4, rfl => h18
      | _ + 5, e => nomatch e
theorem kd_Known (T : Tx K mg) : Kd T T.C_Known 12 [false, true, false, true, false] := by
  obtain ⟨h0, h1, h2, h3, h4, h5, h6, h7, h8, h9, h10, h11, h12, h13, h14, h15, h16, h17, h18⟩ := T.ki_Known
  refine ⟨T.xc_Known, fun j c e => ?_, fun j c e => ?_⟩
  · exact match j, e with
      | 0, rfl => h0
      | 1, rfl => h1
      | 2, rfl => h2
      | 3, rfl => h3
      | 4, rfl => h4
      | 5, rfl => h5
      | 6, rfl => h6
      | 7, rfl => h7
      | 8, rfl => h8
      | 9, rfl => h9
      | 10, rfl => h10
      | 11, rfl => h11
      | 12, rfl => h12
      | 13, rfl => h13
      | _ + 14, e => nomatch e
  · exact match j, e with
      | 0, rfl => h14
      | 1, rfl => h15
      | 2, rfl => h16
      | 3, rfl => h17
      | 4, rfl => h18
      | _ + 5, e => nomatch e
theorem kd_NoShare (T : Tx K mg) : Kd T T.C_NoShare 13 [false, false, false, false, true] := by
  obtain ⟨h0, h1, h2, h3, h4, h5, h6, h7, h8, h9, h10, h11, h12, h13, h14, h15, h16, h17, h18⟩ := T.ki_NoShare
  refine ⟨T.xc_NoShare, fun j c e => ?_, fun j c e => ?_⟩
  · exact match j, e with
      | 0, rfl => h0
      | 1, rfl => h1
      | 2, rfl => h2
      | 3, rfl => h3
      | 4, rfl => h4
      | 5, rfl => h5
      | 6, rfl => h6
      | 7, rfl => h7
      | 8, rfl => h8
      | 9, rfl => h9
      | 10, rfl => h10
      | 11, rfl => h11
      | 12, rfl => h12
      | 13, rfl => h13
      | _ + 14, e => nomatch e
  · exact match j, e with
      | 0, rfl => h14
      | 1, rfl => h15
      | 2, rfl => h16
      | 3, rfl => h17
      | 4, rfl => h18
      | _ + 5, e => nomatch e
theorem same_mk1 {H : Hp} {a d : Addr} {o1 o2 o3 : HO} (ha : H a = none) (hd : upd H a o1 d = none) (hne : d ≠ a) : Same H (upd (upd (upd H a o1) d o2) a o3) := by
  intro b o h
  have h1 : b ≠ a := ne_of_none h ha
  have hd' : H d = none := by rw [upd_ne hne] at hd; exact hd
  rw [upd_ne h1, upd_ne (ne_of_none h hd'), upd_ne h1]
  exact h
theorem same_mk2 {H : Hp} {a d : Addr} {o1 o2 o3 o4 : HO} (ha : H a = none) (hd : upd H a o1 d = none) (hne : d ≠ a) : Same H (upd (upd (upd (upd H a o1) d o2) a o3) d o4) := by
  intro b o h
  have hd' : H d = none := by rw [upd_ne hne] at hd; exact hd
  rw [upd_ne (ne_of_none h hd')]
  exact same_mk1 ha hd hne _ _ h
/-- a made error: it stands where nothing stood, its fields in their order -/
abbrev Fin1 (H : Hp) (C : Addr) (fs : List (Str × V)) (Q : Addr → Hp → Prop) : Prop := ∀ H2 a d, Same H H2 → H a = none → H2 a = some (exo a C (some d)) → H2 d = some (exd d fs) → Q a H2
theorem mk1 {newId : String} {bmB : List Value} {f : Str} {C : Addr} {H : Hp} {v : V} {Q : Addr → Hp → Prop} {E} (T1 : OexB newId bmB K C) (n : PySem.W.findIn K (.ref C) f = some none) (fin : Fin1 H C [(f, v)] Q) :
    ∀ a, H a = none → spErr newId bmB K f [.ref a, v] (upd H a (exo a C none)) (fun r H2 => r = .non ∧ Q a H2) E := by
  intro a ha
  refine ⟨a, C, v, rfl, T1, n, upd_same, fun dx hd hne => ⟨rfl, fin _ a dx (same_mk1 ha hd hne) ha upd_same ?_⟩⟩
  rw [upd_ne hne]
  exact upd_same
theorem mk2 {newId : String} {bmB : List Value} {f1 f2 : Str} {C : Addr} {H : Hp} {v1 v2 : V} {Q : Addr → Hp → Prop} {E} (T1 : OexB newId bmB K C) (n1 : PySem.W.findIn K (.ref C) f1 = some none) (n2 : PySem.W.findIn K (.ref C) f2 = some none) (fin : Fin1 H C [(f2, v2), (f1, v1)] Q) :
    ∀ a, H a = none → spErr2 newId bmB K f1 f2 [.ref a, v1, v2] (upd H a (exo a C none)) (fun r H2 => r = .non ∧ Q a H2) E := by
  intro a ha
  refine ⟨a, C, v1, v2, rfl, T1, n1, n2, upd_same, fun dx hd hne => ⟨rfl, fin _ a dx (same_mk2 ha hd hne) ha ?_ upd_same⟩⟩
  rw [upd_ne (Ne.symm hne)]
  exact upd_same
theorem mkW {f : Str} {w0 : V} {C : Addr} {H : Hp} {v : V} {Q : Addr → Hp → Prop} {E} (T1 : OexB "ValueError.__new__" veT K C) (n1 : PySem.W.findIn K (.ref C) f = some none) (n2 : PySem.W.findIn K (.ref C) "why" = some none) (fin : Fin1 H C [(f, v), ("why", w0)] Q) :
    ∀ a, H a = none → spErrW K f w0 [.ref a, v] (upd H a (exo a C none)) (fun r H2 => r = .non ∧ Q a H2) E := by
  intro a ha
  refine ⟨a, C, v, rfl, T1, n1, n2, upd_same, fun dx hd hne => ⟨rfl, fin _ a dx (same_mk2 ha hd hne) ha ?_ upd_same⟩⟩
  rw [upd_ne (Ne.symm hne)]
  exact upd_same
theorem mkN {C : Addr} {H : Hp} {v1 v2 : V} {Q : Addr → Hp → Prop} {E} (T1 : OexB "ValueError.__new__" veT K C) (n1 : PySem.W.findIn K (.ref C) "at" = some none) (n2 : PySem.W.findIn K (.ref C) "why" = some none) (fin : Fin1 H C [("at", v1), ("why", v2)] Q) :
    ∀ a, H a = none → spNotL K [.ref a, v1, v2] (upd H a (exo a C none)) (fun r H2 => r = .non ∧ Q a H2) E := by
  intro a ha
  refine ⟨a, C, v1, v2, rfl, T1, n1, n2, upd_same, fun dx hd hne => ⟨rfl, fin _ a dx (same_mk2 ha hd hne) ha ?_ upd_same⟩⟩
  rw [upd_ne (Ne.symm hne)]
  exact upd_same
/-- errors of these classes, each with why alone, v -/
inductive ExL (H : Hp) (v : V) : List V → List Addr → Prop
  | nil : ExL H v [] []
  | cons {a D d : Addr} {xs : List V} {Ds : List Addr} : H a = some (exo a D (some d)) → H d = some (exd d [("why", v)]) → ExL H v xs Ds → ExL H v (.ref a :: xs) (D :: Ds)
theorem ExL.mono {H H' : Hp} {v : V} (s : Same H H') : ∀ {xs Ds}, ExL H v xs Ds → ExL H' v xs Ds
  | _, _, .nil => .nil
  | _, _, .cons a b r => .cons (s _ _ a) (s _ _ b) (r.mono s)
theorem ExL.app {H : Hp} {v : V} {ys : List V} {Es : List Addr} (h : ExL H v ys Es) : ∀ {xs Ds}, ExL H v xs Ds → ExL H v (xs ++ ys) (Ds ++ Es)
  | _, _, .nil => h
  | _, _, .cons a b r => .cons a b (h.app r)
theorem ExL.get {H : Hp} {v : V} : ∀ {xs : List V} {Ds : List Addr} (j : Nat) (D : Addr), ExL H v xs Ds → Ds[j]? = some D → ∃ a d, xs[j]? = some (.ref a) ∧ H a = some (exo a D (some d)) ∧ H d = some (exd d [("why", v)])
  | _, _, 0, _, .cons a b r, rfl => ⟨_, _, rfl, a, b⟩
  | _, _, j + 1, D, .cons a b r, e => r.get j D e
def cl6 (T : Tx K mg) : List Addr := [T.C_PearlError, T.C_BadBead, T.C_BadRule, T.C_BadLot, T.C_BadDeed, T.C_NoRow]
theorem kd6 (T : Tx K mg) (j : Nat) (D : Addr) (e : (cl6 T)[j]? = some D) : Kd T D j [true, false, false, false, false] := by
  exact match j, e with
    | 0, rfl => kd_PearlError T
    | 1, rfl => kd_BadBead T
    | 2, rfl => kd_BadRule T
    | 3, rfl => kd_BadLot T
    | 4, rfl => kd_BadDeed T
    | 5, rfl => kd_NoRow T
    | _ + 6, e => nomatch e
theorem nf6 (T : Tx K mg) (j : Nat) (D : Addr) (e : (cl6 T)[j]? = some D) : PySem.W.findIn K (.ref D) "why" = some none := by
  exact match j, e with
    | 0, rfl => T.nf_PearlError_why
    | 1, rfl => T.nf_BadBead_why
    | 2, rfl => T.nf_BadRule_why
    | 3, rfl => T.nf_BadLot_why
    | 4, rfl => T.nf_BadDeed_why
    | 5, rfl => T.nf_NoRow_why
    | _ + 6, e => nomatch e
def spPlain : Sp := fun vs H Q _ => ∃ r : Str, vs = [.str r] ∧ ∀ H', Same H H' → Q (.bl true) H'
theorem ok_plain_right (T : Tx K mg) : FnOk P w K mg base CX0 3 T.A_plain_right T.fd_plain_right ["_law_reason"] (spPlain) := by
  refine T.F_plain_right.ok sc_plain_right (fun vs H Q E h => ?_) (fun cdv A outer s H vs Q E hr h => ?_)
  · obtain ⟨r, rfl, q⟩ := h
    rfl
  obtain ⟨r, rfl, q⟩ := h
  refine ⟨_, (pss_cons (ps_set (i := 1) sc_plain_right.nd rfl (Or.inl rfl) (pe_lst (pa_cons (pe_gexV PySem.F.excBase_ValueError T.ox_PearlError T.in_PearlError T.ti_PearlError (ok_PearlError_init T) (hr.mono (by decide)) T.b_PearlError_init .nil pass0 (by rfl) T.g_PearlError (pa_cons (pv 0) pa_nil)) (pa_cons (pe_gexV PySem.F.excBase_ValueError T.ox_BadBead T.in_BadBead T.ti_BadBead (ok_PearlError_init T) (hr.mono (by decide)) T.b_PearlError_init .nil pass0 (by rfl) T.g_BadBead (pa_cons (pv 0) pa_nil)) (pa_cons (pe_gexV PySem.F.excBase_ValueError T.ox_BadRule T.in_BadRule T.ti_BadRule (ok_PearlError_init T) (hr.mono (by decide)) T.b_PearlError_init .nil pass0 (by rfl) T.g_BadRule (pa_cons (pv 0) pa_nil)) (pa_cons (pe_gexV PySem.F.excBase_ValueError T.ox_BadLot T.in_BadLot T.ti_BadLot (ok_PearlError_init T) (hr.mono (by decide)) T.b_PearlError_init .nil pass0 (by rfl) T.g_BadLot (pa_cons (pv 0) pa_nil)) pa_nil))))))
      (pss_cons (ps_set (i := 1) sc_plain_right.nd rfl (Or.inl rfl) (pe_op op_cat (pv 1) (pe_lst (pa_cons (pe_gexV PySem.F.excBase_ValueError T.ox_BadDeed T.in_BadDeed T.ti_BadDeed (ok_PearlError_init T) (hr.mono (by decide)) T.b_PearlError_init .nil pass0 (by rfl) T.g_BadDeed (pa_cons (pv 0) pa_nil)) (pa_cons (pe_gexV PySem.F.excBase_ValueError T.ox_NoRow T.in_NoRow T.ti_NoRow (ok_PearlError_init T) (hr.mono (by decide)) T.b_PearlError_init .nil pass0 (by rfl) T.g_NoRow (pa_cons (pv 0) pa_nil)) pa_nil)))))
      (pss_cons (ps_set (i := 2) sc_plain_right.nd rfl (Or.inl rfl) (pe_lst (pa_cons (pe_exVK PySem.F.excBase_ValueError T.ox_PearlError (by decide) (by decide) (by decide) T.in_PearlError T.ti_PearlError (ok_PearlError_init T) (hr.mono (by decide)) T.kb_p pass0 (by rfl) T.g_PearlError (pk_cons (pv 0) pk_nil)) (pa_cons (pe_exVK PySem.F.excBase_ValueError T.ox_BadBead (by decide) (by decide) (by decide) T.in_BadBead T.ti_BadBead (ok_PearlError_init T) (hr.mono (by decide)) T.kb_p pass0 (by rfl) T.g_BadBead (pk_cons (pv 0) pk_nil)) (pa_cons (pe_exVK PySem.F.excBase_ValueError T.ox_BadRule (by decide) (by decide) (by decide) T.in_BadRule T.ti_BadRule (ok_PearlError_init T) (hr.mono (by decide)) T.kb_p pass0 (by rfl) T.g_BadRule (pk_cons (pv 0) pk_nil)) (pa_cons (pe_exVK PySem.F.excBase_ValueError T.ox_BadLot (by decide) (by decide) (by decide) T.in_BadLot T.ti_BadLot (ok_PearlError_init T) (hr.mono (by decide)) T.kb_p pass0 (by rfl) T.g_BadLot (pk_cons (pv 0) pk_nil)) pa_nil))))))
      (pss_cons (ps_set (i := 2) sc_plain_right.nd rfl (Or.inl rfl) (pe_op op_cat (pv 2) (pe_lst (pa_cons (pe_exVK PySem.F.excBase_ValueError T.ox_BadDeed (by decide) (by decide) (by decide) T.in_BadDeed T.ti_BadDeed (ok_PearlError_init T) (hr.mono (by decide)) T.kb_p pass0 (by rfl) T.g_BadDeed (pk_cons (pv 0) pk_nil)) (pa_cons (pe_exVK PySem.F.excBase_ValueError T.ox_NoRow (by decide) (by decide) (by decide) T.in_NoRow T.ti_NoRow (ok_PearlError_init T) (hr.mono (by decide)) T.kb_p pass0 (by rfl) T.g_NoRow (pk_cons (pv 0) pk_nil)) pa_nil)))))
      (pss_cons (ps_set (i := 3) sc_plain_right.nd rfl (Or.inl rfl) (pe_lst (pa_cons (pe_exV0 PySem.F.excBase_ValueError T.ox_PearlError (by decide) (by decide) (by decide) T.in_PearlError T.ti_PearlError (ok_PearlError_init T) (hr.mono (by decide)) T.bd0_PearlError_init T.hd0_PearlError_init pass0 (by rfl) T.g_PearlError) (pa_cons (pe_exV0 PySem.F.excBase_ValueError T.ox_BadBead (by decide) (by decide) (by decide) T.in_BadBead T.ti_BadBead (ok_PearlError_init T) (hr.mono (by decide)) T.bd0_PearlError_init T.hd0_PearlError_init pass0 (by rfl) T.g_BadBead) (pa_cons (pe_exV0 PySem.F.excBase_ValueError T.ox_BadRule (by decide) (by decide) (by decide) T.in_BadRule T.ti_BadRule (ok_PearlError_init T) (hr.mono (by decide)) T.bd0_PearlError_init T.hd0_PearlError_init pass0 (by rfl) T.g_BadRule) (pa_cons (pe_exV0 PySem.F.excBase_ValueError T.ox_BadLot (by decide) (by decide) (by decide) T.in_BadLot T.ti_BadLot (ok_PearlError_init T) (hr.mono (by decide)) T.bd0_PearlError_init T.hd0_PearlError_init pass0 (by rfl) T.g_BadLot) (pa_cons (pe_exV0 PySem.F.excBase_ValueError T.ox_BadDeed (by decide) (by decide) (by decide) T.in_BadDeed T.ti_BadDeed (ok_PearlError_init T) (hr.mono (by decide)) T.bd0_PearlError_init T.hd0_PearlError_init pass0 (by rfl) T.g_BadDeed) (pa_cons (pe_exV0 PySem.F.excBase_ValueError T.ox_NoRow (by decide) (by decide) (by decide) T.in_NoRow T.ti_NoRow (ok_PearlError_init T) (hr.mono (by decide)) T.bd0_PearlError_init T.hd0_PearlError_init pass0 (by rfl) T.g_NoRow) pa_nil))))))))
      (pss_cons (ps_for PassesOwn.never rfl (pi_range1 (by rfl) T.z_range (pa_cons pe_int pa_nil)) (pg_name (i := 4) sc_plain_right.nd rfl (Or.inl rfl))
        (pss_cons (ps_if (PW.pt (pw_or (pt_cmpR op_ne (pe_xv (pe_ix ix_list (pv 1) (pv 4) (fun _ _ => rfl))) (pv 0) (nomark _)) (pw_or1 (pt_cmpR op_ne (pe_xv (pe_ix ix_list (pv 2) (pv 4) (fun _ _ => rfl))) (pv 0) (nomark _))))) (pss_one (ps_ret pe_bl)) pss_nil)
      (pss_cons (ps_if (pt_not (pt_val (pe_callB call_isi (by rfl) T.z_isinstance (by decide +kernel) (pa_cons (pe_xv (pe_ix ix_list (pv 3) (pv 4) (fun _ _ => rfl))) (pa_cons (pe_bltn (v := .ty "str") (by rfl) T.z_str (by decide +kernel) rfl) pa_nil))))) (pss_one (ps_ret pe_bl)) pss_nil)
      (pss_one (ps_for PassesOwn.never rfl (pi_list (pe_lst (pa_cons (pe_ix ix_list (pv 1) (pv 4) (fun _ _ => rfl)) (pa_cons (pe_ix ix_list (pv 2) (pv 4) (fun _ _ => rfl)) (pa_cons (pe_ix ix_list (pv 3) (pv 4) (fun _ _ => rfl)) pa_nil))))) (pg_name (i := 5) sc_plain_right.nd rfl (Or.inl rfl))
        (pss_one (ps_if (pt_not (pt_val (pe_call (ok_is_of T) (hr.mono (by decide)) (by rfl) T.g_is_of T.F_is_of.kp T.b_is_of .nil pass0 (pa_cons (pv 5) (pa_cons (pv 4) (pa_cons (pe_lst (pa_cons pe_int pa_nil)) pa_nil)))))) (pss_one (ps_ret pe_bl)) pss_nil)))))))
      (pss_one (ps_ret pe_bl)))))))), ?_⟩
  have h1 : 1 ≤ 1000 := by decide
  refine ⟨_, rfl, h1, mk1 T.ox_PearlError T.nf_PearlError_why fun H1 a1 d1 s1 f1 ea1 ed1 => ?_⟩
  refine ⟨_, rfl, h1, mk1 T.ox_BadBead T.nf_BadBead_why fun H2 a2 d2 s2 f2 ea2 ed2 => ?_⟩
  refine ⟨_, rfl, h1, mk1 T.ox_BadRule T.nf_BadRule_why fun H3 a3 d3 s3 f3 ea3 ed3 => ?_⟩
  refine ⟨_, rfl, h1, mk1 T.ox_BadLot T.nf_BadLot_why fun H4 a4 d4 s4 f4 ea4 ed4 => ?_⟩
  refine ⟨(by show 4 ≤ sizeLine; decide), fun l4 hl4 => ?_⟩
  have t4 := same_upd hl4 (o := .lst [.ref a1, .ref a2, .ref a3, .ref a4])
  have x4 : ExL _ (.str r) [.ref a1, .ref a2, .ref a3, .ref a4] [T.C_PearlError, T.C_BadBead, T.C_BadRule, T.C_BadLot] := .cons ((s2.trans (s3.trans (s4.trans t4))) _ _ ea1) ((s2.trans (s3.trans (s4.trans t4))) _ _ ed1) (.cons ((s3.trans (s4.trans t4)) _ _ ea2) ((s3.trans (s4.trans t4)) _ _ ed2) (.cons ((s4.trans t4) _ _ ea3) ((s4.trans t4) _ _ ed3) (.cons (t4 _ _ ea4) (t4 _ _ ed4) (.nil))))
  have u4 := (s1.trans (s2.trans (s3.trans (s4.trans t4))))
  refine ⟨_, rfl, ?_⟩
  refine ⟨_, rfl, h1, mk1 T.ox_BadDeed T.nf_BadDeed_why fun H5 a5 d5 s5 f5 ea5 ed5 => ?_⟩
  refine ⟨_, rfl, h1, mk1 T.ox_NoRow T.nf_NoRow_why fun H6 a6 d6 s6 f6 ea6 ed6 => ?_⟩
  refine ⟨(by show 2 ≤ sizeLine; decide), fun l6 hl6 => ?_⟩
  have t6 := same_upd hl6 (o := .lst [.ref a5, .ref a6])
  have x6 : ExL _ (.str r) [.ref a5, .ref a6] [T.C_BadDeed, T.C_NoRow] := .cons ((s6.trans t6) _ _ ea5) ((s6.trans t6) _ _ ed5) (.cons (t6 _ _ ea6) (t6 _ _ ed6) (.nil))
  have u6 := (s5.trans (s6.trans t6))
  refine ⟨l4, l6, _, _, rfl, rfl, u6 _ _ upd_same, upd_same, (by show 6 ≤ sizeLine; decide), fun p6 hp6 => ?_⟩
  have v6 := same_upd hp6 (o := .lst ([.ref a1, .ref a2, .ref a3, .ref a4] ++ [.ref a5, .ref a6]))
  have y6 := (x6.app (x4.mono u6)).mono v6
  have w6 := u4.trans (u6.trans v6)
  refine ⟨_, rfl, rfl, h1, mk1 T.ox_PearlError T.nf_PearlError_why fun H7 a7 d7 s7 f7 ea7 ed7 => ?_⟩
  refine ⟨_, rfl, rfl, h1, mk1 T.ox_BadBead T.nf_BadBead_why fun H8 a8 d8 s8 f8 ea8 ed8 => ?_⟩
  refine ⟨_, rfl, rfl, h1, mk1 T.ox_BadRule T.nf_BadRule_why fun H9 a9 d9 s9 f9 ea9 ed9 => ?_⟩
  refine ⟨_, rfl, rfl, h1, mk1 T.ox_BadLot T.nf_BadLot_why fun H10 a10 d10 s10 f10 ea10 ed10 => ?_⟩
  refine ⟨(by show 4 ≤ sizeLine; decide), fun l10 hl10 => ?_⟩
  have t10 := same_upd hl10 (o := .lst [.ref a7, .ref a8, .ref a9, .ref a10])
  have x10 : ExL _ (.str r) [.ref a7, .ref a8, .ref a9, .ref a10] [T.C_PearlError, T.C_BadBead, T.C_BadRule, T.C_BadLot] := .cons ((s8.trans (s9.trans (s10.trans t10))) _ _ ea7) ((s8.trans (s9.trans (s10.trans t10))) _ _ ed7) (.cons ((s9.trans (s10.trans t10)) _ _ ea8) ((s9.trans (s10.trans t10)) _ _ ed8) (.cons ((s10.trans t10) _ _ ea9) ((s10.trans t10) _ _ ed9) (.cons (t10 _ _ ea10) (t10 _ _ ed10) (.nil))))
  have u10 := (s7.trans (s8.trans (s9.trans (s10.trans t10))))
  refine ⟨_, rfl, ?_⟩
  refine ⟨_, rfl, rfl, h1, mk1 T.ox_BadDeed T.nf_BadDeed_why fun H11 a11 d11 s11 f11 ea11 ed11 => ?_⟩
  refine ⟨_, rfl, rfl, h1, mk1 T.ox_NoRow T.nf_NoRow_why fun H12 a12 d12 s12 f12 ea12 ed12 => ?_⟩
  refine ⟨(by show 2 ≤ sizeLine; decide), fun l12 hl12 => ?_⟩
  have t12 := same_upd hl12 (o := .lst [.ref a11, .ref a12])
  have x12 : ExL _ (.str r) [.ref a11, .ref a12] [T.C_BadDeed, T.C_NoRow] := .cons ((s12.trans t12) _ _ ea11) ((s12.trans t12) _ _ ed11) (.cons (t12 _ _ ea12) (t12 _ _ ed12) (.nil))
  have u12 := (s11.trans (s12.trans t12))
  refine ⟨l10, l12, _, _, rfl, rfl, u12 _ _ upd_same, upd_same, (by show 6 ≤ sizeLine; decide), fun p12 hp12 => ?_⟩
  have v12 := same_upd hp12 (o := .lst ([.ref a7, .ref a8, .ref a9, .ref a10] ++ [.ref a11, .ref a12]))
  have y12 := (x12.app (x10.mono u12)).mono v12
  have w12 := u10.trans (u12.trans v12)
  refine mk1 T.ox_PearlError T.nf_PearlError_why fun H13 a13 d13 s13 f13 ea13 ed13 => ?_
  refine mk1 T.ox_BadBead T.nf_BadBead_why fun H14 a14 d14 s14 f14 ea14 ed14 => ?_
  refine mk1 T.ox_BadRule T.nf_BadRule_why fun H15 a15 d15 s15 f15 ea15 ed15 => ?_
  refine mk1 T.ox_BadLot T.nf_BadLot_why fun H16 a16 d16 s16 f16 ea16 ed16 => ?_
  refine mk1 T.ox_BadDeed T.nf_BadDeed_why fun H17 a17 d17 s17 f17 ea17 ed17 => ?_
  refine mk1 T.ox_NoRow T.nf_NoRow_why fun H18 a18 d18 s18 f18 ea18 ed18 => ?_
  refine ⟨(by show 6 ≤ sizeLine; decide), fun l18 hl18 => ?_⟩
  have t18 := same_upd hl18 (o := .lst [.ref a13, .ref a14, .ref a15, .ref a16, .ref a17, .ref a18])
  have x18 : ExL _ (.str "") [.ref a13, .ref a14, .ref a15, .ref a16, .ref a17, .ref a18] [T.C_PearlError, T.C_BadBead, T.C_BadRule, T.C_BadLot, T.C_BadDeed, T.C_NoRow] := .cons ((s14.trans (s15.trans (s16.trans (s17.trans (s18.trans t18))))) _ _ ea13) ((s14.trans (s15.trans (s16.trans (s17.trans (s18.trans t18))))) _ _ ed13) (.cons ((s15.trans (s16.trans (s17.trans (s18.trans t18)))) _ _ ea14) ((s15.trans (s16.trans (s17.trans (s18.trans t18)))) _ _ ed14) (.cons ((s16.trans (s17.trans (s18.trans t18))) _ _ ea15) ((s16.trans (s17.trans (s18.trans t18))) _ _ ed15) (.cons ((s17.trans (s18.trans t18)) _ _ ea16) ((s17.trans (s18.trans t18)) _ _ ed16) (.cons ((s18.trans t18) _ _ ea17) ((s18.trans t18) _ _ ed17) (.cons (t18 _ _ ea18) (t18 _ _ ed18) (.nil))))))
  have u18 := (s13.trans (s14.trans (s15.trans (s16.trans (s17.trans (s18.trans t18))))))
  have z2 := w12.trans u18
  have z := w6.trans z2
  obtain ⟨xa, LA, EA⟩ : ∃ xs, (upd H18 l18 (.lst [.ref a13, .ref a14, .ref a15, .ref a16, .ref a17, .ref a18])) p6 = some (.lst xs) ∧ ExL (upd H18 l18 (.lst [.ref a13, .ref a14, .ref a15, .ref a16, .ref a17, .ref a18])) (.str r) xs (cl6 T) := ⟨_, z2 _ _ upd_same, y6.mono z2⟩
  obtain ⟨xb, LB, EB⟩ : ∃ xs, (upd H18 l18 (.lst [.ref a13, .ref a14, .ref a15, .ref a16, .ref a17, .ref a18])) p12 = some (.lst xs) ∧ ExL (upd H18 l18 (.lst [.ref a13, .ref a14, .ref a15, .ref a16, .ref a17, .ref a18])) (.str r) xs (cl6 T) := ⟨_, u18 _ _ upd_same, y12.mono u18⟩
  obtain ⟨xc, LC, EC⟩ : ∃ xs, (upd H18 l18 (.lst [.ref a13, .ref a14, .ref a15, .ref a16, .ref a17, .ref a18])) l18 = some (.lst xs) ∧ ExL (upd H18 l18 (.lst [.ref a13, .ref a14, .ref a15, .ref a16, .ref a17, .ref a18])) (.str "") xs (cl6 T) := ⟨_, upd_same, x18⟩
  generalize (upd H18 l18 (.lst [.ref a13, .ref a14, .ref a15, .ref a16, .ref a17, .ref a18])) = G at z LA EA LB EB LC EC ⊢
  refine ⟨6, rfl, by decide, by decide, for_range (lo := 0) (n := (6 : Int).toNat) (fun i σ H' => ∃ w4 w5, σ = [some (.str r), some (.ref p6), some (.ref p12), some (.ref l18), w4, w5] ∧ Same G H') ⟨_, _, rfl, Same.refl _⟩ ?_ ?_⟩
  · rintro i σ H' hi ⟨w4, w5, rfl, s⟩
    have hi : i < 6 := hi
    obtain ⟨D, hD⟩ : ∃ D, (cl6 T)[i]? = some D := ⟨_, List.getElem?_eq_getElem (by exact hi)⟩
    obtain ⟨a, da, ga, ea, fa⟩ := (EA.mono s).get i D hD
    obtain ⟨b, db, gb, eb, fb⟩ := (EB.mono s).get i D hD
    obtain ⟨c, dc, gc, ec, fc⟩ := (EC.mono s).get i D hD
    have k := kd6 T i D hD
    have xf : XfC K D := ⟨k.xc.hg, k.xc.hk, k.xc.hs, k.xc.hd⟩
    have nf := nf6 T i D hD
    have e0 : (0 + (i : Int)) = i := Int.zero_add _
    have at_ : ∀ {xs : List V} {v : V}, xs[i]? = some v → atI xs (0 + (i : Int)) = some v := fun g => by rw [e0]; exact atI_nat g
    have LA := s _ _ LA
    have LB := s _ _ LB
    have LC := s _ _ LC
    refine ⟨_, rfl, _, rfl, p6, _, _, _, rfl, rfl, SqL.of LA, at_ ga, a, D, da, _, _, rfl, ea, fa, xf, nf, rfl, _, rfl, rfl, _, rfl, ?_⟩
    have nn : (!decide (V.str r = V.str r)) = false := by rw [decide_eq_true rfl]; rfl
    rw [nn]
    refine iteF ⟨_, rfl, _, rfl, p12, _, _, _, rfl, rfl, SqL.of LB, at_ gb, b, D, db, _, _, rfl, eb, fb, xf, nf, rfl, _, rfl, rfl, _, rfl, ?_⟩
    rw [nn]
    refine iteF ⟨_, rfl, _, rfl, l18, _, _, _, rfl, rfl, SqL.of LC, at_ gc, c, D, dc, _, _, rfl, ec, fc, xf, nf, rfl, _, _, _, _, _, rfl, .ty _, .base (.str _), kit_ty (r := true) (by decide +kernel), _, rfl, iteF ?_⟩
    refine ⟨_, rfl, _, rfl, p6, _, _, _, rfl, rfl, SqL.of LA, at_ ga, _, rfl, _, rfl, p12, _, _, _, rfl, rfl, SqL.of LB, at_ gb, _, rfl, _, rfl, l18, _, _, _, rfl, rfl, SqL.of LC, at_ gc, (by show 3 ≤ sizeLine; decide), fun l hl => ?_⟩
    have sl := same_upd hl (o := .lst [V.ref a, .ref b, .ref c])
    refine ⟨l, rfl, ⟨_, SqL.of upd_same⟩, for_list (K := K) (a := l) (xs := [V.ref a, .ref b, .ref c]) (fun j σ H4 => ∃ w5, σ = [some (.str r), some (.ref p6), some (.ref p12), some (.ref l18), some (.int (0 + (i : Int))), w5] ∧ Same (upd H' l (.lst [V.ref a, .ref b, .ref c])) H4) ⟨_, rfl, Same.refl _⟩ (fun j σ H4 _ h => ?_) ?_ ?_⟩
    · obtain ⟨_, _, s4⟩ := h
      exact SqL.of (s4 _ _ upd_same)
    · rintro j x σ H4 hj ⟨w5, rfl, s4⟩
      have s5 := sl.trans s4
      obtain ⟨e, d, v, rfl, he, hd⟩ : ∃ e d v, x = .ref e ∧ H4 e = some (exo e D (some d)) ∧ H4 d = some (exd d [("why", v)]) := by
        match j, hj with
        | 0, rfl => exact ⟨_, _, _, rfl, s5 _ _ ea, s5 _ _ fa⟩
        | 1, rfl => exact ⟨_, _, _, rfl, s5 _ _ eb, s5 _ _ fb⟩
        | 2, rfl => exact ⟨_, _, _, rfl, s5 _ _ ec, s5 _ _ fc⟩
        | _ + 3, h => cases h
      refine ⟨_, rfl, _, rfl, (by show 1 ≤ sizeLine; decide), fun q1 h1 => ?_⟩
      have s6 := same_upd h1 (o := .lst [V.int 0])
      refine ⟨e, D, d, q1, _, i, _, by rw [e0]; rfl, s6 _ _ he, s6 _ _ hd, k, upd_same, fun H5 s7 => ⟨_, rfl, iteF ?_⟩⟩
      exact ⟨_, rfl, s4.trans (s6.trans s7)⟩
    · rintro σ H4 ⟨w5, rfl, s4⟩
      exact ⟨_, _, rfl, s.trans (sl.trans s4)⟩
  · rintro σ H' ⟨w4, w5, rfl, s⟩
    exact q _ (z.trans s)
end
end KB
namespace KB
open PySem PySem.Spec PyProof.Rows L2 KA
section
variable {P : Program} {w : World} {K : PySem.W.Frag} {mg : Str → Option Value} {base : Heap}
mutual
theorem dp_ext {H H' : Hp} (s : Same H H') : ∀ {v : V} {d : PyData}, Dp K H v d → Dp K H' v d
  | _, _, .non => .non
  | _, _, .bl b => .bl b
  | _, _, .int b => .int b
  | _, _, .str b => .str b
  | _, _, .lst h r => .lst (s.seq h) (dpAll_ext s r)
  | _, _, .tup h r => .tup (SqT.ext h s) (dpAll_ext s r)
theorem dpAll_ext {H H' : Hp} (s : Same H H') : ∀ {v : List V} {d : List PyData}, DpAll K H v d → DpAll K H' v d
  | _, _, .nil => .nil
  | _, _, .cons a b => .cons (dp_ext s a) (dpAll_ext s b)
end
def spFields (K : PySem.W.Frag) : Sp := fun vs H Q _ => ∃ (n : Int) (r : Str) (lab hom : V) (dl dh : PyData), vs = [.int n, .str r, lab, hom] ∧ Dp K H lab dl ∧ Dp K H hom dh ∧
  SeqAt.shaped (.tuple [.int n, .str r]) = true ∧ SeqAt.shaped (.tuple [.str r, dl]) = true ∧ SeqAt.shaped (.tuple [.int n, dh]) = true ∧ ∀ H', Same H H' → Q (.bl true) H'
theorem ok_fields_right (T : Tx K mg) : FnOk P w K mg base CX0 4 T.A_fields_right T.fd_fields_right ["_law_spot", "_law_reason", "_law_label", "_law_home"] (spFields K) := by
  refine T.F_fields_right.ok sc_fields_right (fun vs H Q E h => ?_) (fun cdv A outer s H vs Q E hr h => ?_)
  · obtain ⟨n, r, lab, hom, dl, dh, rfl, hlab, hhom, shA, shB, shC, q⟩ := h
    rfl
  obtain ⟨n, r, lab, hom, dl, dh, rfl, hlab, hhom, shA, shB, shC, q⟩ := h
  refine ⟨_, (pss_cons (ps_set (i := 4) sc_fields_right.nd rfl (Or.inl rfl) (pe_lst (pa_cons (pe_gexV PySem.F.excBase_ValueError T.ox_NotLet T.in_NotLet T.ti_NotLet (ok_NotLet_init T) (hr.mono (by decide)) T.b_NotLet_init .nil pass0 (by rfl) T.g_NotLet (pa_cons (pv 0) (pa_cons (pv 1) pa_nil))) (pa_cons (pe_exVK PySem.F.excBase_ValueError T.ox_NotLet (by decide) (by decide) (by decide) T.in_NotLet T.ti_NotLet (ok_NotLet_init T) (hr.mono (by decide)) T.kb_n pass0 (by rfl) T.g_NotLet (pk_cons (pv 1) (pk_cons (pv 0) pk_nil))) pa_nil))))
      (pss_cons (ps_if (pt_cmpR (op_neD hr.units) (pe_lc (own := [("_law_e", 5)]) (g := gName 5) (tt := _) rfl sc_fields_right.nd (pi_list (pv 4)) (blkOk_by (N := ["_law_spot", "_law_reason", "_law_label", "_law_home", "_law_some", "_law_e"]) (sc := defScope s_fields_right) (by decide +kernel)) (fun _ _ _ _ _ => (pg_name (i := 5) sc_fields_right.nd rfl (Or.inl rfl))) (fun _ _ _ _ _ => (pts_one (PW.pt (pw_or (pt_cmpR (op_neDK (K' := K) rfl hr.units) (pe_tup (pa_cons (pe_xvK (K' := K) rfl (pv 5)) (pa_cons (pe_xvK (K' := K) rfl (pv 5)) pa_nil))) (pe_tup (pa_cons (pv 0) (pa_cons (pv 1) pa_nil))) (nomark _)) (pw_or1 (pt_not (pt_val (pe_call (ok_is_of T) (hr.mono (by decide)) (by rfl) T.g_is_of T.F_is_of.kp T.b_is_of .nil pass0 (pa_cons (pv 5) (pa_cons pe_int (pa_cons (pe_lst (pa_cons pe_int pa_nil)) pa_nil))))))))))) (fun _ _ _ _ _ => (pv 5))) (pe_lst pa_nil) (nomark _)) (pss_one (ps_ret pe_bl)) pss_nil)
      (pss_cons (ps_set (i := 4) sc_fields_right.nd rfl (Or.inl rfl) (pe_lst (pa_cons (pe_gexV PySem.F.excBase_ValueError T.ox_TooLate T.in_TooLate T.ti_TooLate (ok_TooLate_init T) (hr.mono (by decide)) T.b_TooLate_init .nil pass0 (by rfl) T.g_TooLate (pa_cons (pv 0) pa_nil)) (pa_cons (pe_exVK PySem.F.excBase_ValueError T.ox_TooLate (by decide) (by decide) (by decide) T.in_TooLate T.ti_TooLate (ok_TooLate_init T) (hr.mono (by decide)) T.kb_t pass0 (by rfl) T.g_TooLate (pk_cons (pv 0) pk_nil)) pa_nil))))
      (pss_cons (ps_if (pt_cmpR (op_neD hr.units) (pe_lc (own := [("_law_e", 5)]) (g := gName 5) (tt := _) rfl sc_fields_right.nd (pi_list (pv 4)) (blkOk_by (N := ["_law_spot", "_law_reason", "_law_label", "_law_home", "_law_some", "_law_e"]) (sc := defScope s_fields_right) (by decide +kernel)) (fun _ _ _ _ _ => (pg_name (i := 5) sc_fields_right.nd rfl (Or.inl rfl))) (fun _ _ _ _ _ => (pts_one (PW.pt (pw_or (pt_cmpR op_ne (pe_xvK (K' := K) rfl (pv 5)) (pv 0) (nomark _)) (pw_or1 (pt_not (pt_val (pe_call (ok_is_of T) (hr.mono (by decide)) (by rfl) T.g_is_of T.F_is_of.kp T.b_is_of .nil pass0 (pa_cons (pv 5) (pa_cons pe_int (pa_cons (pe_lst (pa_cons pe_int pa_nil)) pa_nil))))))))))) (fun _ _ _ _ _ => (pv 5))) (pe_lst pa_nil) (nomark _)) (pss_one (ps_ret pe_bl)) pss_nil)
      (pss_cons (ps_set (i := 4) sc_fields_right.nd rfl (Or.inl rfl) (pe_lst (pa_cons (pe_gexV PySem.F.excBase_ValueError T.ox_BadText T.in_BadText T.ti_BadText (ok_BadText_init T) (hr.mono (by decide)) T.b_BadText_init .nil pass0 (by rfl) T.g_BadText (pa_cons (pv 0) pa_nil)) (pa_cons (pe_exVK PySem.F.excBase_ValueError T.ox_BadText (by decide) (by decide) (by decide) T.in_BadText T.ti_BadText (ok_BadText_init T) (hr.mono (by decide)) T.kb_b pass0 (by rfl) T.g_BadText (pk_cons (pv 0) pk_nil)) pa_nil))))
      (pss_cons (ps_if (pt_cmpR (op_neD hr.units) (pe_lc (own := [("_law_e", 5)]) (g := gName 5) (tt := _) rfl sc_fields_right.nd (pi_list (pv 4)) (blkOk_by (N := ["_law_spot", "_law_reason", "_law_label", "_law_home", "_law_some", "_law_e"]) (sc := defScope s_fields_right) (by decide +kernel)) (fun _ _ _ _ _ => (pg_name (i := 5) sc_fields_right.nd rfl (Or.inl rfl))) (fun _ _ _ _ _ => (pts_one (PW.pt (pw_or (pt_cmpR op_ne (pe_xvK (K' := K) rfl (pv 5)) (pv 0) (nomark _)) (pw_or1 (pt_not (pt_val (pe_call (ok_is_of T) (hr.mono (by decide)) (by rfl) T.g_is_of T.F_is_of.kp T.b_is_of .nil pass0 (pa_cons (pv 5) (pa_cons pe_int (pa_cons (pe_lst (pa_cons pe_int pa_nil)) pa_nil))))))))))) (fun _ _ _ _ _ => (pv 5))) (pe_lst pa_nil) (nomark _)) (pss_one (ps_ret pe_bl)) pss_nil)
      (pss_cons (ps_set (i := 4) sc_fields_right.nd rfl (Or.inl rfl) (pe_lst (pa_cons (pe_gexV PySem.F.excBase_LookupError T.ox_NoSuch T.in_NoSuch T.ti_NoSuch (ok_NoSuch_init T) (hr.mono (by decide)) T.b_NoSuch_init .nil pass0 (by rfl) T.g_NoSuch (pa_cons (pv 1) (pa_cons (pv 2) pa_nil))) (pa_cons (pe_exVK PySem.F.excBase_LookupError T.ox_NoSuch (by decide) (by decide) (by decide) T.in_NoSuch T.ti_NoSuch (ok_NoSuch_init T) (hr.mono (by decide)) T.kb_s pass0 (by rfl) T.g_NoSuch (pk_cons (pv 2) (pk_cons (pv 1) pk_nil))) pa_nil))))
      (pss_cons (ps_if (pt_cmpR (op_neD hr.units) (pe_lc (own := [("_law_e", 5)]) (g := gName 5) (tt := _) rfl sc_fields_right.nd (pi_list (pv 4)) (blkOk_by (N := ["_law_spot", "_law_reason", "_law_label", "_law_home", "_law_some", "_law_e"]) (sc := defScope s_fields_right) (by decide +kernel)) (fun _ _ _ _ _ => (pg_name (i := 5) sc_fields_right.nd rfl (Or.inl rfl))) (fun _ _ _ _ _ => (pts_one (PW.pt (pw_or (pt_cmpR (op_neDK (K' := K) rfl hr.units) (pe_tup (pa_cons (pe_xvK (K' := K) rfl (pv 5)) (pa_cons (pe_xvK (K' := K) rfl (pv 5)) pa_nil))) (pe_tup (pa_cons (pv 1) (pa_cons (pv 2) pa_nil))) (nomark _)) (pw_or1 (pt_not (pt_val (pe_call (ok_is_of T) (hr.mono (by decide)) (by rfl) T.g_is_of T.F_is_of.kp T.b_is_of .nil pass0 (pa_cons (pv 5) (pa_cons pe_int (pa_cons (pe_lst (pa_cons pe_int pa_nil)) pa_nil))))))))))) (fun _ _ _ _ _ => (pv 5))) (pe_lst pa_nil) (nomark _)) (pss_one (ps_ret pe_bl)) pss_nil)
      (pss_cons (ps_set (i := 4) sc_fields_right.nd rfl (Or.inl rfl) (pe_lst (pa_cons (pe_gexV PySem.F.excBase_IndexError T.ox_NoPlace T.in_NoPlace T.ti_NoPlace (ok_NoPlace_init T) (hr.mono (by decide)) T.b_NoPlace_init .nil pass0 (by rfl) T.g_NoPlace (pa_cons (pv 0) pa_nil)) (pa_cons (pe_exVK PySem.F.excBase_IndexError T.ox_NoPlace (by decide) (by decide) (by decide) T.in_NoPlace T.ti_NoPlace (ok_NoPlace_init T) (hr.mono (by decide)) T.kb_l pass0 (by rfl) T.g_NoPlace (pk_cons (pv 0) pk_nil)) pa_nil))))
      (pss_cons (ps_if (pt_cmpR (op_neD hr.units) (pe_lc (own := [("_law_e", 5)]) (g := gName 5) (tt := _) rfl sc_fields_right.nd (pi_list (pv 4)) (blkOk_by (N := ["_law_spot", "_law_reason", "_law_label", "_law_home", "_law_some", "_law_e"]) (sc := defScope s_fields_right) (by decide +kernel)) (fun _ _ _ _ _ => (pg_name (i := 5) sc_fields_right.nd rfl (Or.inl rfl))) (fun _ _ _ _ _ => (pts_one (PW.pt (pw_or (pt_cmpR op_ne (pe_xvK (K' := K) rfl (pv 5)) (pv 0) (nomark _)) (pw_or1 (pt_not (pt_val (pe_call (ok_is_of T) (hr.mono (by decide)) (by rfl) T.g_is_of T.F_is_of.kp T.b_is_of .nil pass0 (pa_cons (pv 5) (pa_cons pe_int (pa_cons (pe_lst (pa_cons pe_int (pa_cons pe_int pa_nil))) pa_nil))))))))))) (fun _ _ _ _ _ => (pv 5))) (pe_lst pa_nil) (nomark _)) (pss_one (ps_ret pe_bl)) pss_nil)
      (pss_cons (ps_set (i := 4) sc_fields_right.nd rfl (Or.inl rfl) (pe_lst (pa_cons (pe_kexV T.ox_Elsewhere T.in_Elsewhere T.ti_Elsewhere (ok_Elsewhere_init T) (hr.mono (by decide)) T.b_Elsewhere_init .nil pass0 (by rfl) T.g_Elsewhere (pa_cons (pv 0) (pa_cons (pv 3) pa_nil))) (pa_cons (pe_exVK PySem.F.excBase_LookupError T.ox_Elsewhere (by decide) (by decide) (by decide) T.in_Elsewhere T.ti_Elsewhere (ok_Elsewhere_init T) (hr.mono (by decide)) T.kb_e pass0 (by rfl) T.g_Elsewhere (pk_cons (pv 3) (pk_cons (pv 0) pk_nil))) pa_nil))))
      (pss_cons (ps_if (pt_cmpR (op_neD hr.units) (pe_lc (own := [("_law_e", 5)]) (g := gName 5) (tt := _) rfl sc_fields_right.nd (pi_list (pv 4)) (blkOk_by (N := ["_law_spot", "_law_reason", "_law_label", "_law_home", "_law_some", "_law_e"]) (sc := defScope s_fields_right) (by decide +kernel)) (fun _ _ _ _ _ => (pg_name (i := 5) sc_fields_right.nd rfl (Or.inl rfl))) (fun _ _ _ _ _ => (pts_one (PW.pt (pw_or (pt_cmpR (op_neDK (K' := K) rfl hr.units) (pe_tup (pa_cons (pe_xvK (K' := K) rfl (pv 5)) (pa_cons (pe_xvK (K' := K) rfl (pv 5)) pa_nil))) (pe_tup (pa_cons (pv 0) (pa_cons (pv 3) pa_nil))) (nomark _)) (pw_or1 (pt_not (pt_val (pe_call (ok_is_of T) (hr.mono (by decide)) (by rfl) T.g_is_of T.F_is_of.kp T.b_is_of .nil pass0 (pa_cons (pv 5) (pa_cons pe_int (pa_cons (pe_lst (pa_cons pe_int (pa_cons pe_int pa_nil))) pa_nil))))))))))) (fun _ _ _ _ _ => (pv 5))) (pe_lst pa_nil) (nomark _)) (pss_one (ps_ret pe_bl)) pss_nil)
      (pss_cons (ps_set (i := 4) sc_fields_right.nd rfl (Or.inl rfl) (pe_lst (pa_cons (pe_kexV T.ox_Known T.in_Known T.ti_Known (ok_Known_init T) (hr.mono (by decide)) T.b_Known_init .nil pass0 (by rfl) T.g_Known (pa_cons (pv 1) (pa_cons (pv 2) pa_nil))) (pa_cons (pe_exVK PySem.F.excBase_LookupError T.ox_Known (by decide) (by decide) (by decide) T.in_Known T.ti_Known (ok_Known_init T) (hr.mono (by decide)) T.kb_k pass0 (by rfl) T.g_Known (pk_cons (pv 2) (pk_cons (pv 1) pk_nil))) pa_nil))))
      (pss_cons (ps_if (pt_cmpR (op_neD hr.units) (pe_lc (own := [("_law_e", 5)]) (g := gName 5) (tt := _) rfl sc_fields_right.nd (pi_list (pv 4)) (blkOk_by (N := ["_law_spot", "_law_reason", "_law_label", "_law_home", "_law_some", "_law_e"]) (sc := defScope s_fields_right) (by decide +kernel)) (fun _ _ _ _ _ => (pg_name (i := 5) sc_fields_right.nd rfl (Or.inl rfl))) (fun _ _ _ _ _ => (pts_one (PW.pt (pw_or (pt_cmpR (op_neDK (K' := K) rfl hr.units) (pe_tup (pa_cons (pe_xvK (K' := K) rfl (pv 5)) (pa_cons (pe_xvK (K' := K) rfl (pv 5)) pa_nil))) (pe_tup (pa_cons (pv 1) (pa_cons (pv 2) pa_nil))) (nomark _)) (pw_or1 (pt_not (pt_val (pe_call (ok_is_of T) (hr.mono (by decide)) (by rfl) T.g_is_of T.F_is_of.kp T.b_is_of .nil pass0 (pa_cons (pv 5) (pa_cons pe_int (pa_cons (pe_lst (pa_cons pe_int (pa_cons pe_int pa_nil))) pa_nil))))))))))) (fun _ _ _ _ _ => (pv 5))) (pe_lst pa_nil) (nomark _)) (pss_one (ps_ret pe_bl)) pss_nil)
      (pss_cons (ps_set (i := 4) sc_fields_right.nd rfl (Or.inl rfl) (pe_lst (pa_cons (pe_gexV PySem.F.excBase_ZeroDivisionError T.ox_NoShare T.in_NoShare T.ti_NoShare (ok_NoShare_init T) (hr.mono (by decide)) T.b_NoShare_init .nil pass0 (by rfl) T.g_NoShare (pa_cons (pv 0) pa_nil)) (pa_cons (pe_exVK PySem.F.excBase_ZeroDivisionError T.ox_NoShare (by decide) (by decide) (by decide) T.in_NoShare T.ti_NoShare (ok_NoShare_init T) (hr.mono (by decide)) T.kb_h pass0 (by rfl) T.g_NoShare (pk_cons (pv 0) pk_nil)) pa_nil))))
      (pss_one (ps_ret (pe_cmpR (op_eqD hr.units) (pe_lc (own := [("_law_e", 5)]) (g := gName 5) (tt := _) rfl sc_fields_right.nd (pi_list (pv 4)) (blkOk_by (N := ["_law_spot", "_law_reason", "_law_label", "_law_home", "_law_some", "_law_e"]) (sc := defScope s_fields_right) (by decide +kernel)) (fun _ _ _ _ _ => (pg_name (i := 5) sc_fields_right.nd rfl (Or.inl rfl))) (fun _ _ _ _ _ => (pts_one (PW.pt (pw_or (pt_cmpR op_ne (pe_xvK (K' := K) rfl (pv 5)) (pv 0) (nomark _)) (pw_or1 (pt_not (pt_val (pe_call (ok_is_of T) (hr.mono (by decide)) (by rfl) T.g_is_of T.F_is_of.kp T.b_is_of .nil pass0 (pa_cons (pv 5) (pa_cons pe_int (pa_cons (pe_lst (pa_cons pe_int pa_nil)) pa_nil))))))))))) (fun _ _ _ _ _ => (pv 5))) (pe_lst pa_nil) (nomark _))))))))))))))))))), ?_⟩
  have nn : (!decide (V.int n = V.int n)) = false := by rw [decide_eq_true rfl]; rfl
  refine ⟨_, rfl, _, rfl, (by show 2 ≤ 1000; decide), mkN T.ox_NotLet T.nf_NotLet_at T.nf_NotLet_why fun H1 a1 d1 s1 f1 ea1 ed1 => ?_⟩
  refine ⟨_, rfl, _, rfl, rfl, (by show 2 ≤ 1000; decide), mkN T.ox_NotLet T.nf_NotLet_at T.nf_NotLet_why fun H2 a2 d2 s2 f2 ea2 ed2 => ?_⟩
  refine ⟨(by show 2 ≤ sizeLine; decide), fun l2 hl2 => ?_⟩
  have t2 := same_upd hl2 (o := .lst [V.ref a1, .ref a2])
  have el2 : (upd H2 l2 (.lst [V.ref a1, .ref a2])) l2 = some (.lst [V.ref a1, .ref a2]) := upd_same
  replace ea1 := (s2.trans t2) _ _ ea1
  replace ed1 := (s2.trans t2) _ _ ed1
  replace ea2 := t2 _ _ ea2
  replace ed2 := t2 _ _ ed2
  have z2 := (s1.trans (s2.trans t2))
  generalize upd H2 l2 (.lst [V.ref a1, .ref a2]) = G2 at ea1 ed1 ea2 ed2 el2 z2 ⊢
  clear t2 f1 f2 hl2 s2 s1
  have k := kd_NotLet T
  have xf : XfC K T.C_NotLet := ⟨k.xc.hg, k.xc.hk, k.xc.hs, k.xc.hd⟩
  refine ⟨_, rfl, l2, rfl, ⟨_, SqL.of el2⟩, fun D hD => lc_someX (K := K) (a := l2) hD (SqL.of el2) (by show 2 ≤ 10000; decide) (fun _ => false) (fun _ => .non) ?_ ?_⟩
  · intro i v J R C hi sJ hR hC
    obtain ⟨e, d, rfl, he, hd⟩ : ∃ e d, v = .ref e ∧ J e = some (exo e T.C_NotLet (some d)) ∧ J d = some (exd d [("at", V.int n), ("why", V.str r)]) := by
      match i, hi with
      | 0, rfl => exact ⟨_, _, rfl, sJ _ _ ea1, sJ _ _ ed1⟩
      | 1, rfl => exact ⟨_, _, rfl, sJ _ _ ea2, sJ _ _ ed2⟩
      | _ + 2, h => cases h
    refine ⟨rfl, _, rfl, e, _, d, _, _, rfl, he, hd, xf, T.nf_NotLet_at, rfl, _, rfl, e, _, d, _, _, rfl, he, hd, xf, T.nf_NotLet_why, rfl, (by show 2 ≤ sizeLine; decide), fun t1 h1 => ⟨_, rfl, _, rfl, (by show 2 ≤ sizeLine; decide), fun t2 h2 => ?_⟩⟩
    have y1 := same_upd h1 (o := .tup [V.int n, V.str r])
    have y2 := same_upd h2 (o := .tup [V.int n, V.str r])
    have sx := y1.trans y2
    refine ⟨.tuple [.int n, .str r], .tuple [.int n, .str r], .tup (SqT.of (y2 _ _ upd_same)) (.cons (.int _) (.cons (.str _) (.nil))), .tup (SqT.of upd_same) (.cons (.int _) (.cons (.str _) (.nil))), shA, shA, _, rfl, ?_⟩
    rw [eqv_self shA]
    refine iteF ?_
    refine ⟨_, rfl, (by show 1 ≤ sizeLine; decide), fun q1 g1 => ?_⟩
    have y3 := same_upd g1 (o := .lst [V.int 0])
    exact ⟨e, _, d, q1, _, 6, _, rfl, y3 _ _ (sx _ _ he), y3 _ _ (sx _ _ hd), k, upd_same, fun H5 y4 => ⟨_, rfl, iteF (hC rfl _ ((sx.trans y3).trans y4))⟩⟩
  intro J2 sJ2 eD2
  replace eD2 : J2 D = some (.lst []) := by rw [eD2]; rfl
  refine ⟨(by show 0 ≤ sizeLine; decide), fun n2 hn2 => ?_⟩
  have y2 := same_upd hn2 (o := .lst [])
  refine ⟨.list [], .list [], .lst (SqL.of (y2 _ _ eD2)) .nil, .lst (SqL.of upd_same) .nil, rfl, rfl, _, rfl, iteF ?_⟩
  have Z2 := z2.trans (sJ2.trans y2)
  generalize upd J2 n2 (.lst []) = X2 at Z2 ⊢
  clear k xf ea1 ed1 ea2 ed2 el2 z2 eD2 sJ2 hD y2 hn2
  refine ⟨_, rfl, (by show 1 ≤ 1000; decide), mkW T.ox_TooLate T.nf_TooLate_at T.nf_TooLate_why fun H3 a3 d3 s3 f3 ea3 ed3 => ?_⟩
  refine ⟨_, rfl, rfl, (by show 1 ≤ 1000; decide), mkW T.ox_TooLate T.nf_TooLate_at T.nf_TooLate_why fun H4 a4 d4 s4 f4 ea4 ed4 => ?_⟩
  refine ⟨(by show 2 ≤ sizeLine; decide), fun l4 hl4 => ?_⟩
  have t4 := same_upd hl4 (o := .lst [V.ref a3, .ref a4])
  have el4 : (upd H4 l4 (.lst [V.ref a3, .ref a4])) l4 = some (.lst [V.ref a3, .ref a4]) := upd_same
  replace ea3 := (s4.trans t4) _ _ ea3
  replace ed3 := (s4.trans t4) _ _ ed3
  replace ea4 := t4 _ _ ea4
  replace ed4 := t4 _ _ ed4
  have z4 := Z2.trans (s3.trans (s4.trans t4))
  generalize upd H4 l4 (.lst [V.ref a3, .ref a4]) = G4 at ea3 ed3 ea4 ed4 el4 z4 ⊢
  clear t4 f3 f4 hl4 s4 s3
  have k := kd_TooLate T
  have xf : XfC K T.C_TooLate := ⟨k.xc.hg, k.xc.hk, k.xc.hs, k.xc.hd⟩
  refine ⟨_, rfl, l4, rfl, ⟨_, SqL.of el4⟩, fun D hD => lc_someX (K := K) (a := l4) hD (SqL.of el4) (by show 2 ≤ 10000; decide) (fun _ => false) (fun _ => .non) ?_ ?_⟩
  · intro i v J R C hi sJ hR hC
    obtain ⟨e, d, rfl, he, hd⟩ : ∃ e d, v = .ref e ∧ J e = some (exo e T.C_TooLate (some d)) ∧ J d = some (exd d [("at", V.int n), ("why", V.str "a deed that stands behind it would be refused")]) := by
      match i, hi with
      | 0, rfl => exact ⟨_, _, rfl, sJ _ _ ea3, sJ _ _ ed3⟩
      | 1, rfl => exact ⟨_, _, rfl, sJ _ _ ea4, sJ _ _ ed4⟩
      | _ + 2, h => cases h
    refine ⟨rfl, _, rfl, e, _, d, _, _, rfl, he, hd, xf, T.nf_TooLate_at, rfl, _, rfl, rfl, _, rfl, ?_⟩
    rw [nn]
    have sx := Same.refl J
    refine iteF ?_
    refine ⟨_, rfl, (by show 1 ≤ sizeLine; decide), fun q1 g1 => ?_⟩
    have y3 := same_upd g1 (o := .lst [V.int 0])
    exact ⟨e, _, d, q1, _, 7, _, rfl, y3 _ _ (sx _ _ he), y3 _ _ (sx _ _ hd), k, upd_same, fun H5 y4 => ⟨_, rfl, iteF (hC rfl _ ((sx.trans y3).trans y4))⟩⟩
  intro J4 sJ4 eD4
  replace eD4 : J4 D = some (.lst []) := by rw [eD4]; rfl
  refine ⟨(by show 0 ≤ sizeLine; decide), fun n4 hn4 => ?_⟩
  have y4 := same_upd hn4 (o := .lst [])
  refine ⟨.list [], .list [], .lst (SqL.of (y4 _ _ eD4)) .nil, .lst (SqL.of upd_same) .nil, rfl, rfl, _, rfl, iteF ?_⟩
  have Z4 := z4.trans (sJ4.trans y4)
  generalize upd J4 n4 (.lst []) = X4 at Z4 ⊢
  clear k xf ea3 ed3 ea4 ed4 el4 z4 eD4 sJ4 hD y4 hn4
  refine ⟨_, rfl, (by show 1 ≤ 1000; decide), mkW T.ox_BadText T.nf_BadText_line T.nf_BadText_why fun H5 a5 d5 s5 f5 ea5 ed5 => ?_⟩
  refine ⟨_, rfl, rfl, (by show 1 ≤ 1000; decide), mkW T.ox_BadText T.nf_BadText_line T.nf_BadText_why fun H6 a6 d6 s6 f6 ea6 ed6 => ?_⟩
  refine ⟨(by show 2 ≤ sizeLine; decide), fun l6 hl6 => ?_⟩
  have t6 := same_upd hl6 (o := .lst [V.ref a5, .ref a6])
  have el6 : (upd H6 l6 (.lst [V.ref a5, .ref a6])) l6 = some (.lst [V.ref a5, .ref a6]) := upd_same
  replace ea5 := (s6.trans t6) _ _ ea5
  replace ed5 := (s6.trans t6) _ _ ed5
  replace ea6 := t6 _ _ ea6
  replace ed6 := t6 _ _ ed6
  have z6 := Z4.trans (s5.trans (s6.trans t6))
  generalize upd H6 l6 (.lst [V.ref a5, .ref a6]) = G6 at ea5 ed5 ea6 ed6 el6 z6 ⊢
  clear t6 f5 f6 hl6 s6 s5
  have k := kd_BadText T
  have xf : XfC K T.C_BadText := ⟨k.xc.hg, k.xc.hk, k.xc.hs, k.xc.hd⟩
  refine ⟨_, rfl, l6, rfl, ⟨_, SqL.of el6⟩, fun D hD => lc_someX (K := K) (a := l6) hD (SqL.of el6) (by show 2 ≤ 10000; decide) (fun _ => false) (fun _ => .non) ?_ ?_⟩
  · intro i v J R C hi sJ hR hC
    obtain ⟨e, d, rfl, he, hd⟩ : ∃ e d, v = .ref e ∧ J e = some (exo e T.C_BadText (some d)) ∧ J d = some (exd d [("line", V.int n), ("why", V.str "a line can't be read")]) := by
      match i, hi with
      | 0, rfl => exact ⟨_, _, rfl, sJ _ _ ea5, sJ _ _ ed5⟩
      | 1, rfl => exact ⟨_, _, rfl, sJ _ _ ea6, sJ _ _ ed6⟩
      | _ + 2, h => cases h
    refine ⟨rfl, _, rfl, e, _, d, _, _, rfl, he, hd, xf, T.nf_BadText_line, rfl, _, rfl, rfl, _, rfl, ?_⟩
    rw [nn]
    have sx := Same.refl J
    refine iteF ?_
    refine ⟨_, rfl, (by show 1 ≤ sizeLine; decide), fun q1 g1 => ?_⟩
    have y3 := same_upd g1 (o := .lst [V.int 0])
    exact ⟨e, _, d, q1, _, 8, _, rfl, y3 _ _ (sx _ _ he), y3 _ _ (sx _ _ hd), k, upd_same, fun H5 y4 => ⟨_, rfl, iteF (hC rfl _ ((sx.trans y3).trans y4))⟩⟩
  intro J6 sJ6 eD6
  replace eD6 : J6 D = some (.lst []) := by rw [eD6]; rfl
  refine ⟨(by show 0 ≤ sizeLine; decide), fun n6 hn6 => ?_⟩
  have y6 := same_upd hn6 (o := .lst [])
  refine ⟨.list [], .list [], .lst (SqL.of (y6 _ _ eD6)) .nil, .lst (SqL.of upd_same) .nil, rfl, rfl, _, rfl, iteF ?_⟩
  have Z6 := z6.trans (sJ6.trans y6)
  generalize upd J6 n6 (.lst []) = X6 at Z6 ⊢
  clear k xf ea5 ed5 ea6 ed6 el6 z6 eD6 sJ6 hD y6 hn6
  refine ⟨_, rfl, _, rfl, (by show 2 ≤ 1000; decide), mk2 T.ox_NoSuch T.nf_NoSuch_kind T.nf_NoSuch_name fun H7 a7 d7 s7 f7 ea7 ed7 => ?_⟩
  refine ⟨_, rfl, _, rfl, rfl, (by show 2 ≤ 1000; decide), mk2 T.ox_NoSuch T.nf_NoSuch_kind T.nf_NoSuch_name fun H8 a8 d8 s8 f8 ea8 ed8 => ?_⟩
  refine ⟨(by show 2 ≤ sizeLine; decide), fun l8 hl8 => ?_⟩
  have t8 := same_upd hl8 (o := .lst [V.ref a7, .ref a8])
  have el8 : (upd H8 l8 (.lst [V.ref a7, .ref a8])) l8 = some (.lst [V.ref a7, .ref a8]) := upd_same
  replace ea7 := (s8.trans t8) _ _ ea7
  replace ed7 := (s8.trans t8) _ _ ed7
  replace ea8 := t8 _ _ ea8
  replace ed8 := t8 _ _ ed8
  have z8 := Z6.trans (s7.trans (s8.trans t8))
  generalize upd H8 l8 (.lst [V.ref a7, .ref a8]) = G8 at ea7 ed7 ea8 ed8 el8 z8 ⊢
  clear t8 f7 f8 hl8 s8 s7
  have k := kd_NoSuch T
  have xf : XfC K T.C_NoSuch := ⟨k.xc.hg, k.xc.hk, k.xc.hs, k.xc.hd⟩
  refine ⟨_, rfl, l8, rfl, ⟨_, SqL.of el8⟩, fun D hD => lc_someX (K := K) (a := l8) hD (SqL.of el8) (by show 2 ≤ 10000; decide) (fun _ => false) (fun _ => .non) ?_ ?_⟩
  · intro i v J R C hi sJ hR hC
    obtain ⟨e, d, rfl, he, hd⟩ : ∃ e d, v = .ref e ∧ J e = some (exo e T.C_NoSuch (some d)) ∧ J d = some (exd d [("name", lab), ("kind", V.str r)]) := by
      match i, hi with
      | 0, rfl => exact ⟨_, _, rfl, sJ _ _ ea7, sJ _ _ ed7⟩
      | 1, rfl => exact ⟨_, _, rfl, sJ _ _ ea8, sJ _ _ ed8⟩
      | _ + 2, h => cases h
    refine ⟨rfl, _, rfl, e, _, d, _, _, rfl, he, hd, xf, T.nf_NoSuch_kind, rfl, _, rfl, e, _, d, _, _, rfl, he, hd, xf, T.nf_NoSuch_name, rfl, (by show 2 ≤ sizeLine; decide), fun t1 h1 => ⟨_, rfl, _, rfl, (by show 2 ≤ sizeLine; decide), fun t2 h2 => ?_⟩⟩
    have y1 := same_upd h1 (o := .tup [V.str r, lab])
    have y2 := same_upd h2 (o := .tup [V.str r, lab])
    have sx := y1.trans y2
    refine ⟨.tuple [.str r, dl], .tuple [.str r, dl], .tup (SqT.of (y2 _ _ upd_same)) (.cons (.str _) (.cons (dp_ext (z8.trans (sJ.trans sx)) hlab) (.nil))), .tup (SqT.of upd_same) (.cons (.str _) (.cons (dp_ext (z8.trans (sJ.trans sx)) hlab) (.nil))), shB, shB, _, rfl, ?_⟩
    rw [eqv_self shB]
    refine iteF ?_
    refine ⟨_, rfl, (by show 1 ≤ sizeLine; decide), fun q1 g1 => ?_⟩
    have y3 := same_upd g1 (o := .lst [V.int 1])
    exact ⟨e, _, d, q1, _, 9, _, rfl, y3 _ _ (sx _ _ he), y3 _ _ (sx _ _ hd), k, upd_same, fun H5 y4 => ⟨_, rfl, iteF (hC rfl _ ((sx.trans y3).trans y4))⟩⟩
  intro J8 sJ8 eD8
  replace eD8 : J8 D = some (.lst []) := by rw [eD8]; rfl
  refine ⟨(by show 0 ≤ sizeLine; decide), fun n8 hn8 => ?_⟩
  have y8 := same_upd hn8 (o := .lst [])
  refine ⟨.list [], .list [], .lst (SqL.of (y8 _ _ eD8)) .nil, .lst (SqL.of upd_same) .nil, rfl, rfl, _, rfl, iteF ?_⟩
  have Z8 := z8.trans (sJ8.trans y8)
  generalize upd J8 n8 (.lst []) = X8 at Z8 ⊢
  clear k xf ea7 ed7 ea8 ed8 el8 z8 eD8 sJ8 hD y8 hn8
  refine ⟨_, rfl, (by show 1 ≤ 1000; decide), mk1 T.ox_NoPlace T.nf_NoPlace_at fun H9 a9 d9 s9 f9 ea9 ed9 => ?_⟩
  refine ⟨_, rfl, rfl, (by show 1 ≤ 1000; decide), mk1 T.ox_NoPlace T.nf_NoPlace_at fun H10 a10 d10 s10 f10 ea10 ed10 => ?_⟩
  refine ⟨(by show 2 ≤ sizeLine; decide), fun l10 hl10 => ?_⟩
  have t10 := same_upd hl10 (o := .lst [V.ref a9, .ref a10])
  have el10 : (upd H10 l10 (.lst [V.ref a9, .ref a10])) l10 = some (.lst [V.ref a9, .ref a10]) := upd_same
  replace ea9 := (s10.trans t10) _ _ ea9
  replace ed9 := (s10.trans t10) _ _ ed9
  replace ea10 := t10 _ _ ea10
  replace ed10 := t10 _ _ ed10
  have z10 := Z8.trans (s9.trans (s10.trans t10))
  generalize upd H10 l10 (.lst [V.ref a9, .ref a10]) = G10 at ea9 ed9 ea10 ed10 el10 z10 ⊢
  clear t10 f9 f10 hl10 s10 s9
  have k := kd_NoPlace T
  have xf : XfC K T.C_NoPlace := ⟨k.xc.hg, k.xc.hk, k.xc.hs, k.xc.hd⟩
  refine ⟨_, rfl, l10, rfl, ⟨_, SqL.of el10⟩, fun D hD => lc_someX (K := K) (a := l10) hD (SqL.of el10) (by show 2 ≤ 10000; decide) (fun _ => false) (fun _ => .non) ?_ ?_⟩
  · intro i v J R C hi sJ hR hC
    obtain ⟨e, d, rfl, he, hd⟩ : ∃ e d, v = .ref e ∧ J e = some (exo e T.C_NoPlace (some d)) ∧ J d = some (exd d [("at", V.int n)]) := by
      match i, hi with
      | 0, rfl => exact ⟨_, _, rfl, sJ _ _ ea9, sJ _ _ ed9⟩
      | 1, rfl => exact ⟨_, _, rfl, sJ _ _ ea10, sJ _ _ ed10⟩
      | _ + 2, h => cases h
    refine ⟨rfl, _, rfl, e, _, d, _, _, rfl, he, hd, xf, T.nf_NoPlace_at, rfl, _, rfl, rfl, _, rfl, ?_⟩
    rw [nn]
    have sx := Same.refl J
    refine iteF ?_
    refine ⟨_, rfl, (by show 2 ≤ sizeLine; decide), fun q1 g1 => ?_⟩
    have y3 := same_upd g1 (o := .lst [V.int 1, V.int 2])
    exact ⟨e, _, d, q1, _, 10, _, rfl, y3 _ _ (sx _ _ he), y3 _ _ (sx _ _ hd), k, upd_same, fun H5 y4 => ⟨_, rfl, iteF (hC rfl _ ((sx.trans y3).trans y4))⟩⟩
  intro J10 sJ10 eD10
  replace eD10 : J10 D = some (.lst []) := by rw [eD10]; rfl
  refine ⟨(by show 0 ≤ sizeLine; decide), fun n10 hn10 => ?_⟩
  have y10 := same_upd hn10 (o := .lst [])
  refine ⟨.list [], .list [], .lst (SqL.of (y10 _ _ eD10)) .nil, .lst (SqL.of upd_same) .nil, rfl, rfl, _, rfl, iteF ?_⟩
  have Z10 := z10.trans (sJ10.trans y10)
  generalize upd J10 n10 (.lst []) = X10 at Z10 ⊢
  clear k xf ea9 ed9 ea10 ed10 el10 z10 eD10 sJ10 hD y10 hn10
  refine ⟨_, rfl, _, rfl, (by show 2 ≤ 1000; decide), mk2 T.ox_Elsewhere T.nf_Elsewhere_number T.nf_Elsewhere_place fun H11 a11 d11 s11 f11 ea11 ed11 => ?_⟩
  refine ⟨_, rfl, _, rfl, rfl, (by show 2 ≤ 1000; decide), mk2 T.ox_Elsewhere T.nf_Elsewhere_number T.nf_Elsewhere_place fun H12 a12 d12 s12 f12 ea12 ed12 => ?_⟩
  refine ⟨(by show 2 ≤ sizeLine; decide), fun l12 hl12 => ?_⟩
  have t12 := same_upd hl12 (o := .lst [V.ref a11, .ref a12])
  have el12 : (upd H12 l12 (.lst [V.ref a11, .ref a12])) l12 = some (.lst [V.ref a11, .ref a12]) := upd_same
  replace ea11 := (s12.trans t12) _ _ ea11
  replace ed11 := (s12.trans t12) _ _ ed11
  replace ea12 := t12 _ _ ea12
  replace ed12 := t12 _ _ ed12
  have z12 := Z10.trans (s11.trans (s12.trans t12))
  generalize upd H12 l12 (.lst [V.ref a11, .ref a12]) = G12 at ea11 ed11 ea12 ed12 el12 z12 ⊢
  clear t12 f11 f12 hl12 s12 s11
  have k := kd_Elsewhere T
  have xf : XfC K T.C_Elsewhere := ⟨k.xc.hg, k.xc.hk, k.xc.hs, k.xc.hd⟩
  refine ⟨_, rfl, l12, rfl, ⟨_, SqL.of el12⟩, fun D hD => lc_someX (K := K) (a := l12) hD (SqL.of el12) (by show 2 ≤ 10000; decide) (fun _ => false) (fun _ => .non) ?_ ?_⟩
  · intro i v J R C hi sJ hR hC
    obtain ⟨e, d, rfl, he, hd⟩ : ∃ e d, v = .ref e ∧ J e = some (exo e T.C_Elsewhere (some d)) ∧ J d = some (exd d [("place", hom), ("number", V.int n)]) := by
      match i, hi with
      | 0, rfl => exact ⟨_, _, rfl, sJ _ _ ea11, sJ _ _ ed11⟩
      | 1, rfl => exact ⟨_, _, rfl, sJ _ _ ea12, sJ _ _ ed12⟩
      | _ + 2, h => cases h
    refine ⟨rfl, _, rfl, e, _, d, _, _, rfl, he, hd, xf, T.nf_Elsewhere_number, rfl, _, rfl, e, _, d, _, _, rfl, he, hd, xf, T.nf_Elsewhere_place, rfl, (by show 2 ≤ sizeLine; decide), fun t1 h1 => ⟨_, rfl, _, rfl, (by show 2 ≤ sizeLine; decide), fun t2 h2 => ?_⟩⟩
    have y1 := same_upd h1 (o := .tup [V.int n, hom])
    have y2 := same_upd h2 (o := .tup [V.int n, hom])
    have sx := y1.trans y2
    refine ⟨.tuple [.int n, dh], .tuple [.int n, dh], .tup (SqT.of (y2 _ _ upd_same)) (.cons (.int _) (.cons (dp_ext (z12.trans (sJ.trans sx)) hhom) (.nil))), .tup (SqT.of upd_same) (.cons (.int _) (.cons (dp_ext (z12.trans (sJ.trans sx)) hhom) (.nil))), shC, shC, _, rfl, ?_⟩
    rw [eqv_self shC]
    refine iteF ?_
    refine ⟨_, rfl, (by show 2 ≤ sizeLine; decide), fun q1 g1 => ?_⟩
    have y3 := same_upd g1 (o := .lst [V.int 1, V.int 3])
    exact ⟨e, _, d, q1, _, 11, _, rfl, y3 _ _ (sx _ _ he), y3 _ _ (sx _ _ hd), k, upd_same, fun H5 y4 => ⟨_, rfl, iteF (hC rfl _ ((sx.trans y3).trans y4))⟩⟩
  intro J12 sJ12 eD12
  replace eD12 : J12 D = some (.lst []) := by rw [eD12]; rfl
  refine ⟨(by show 0 ≤ sizeLine; decide), fun n12 hn12 => ?_⟩
  have y12 := same_upd hn12 (o := .lst [])
  refine ⟨.list [], .list [], .lst (SqL.of (y12 _ _ eD12)) .nil, .lst (SqL.of upd_same) .nil, rfl, rfl, _, rfl, iteF ?_⟩
  have Z12 := z12.trans (sJ12.trans y12)
  generalize upd J12 n12 (.lst []) = X12 at Z12 ⊢
  clear k xf ea11 ed11 ea12 ed12 el12 z12 eD12 sJ12 hD y12 hn12
  refine ⟨_, rfl, _, rfl, (by show 2 ≤ 1000; decide), mk2 T.ox_Known T.nf_Known_kind T.nf_Known_name fun H13 a13 d13 s13 f13 ea13 ed13 => ?_⟩
  refine ⟨_, rfl, _, rfl, rfl, (by show 2 ≤ 1000; decide), mk2 T.ox_Known T.nf_Known_kind T.nf_Known_name fun H14 a14 d14 s14 f14 ea14 ed14 => ?_⟩
  refine ⟨(by show 2 ≤ sizeLine; decide), fun l14 hl14 => ?_⟩
  have t14 := same_upd hl14 (o := .lst [V.ref a13, .ref a14])
  have el14 : (upd H14 l14 (.lst [V.ref a13, .ref a14])) l14 = some (.lst [V.ref a13, .ref a14]) := upd_same
  replace ea13 := (s14.trans t14) _ _ ea13
  replace ed13 := (s14.trans t14) _ _ ed13
  replace ea14 := t14 _ _ ea14
  replace ed14 := t14 _ _ ed14
  have z14 := Z12.trans (s13.trans (s14.trans t14))
  generalize upd H14 l14 (.lst [V.ref a13, .ref a14]) = G14 at ea13 ed13 ea14 ed14 el14 z14 ⊢
  clear t14 f13 f14 hl14 s14 s13
  have k := kd_Known T
  have xf : XfC K T.C_Known := ⟨k.xc.hg, k.xc.hk, k.xc.hs, k.xc.hd⟩
  refine ⟨_, rfl, l14, rfl, ⟨_, SqL.of el14⟩, fun D hD => lc_someX (K := K) (a := l14) hD (SqL.of el14) (by show 2 ≤ 10000; decide) (fun _ => false) (fun _ => .non) ?_ ?_⟩
  · intro i v J R C hi sJ hR hC
    obtain ⟨e, d, rfl, he, hd⟩ : ∃ e d, v = .ref e ∧ J e = some (exo e T.C_Known (some d)) ∧ J d = some (exd d [("name", lab), ("kind", V.str r)]) := by
      match i, hi with
      | 0, rfl => exact ⟨_, _, rfl, sJ _ _ ea13, sJ _ _ ed13⟩
      | 1, rfl => exact ⟨_, _, rfl, sJ _ _ ea14, sJ _ _ ed14⟩
      | _ + 2, h => cases h
    refine ⟨rfl, _, rfl, e, _, d, _, _, rfl, he, hd, xf, T.nf_Known_kind, rfl, _, rfl, e, _, d, _, _, rfl, he, hd, xf, T.nf_Known_name, rfl, (by show 2 ≤ sizeLine; decide), fun t1 h1 => ⟨_, rfl, _, rfl, (by show 2 ≤ sizeLine; decide), fun t2 h2 => ?_⟩⟩
    have y1 := same_upd h1 (o := .tup [V.str r, lab])
    have y2 := same_upd h2 (o := .tup [V.str r, lab])
    have sx := y1.trans y2
    refine ⟨.tuple [.str r, dl], .tuple [.str r, dl], .tup (SqT.of (y2 _ _ upd_same)) (.cons (.str _) (.cons (dp_ext (z14.trans (sJ.trans sx)) hlab) (.nil))), .tup (SqT.of upd_same) (.cons (.str _) (.cons (dp_ext (z14.trans (sJ.trans sx)) hlab) (.nil))), shB, shB, _, rfl, ?_⟩
    rw [eqv_self shB]
    refine iteF ?_
    refine ⟨_, rfl, (by show 2 ≤ sizeLine; decide), fun q1 g1 => ?_⟩
    have y3 := same_upd g1 (o := .lst [V.int 1, V.int 3])
    exact ⟨e, _, d, q1, _, 12, _, rfl, y3 _ _ (sx _ _ he), y3 _ _ (sx _ _ hd), k, upd_same, fun H5 y4 => ⟨_, rfl, iteF (hC rfl _ ((sx.trans y3).trans y4))⟩⟩
  intro J14 sJ14 eD14
  replace eD14 : J14 D = some (.lst []) := by rw [eD14]; rfl
  refine ⟨(by show 0 ≤ sizeLine; decide), fun n14 hn14 => ?_⟩
  have y14 := same_upd hn14 (o := .lst [])
  refine ⟨.list [], .list [], .lst (SqL.of (y14 _ _ eD14)) .nil, .lst (SqL.of upd_same) .nil, rfl, rfl, _, rfl, iteF ?_⟩
  have Z14 := z14.trans (sJ14.trans y14)
  generalize upd J14 n14 (.lst []) = X14 at Z14 ⊢
  clear k xf ea13 ed13 ea14 ed14 el14 z14 eD14 sJ14 hD y14 hn14
  refine ⟨_, rfl, (by show 1 ≤ 1000; decide), mk1 T.ox_NoShare T.nf_NoShare_num fun H15 a15 d15 s15 f15 ea15 ed15 => ?_⟩
  refine ⟨_, rfl, rfl, (by show 1 ≤ 1000; decide), mk1 T.ox_NoShare T.nf_NoShare_num fun H16 a16 d16 s16 f16 ea16 ed16 => ?_⟩
  refine ⟨(by show 2 ≤ sizeLine; decide), fun l16 hl16 => ?_⟩
  have t16 := same_upd hl16 (o := .lst [V.ref a15, .ref a16])
  have el16 : (upd H16 l16 (.lst [V.ref a15, .ref a16])) l16 = some (.lst [V.ref a15, .ref a16]) := upd_same
  replace ea15 := (s16.trans t16) _ _ ea15
  replace ed15 := (s16.trans t16) _ _ ed15
  replace ea16 := t16 _ _ ea16
  replace ed16 := t16 _ _ ed16
  have z16 := Z14.trans (s15.trans (s16.trans t16))
  generalize upd H16 l16 (.lst [V.ref a15, .ref a16]) = G16 at ea15 ed15 ea16 ed16 el16 z16 ⊢
  clear t16 f15 f16 hl16 s16 s15
  have k := kd_NoShare T
  have xf : XfC K T.C_NoShare := ⟨k.xc.hg, k.xc.hk, k.xc.hs, k.xc.hd⟩
  refine ⟨_, rfl, l16, rfl, ⟨_, SqL.of el16⟩, fun D hD => lc_someX (K := K) (a := l16) hD (SqL.of el16) (by show 2 ≤ 10000; decide) (fun _ => false) (fun _ => .non) ?_ ?_⟩
  · intro i v J R C hi sJ hR hC
    obtain ⟨e, d, rfl, he, hd⟩ : ∃ e d, v = .ref e ∧ J e = some (exo e T.C_NoShare (some d)) ∧ J d = some (exd d [("num", V.int n)]) := by
      match i, hi with
      | 0, rfl => exact ⟨_, _, rfl, sJ _ _ ea15, sJ _ _ ed15⟩
      | 1, rfl => exact ⟨_, _, rfl, sJ _ _ ea16, sJ _ _ ed16⟩
      | _ + 2, h => cases h
    refine ⟨rfl, _, rfl, e, _, d, _, _, rfl, he, hd, xf, T.nf_NoShare_num, rfl, _, rfl, rfl, _, rfl, ?_⟩
    rw [nn]
    have sx := Same.refl J
    refine iteF ?_
    refine ⟨_, rfl, (by show 1 ≤ sizeLine; decide), fun q1 g1 => ?_⟩
    have y3 := same_upd g1 (o := .lst [V.int 4])
    exact ⟨e, _, d, q1, _, 13, _, rfl, y3 _ _ (sx _ _ he), y3 _ _ (sx _ _ hd), k, upd_same, fun H5 y4 => ⟨_, rfl, iteF (hC rfl _ ((sx.trans y3).trans y4))⟩⟩
  intro J16 sJ16 eD16
  replace eD16 : J16 D = some (.lst []) := by rw [eD16]; rfl
  refine ⟨(by show 0 ≤ sizeLine; decide), fun n16 hn16 => ?_⟩
  have y16 := same_upd hn16 (o := .lst [])
  refine ⟨.list [], .list [], .lst (SqL.of (y16 _ _ eD16)) .nil, .lst (SqL.of upd_same) .nil, rfl, rfl, ?_⟩
  exact q _ (z16.trans (sJ16.trans y16))
end
end KB
namespace KB
open PySem PySem.Spec PyProof.Rows L2 KA
section
variable {P : Program} {w : World} {K : PySem.W.Frag} {mg : Str → Option Value} {base : Heap}
theorem strOk_app {a b : Str} (ha : PyData.strOk a = true) (hb : PyData.strOk b = true) : PyData.strOk (a ++ b) = true := by
  show (a.cps ++ b.cps).all _ = true
  rw [Array.all_append]
  exact Bool.and_eq_true_iff.mpr ⟨ha, hb⟩
def alph : Str := "abcdefghijklmnopqrstuvwxyz"
theorem alph_at {j : Int} (h0 : 0 ≤ j) (h1 : j < 26) : ∃ c, atI alph.cps.toList j = some c ∧ PyData.strOk ⟨#[c]⟩ = true := by
  obtain ⟨k, rfl⟩ : ∃ k : Nat, j = (k : Int) := ⟨j.toNat, by omega⟩
  have hk : k < alph.cps.toList.length := by
    show k < 26
    omega
  refine ⟨_, atI_nat (List.getElem?_eq_getElem hk), ?_⟩
  have al : ∀ x ∈ alph.cps.toList, x < 0x110000 := by decide
  have := al _ (List.getElem_mem hk)
  show Array.all #[_] _ = true
  simpa using this
theorem sh2 {d e : PyData} (h1 : PyData.canLay0 d = true) (h2 : PyData.canLay0 e = true) (k1 : d.depth ≤ 5) (k2 : e.depth ≤ 5) : SeqAt.shaped (.tuple [d, e]) = true := by
  show ((PyData.canLay0 d && (PyData.canLay0 e && true)) && decide (max d.depth (max e.depth 0) + 1 ≤ 64)) = true
  rw [h1, h2, decide_eq_true (by omega)]
  rfl
def spLaw (K : PySem.W.Frag) : Sp := fun vs H Q _ => ∃ (a : Addr) (ns : List Int), vs = [.ref a] ∧ SqL K H a (ns.map V.int) ∧ ns.length ≤ 63 ∧ ∀ H', Q (.bl true) H'
theorem ok_law {f : Addr} {fd : FuncData} (T : Tx K mg) (F : Fun K "law" "law" s_law f fd) : FnOk P w K mg base CX0 5 f fd ["_law_script"] (spLaw K) := by
  refine F.ok sc_law (fun vs H Q E h => ?_) (fun cdv A outer s H vs Q E hr h => ?_)
  · obtain ⟨a, ns, rfl, hS, hlen, q⟩ := h
    rfl
  obtain ⟨a, ns, rfl, hS, hlen, q⟩ := h
  refine ⟨_, (pss_cons (ps_for PassesOwn.never rfl (pi_list (pe_op op_cat (pe_lst (pa_cons (pe_call (ok_cell_at T) (hr.mono (by decide)) (by rfl) T.g_cell_at T.F_cell_at.kp T.b_cell_at .nil pass0 (pa_cons (pv 0) (pa_cons pe_int pa_nil))) pa_nil)) (pe_slice sl_list (pv 0) (po_some pe_int) (po_some pe_int)))) (pg_name (i := 1) sc_law.nd rfl (Or.inl rfl))
        (pss_cons (ps_set (i := 2) sc_law.nd rfl (Or.inl rfl) (pe_call (ok_draws T) (hr.mono (by decide)) (by rfl) T.g_draws T.F_draws.kp T.b_draws .nil pass0 (pa_cons (pv 1) pa_nil)))
      (pss_cons (ps_set (i := 3) sc_law.nd rfl (Or.inl rfl) (pe_call (ok_of T) (hr.mono (by decide)) (by rfl) T.g_of T.F_of.kp T.b_of .nil pass0 (pa_cons (pv 2) (pa_cons (pe_lst (pa_cons (pe_call (ok_one T) (hr.mono (by decide)) (by rfl) T.g_one T.F_one.kp T.b_one .nil pass0 (pa_cons (pv 2) (pa_cons pe_int pa_nil))) (pa_cons (pe_call (ok_one T) (hr.mono (by decide)) (by rfl) T.g_one T.F_one.kp T.b_one .nil pass0 (pa_cons (pv 2) (pa_cons (pe_op op_pow pe_int pe_int) pa_nil))) pa_nil))) pa_nil))))
      (pss_cons (ps_set (i := 4) sc_law.nd rfl (Or.inl rfl) pe_str)
      (pss_cons (ps_set (i := 5) sc_law.nd rfl (Or.inl rfl) (pe_op op_add_str (pe_ix ix_str (pv 4) (pe_call (ok_one T) (hr.mono (by decide)) (by rfl) T.g_one T.F_one.kp T.b_one .nil pass0 (pa_cons (pv 2) (pa_cons pe_int pa_nil))) (fun _ _ => rfl)) (pe_call (ok_of T) (hr.mono (by decide)) (by rfl) T.g_of T.F_of.kp T.b_of .nil pass0 (pa_cons (pv 2) (pa_cons (pe_lst (pa_cons pe_str (pa_cons pe_str (pa_cons pe_str pa_nil)))) pa_nil)))))
      (pss_cons (ps_set (i := 6) sc_law.nd rfl (Or.inl rfl) (pe_call (ok_of T) (hr.mono (by decide)) (by rfl) T.g_of T.F_of.kp T.b_of .nil pass0 (pa_cons (pv 2) (pa_cons (pe_lst (pa_cons (pe_op op_add_str (pv 5) pe_str) (pa_cons (pv 3) (pa_cons (pe_tup (pa_cons (pv 5) (pa_cons pe_str pa_nil))) (pa_cons (pe_tup (pa_cons (pv 5) (pa_cons (pv 3) pa_nil))) pa_nil))))) pa_nil))))
      (pss_cons (ps_set (i := 7) sc_law.nd rfl (Or.inl rfl) (pe_call (ok_of T) (hr.mono (by decide)) (by rfl) T.g_of T.F_of.kp T.b_of .nil pass0 (pa_cons (pv 2) (pa_cons (pe_lst (pa_cons (pe_tup (pa_cons pe_str pa_nil)) (pa_cons (pe_tup (pa_cons pe_str (pa_cons (pv 5) pa_nil))) (pa_cons (pe_tup (pa_cons pe_str (pa_cons (pv 5) (pa_cons (pv 3) pa_nil)))) (pa_cons (pe_tup (pa_cons pe_str (pa_cons (pv 5) pa_nil))) pa_nil))))) pa_nil))))
      (pss_one (ps_if (PW.pt (pw_or (pt_not (pt_val (pe_call (ok_plain_right T) (hr.mono (by decide)) (by rfl) T.g_plain_right T.F_plain_right.kp T.b_plain_right .nil pass0 (pa_cons (pv 5) pa_nil)))) (pw_or1 (pt_not (pt_val (pe_call (ok_fields_right T) (hr.mono (by decide)) (by rfl) T.g_fields_right T.F_fields_right.kp T.b_fields_right .nil pass0 (pa_cons (pv 3) (pa_cons (pv 5) (pa_cons (pv 6) (pa_cons (pv 7) pa_nil)))))))))) (pss_one (ps_ret pe_bl)) pss_nil)))))))))
      (pss_one (ps_ret pe_bl))), ?_⟩
  refine ⟨_, rfl, a, ns, rfl, hS, (by show 1 ≤ sizeLine; decide), fun p hp => ?_⟩
  have s1 : Same H (upd H p (.lst [.int (ns.headD 0)])) := same_upd hp
  refine ⟨_, rfl, _, rfl, _, rfl, a, _, rfl, s1.seq hS, fun p2 hp2 => ?_⟩
  have s2 : Same (upd H p (.lst [.int (ns.headD 0)])) (upd (upd H p (.lst [.int (ns.headD 0)])) p2 (.lst (cutV (ns.map V.int) (some 1) (some 12)))) := same_upd hp2
  have hcut : (cutV (ns.map V.int) (some 1) (some 12)).length ≤ 63 := by
    have := len_cut (ns.map V.int) (some 1) (some 12)
    rw [List.length_map] at this
    omega
  refine ⟨p, p2, _, _, rfl, rfl, s2 _ _ upd_same, upd_same, sz _ (by rw [List.length_singleton]; omega), fun p3 hp3 => ?_⟩
  refine ⟨p3, rfl, ⟨_, SqL.of upd_same⟩, for_list (K := K) (a := p3) (xs := [V.int (ns.headD 0)] ++ cutV (ns.map V.int) (some 1) (some 12)) (fun i σ H' => ∃ w1 w2 w3 w4 w5 w6 w7, σ = [some (.ref a), w1, w2, w3, w4, w5, w6, w7] ∧ H' p3 = some (.lst ([V.int (ns.headD 0)] ++ cutV (ns.map V.int) (some 1) (some 12)))) ⟨_, _, _, _, _, _, _, rfl, upd_same⟩ (fun i σ H' _ h => ?_) ?_ ?_⟩
  · obtain ⟨_, _, _, _, _, _, _, _, e⟩ := h
    exact SqL.of e
  · rintro i x σ H0 hi ⟨w1, w2, w3, w4, w5, w6, w7, rfl, e0⟩
    obtain ⟨cell, rfl⟩ := cells_int hi
    refine ⟨_, rfl, cell, rfl, fun d H1 hd t1 dr1 => ?_⟩
    have np3 : p3 ≠ d := ne_of_none e0 hd
    refine ⟨_, rfl, _, rfl, d, 9, 0, rfl, by decide, log_tiny (by decide) (by decide), dr1, by omega, fun H2 r2 a2 c2 b2 dr2 => ?_⟩
    refine ⟨_, rfl, _, _, rfl, rfl, ⟨by decide, by decide, by decide⟩, d, _, 1, rfl, by decide, by decide, dr2, by omega, fun H3 r3 a3 c3 b3 dr3 => ?_⟩
    refine ⟨(by show 2 ≤ sizeLine; decide), fun l4 hl4 => ?_⟩
    have y4 := same_upd hl4 (o := .lst [V.int r2, .int r3])
    have n4 : l4 ≠ d := fun e => by obtain ⟨_, _, _, h, _⟩ := dr3; rw [e, h] at hl4; cases hl4
    refine ⟨d, l4, 2, _, rfl, n4, SqL.of upd_same, (fun e => by cases e), (by show 2 ≤ 1000; decide), dr3.same y4, by omega, fun H5 v5 m5 b5 dr5 => ?_⟩
    obtain ⟨n, rfl⟩ : ∃ n : Int, v5 = .int n := by
      simp only [List.mem_cons, List.not_mem_nil, or_false] at m5
      rcases m5 with rfl | rfl <;> exact ⟨_, rfl⟩
    have e5 := b5 _ _ np3 (y4 _ _ (b3 _ _ np3 (b2 _ _ np3 (t1 _ _ e0))))
    clear b5 m5 dr3 y4 hl4 b3 b2 dr2 dr1 t1 e0
    refine ⟨_, rfl, _, rfl, d, 26, 3, rfl, by decide, log_tiny (by decide) (by decide), dr5, by omega, fun H6 r6 a6 c6 b6 dr6 => ?_⟩
    obtain ⟨c, hc, okc⟩ := alph_at a6 c6
    refine ⟨_, _, c, rfl, rfl, (by decide), hc, ?_⟩
    refine ⟨_, rfl, (by show 3 ≤ sizeLine; decide), fun l7 hl7 => ?_⟩
    have y7 := same_upd hl7 (o := .lst [V.str "", .str "tep", .str " word"])
    have n7 : l7 ≠ d := fun e => by obtain ⟨_, _, _, h, _⟩ := dr6; rw [e, h] at hl7; cases hl7
    refine ⟨d, l7, 4, _, rfl, n7, SqL.of upd_same, (fun e => by cases e), (by show 3 ≤ 1000; decide), dr6.same y7, by omega, fun H8 v8 m8 b8 dr8 => ?_⟩
    obtain ⟨u, rfl, oku, lnu⟩ : ∃ u : Str, v8 = .str u ∧ PyData.strOk u = true ∧ u.length ≤ 10 := by
      simp only [List.mem_cons, List.not_mem_nil, or_false] at m8
      rcases m8 with rfl | rfl | rfl <;> exact ⟨_, rfl, by decide +kernel, by decide +kernel⟩
    have e8 := b8 _ _ np3 (y7 _ _ (b6 _ _ np3 e5))
    clear b8 m8 dr6 y7 hl7 b6 e5 dr5
    have lc : (⟨#[c]⟩ : Str).length = 1 := rfl
    refine ⟨_, _, rfl, rfl, (by rw [lc]; exact Nat.le_trans (show 1 + u.length ≤ 11 by omega) (by decide)), ?_⟩
    have okr := strOk_app okc oku
    have lr : ((⟨#[c]⟩ : Str) ++ u).length ≤ 11 := by
      show (#[c] ++ u.cps).size ≤ 11
      rw [Array.size_append]
      show 1 + u.length ≤ 11
      omega
    generalize (⟨#[c]⟩ : Str) ++ u = r at okr lr ⊢
    clear hc lc oku lnu okc
    have okq : PyData.strOk (r ++ "q") = true := strOk_app okr (by decide +kernel)
    refine ⟨_, rfl, _, rfl, _, _, rfl, rfl, Nat.le_trans (show r.length + 1 ≤ 12 by omega) (by decide), _, rfl, _, rfl, (by show 2 ≤ sizeLine; decide), fun p9 hp9 => ?_⟩
    have y9 := same_upd hp9 (o := .tup [V.str r, .str "round"])
    refine ⟨_, rfl, _, rfl, (by show 2 ≤ sizeLine; decide), fun p10 hp10 => ?_⟩
    have y10 := same_upd hp10 (o := .tup [V.str r, .int n])
    refine ⟨(by show 4 ≤ sizeLine; decide), fun l11 hl11 => ?_⟩
    have y11 := same_upd hl11 (o := .lst [V.str (r ++ "q"), .int n, .ref p9, .ref p10])
    have n9 := dr8.ne hp9
    have dr9 := dr8.same y9
    have n10 := dr9.ne hp10
    have dr10 := dr9.same y10
    have n11 := dr10.ne hl11
    have f9 := y11 _ _ (y10 _ _ (show (upd H8 p9 (.tup [V.str r, .str "round"])) p9 = _ from upd_same))
    have f10 := y11 _ _ (show (upd (upd H8 p9 (.tup [V.str r, .str "round"])) p10 (.tup [V.str r, .int n])) p10 = _ from upd_same)
    refine ⟨d, l11, 5, _, rfl, n11, SqL.of upd_same, (fun e => by cases e), (by show 4 ≤ 1000; decide), dr10.same y11, by omega, fun H12 v12 m12 b12 dr12 => ?_⟩
    obtain ⟨dl, hdl, ok1, ok2⟩ : ∃ dl, (∀ J : Hp, (∀ x o, x ≠ d → H12 x = some o → J x = some o) → Dp K J v12 dl) ∧ PyData.canLay0 dl = true ∧ dl.depth ≤ 5 := by
      simp only [List.mem_cons, List.not_mem_nil, or_false] at m12
      rcases m12 with rfl | rfl | rfl | rfl
      · exact ⟨_, fun _ _ => .str _, okq, by show 0 ≤ 5; decide⟩
      · exact ⟨_, fun _ _ => .int _, rfl, by show 0 ≤ 5; decide⟩
      · refine ⟨.tuple [.str r, .str "round"], fun J hJ => .tup (SqT.of (hJ _ _ n9 (b12 _ _ n9 f9))) (.cons (.str _) (.cons (.str _) .nil)), ?_, by show 1 ≤ 5; decide⟩
        show (PyData.strOk r && (PyData.strOk "round" && true)) = true
        rw [okr]
        decide +kernel
      · refine ⟨.tuple [.str r, .int n], fun J hJ => .tup (SqT.of (hJ _ _ n10 (b12 _ _ n10 f10))) (.cons (.str _) (.cons (.int _) .nil)), ?_, by show 1 ≤ 5; decide⟩
        show (PyData.strOk r && (true && true)) = true
        rw [okr]
        rfl
    have e12 := b12 _ _ np3 (y11 _ _ (y10 _ _ (y9 _ _ e8)))
    clear f9 f10 b12 m12 y9 y10 y11 dr9 dr10 dr8 hp9 hp10 hl11 e8
    refine ⟨_, rfl, (by show 1 ≤ sizeLine; decide), fun q1 h1 => ?_⟩
    have y1 := same_upd h1 (o := .tup [V.str "aside"])
    refine ⟨_, rfl, (by show 2 ≤ sizeLine; decide), fun q2 h2 => ?_⟩
    have y2 := same_upd h2 (o := .tup [V.str "lot", .str r])
    refine ⟨_, rfl, _, rfl, (by show 3 ≤ sizeLine; decide), fun q3 h3 => ?_⟩
    have y3 := same_upd h3 (o := .tup [V.str "string", .str r, .int n])
    refine ⟨_, rfl, (by show 2 ≤ sizeLine; decide), fun q4 h4 => ?_⟩
    have y4 := same_upd h4 (o := .tup [V.str "sold", .str r])
    refine ⟨(by show 4 ≤ sizeLine; decide), fun q5 h5 => ?_⟩
    have y5 := same_upd h5 (o := .lst [V.ref q1, .ref q2, .ref q3, .ref q4])
    have f1 := y5 _ _ (y4 _ _ (y3 _ _ (y2 _ _ (show (upd H12 q1 (.tup [V.str "aside"])) q1 = _ from upd_same))))
    have f2 := y5 _ _ (y4 _ _ (y3 _ _ (show (upd _ q2 (.tup [V.str "lot", .str r])) q2 = _ from upd_same)))
    have f3 := y5 _ _ (y4 _ _ (show (upd _ q3 (.tup [V.str "string", .str r, .int n])) q3 = _ from upd_same))
    have f4 := y5 _ _ (show (upd _ q4 (.tup [V.str "sold", .str r])) q4 = _ from upd_same)
    have n1 := dr12.ne h1
    have n2 := (dr12.same y1).ne h2
    have n3 := ((dr12.same y1).same y2).ne h3
    have n4 := (((dr12.same y1).same y2).same y3).ne h4
    have z := y1.trans (y2.trans (y3.trans (y4.trans y5)))
    have n5 := ((((dr12.same y1).same y2).same y3).same y4).ne h5
    refine ⟨d, q5, 6, _, rfl, n5, SqL.of upd_same, (fun e => by cases e), (by show 4 ≤ 1000; decide), dr12.same z, by omega, fun H13 v13 m13 b13 dr13 => ?_⟩
    obtain ⟨dh, hdh, ok3, ok4⟩ : ∃ dl, Dp K H13 v13 dl ∧ PyData.canLay0 dl = true ∧ dl.depth ≤ 5 := by
      simp only [List.mem_cons, List.not_mem_nil, or_false] at m13
      rcases m13 with rfl | rfl | rfl | rfl
      · exact ⟨.tuple [.str "aside"], .tup (SqT.of (b13 _ _ n1 f1)) (.cons (.str _) .nil), by decide +kernel, by show 1 ≤ 5; decide⟩
      · refine ⟨.tuple [.str "lot", .str r], .tup (SqT.of (b13 _ _ n2 f2)) (.cons (.str _) (.cons (.str _) .nil)), ?_, by show 1 ≤ 5; decide⟩
        show (PyData.strOk "lot" && (PyData.strOk r && true)) = true
        rw [okr]
        decide +kernel
      · refine ⟨.tuple [.str "string", .str r, .int n], .tup (SqT.of (b13 _ _ n3 f3)) (.cons (.str _) (.cons (.str _) (.cons (.int _) .nil))), ?_, by show 1 ≤ 5; decide⟩
        show (PyData.strOk "string" && (PyData.strOk r && (true && true))) = true
        rw [okr]
        decide +kernel
      · refine ⟨.tuple [.str "sold", .str r], .tup (SqT.of (b13 _ _ n4 f4)) (.cons (.str _) (.cons (.str _) .nil)), ?_, by show 1 ≤ 5; decide⟩
        show (PyData.strOk "sold" && (PyData.strOk r && true)) = true
        rw [okr]
        decide +kernel
    have e13 := b13 _ _ np3 (z _ _ e12)
    refine ⟨_, rfl, r, rfl, fun H14 z14 => ⟨_, rfl, iteF ?_⟩⟩
    refine ⟨_, rfl, _, rfl, _, rfl, _, rfl, n, r, v12, v13, dl, dh, rfl, hdl _ (fun x o hx h => z14 _ _ (b13 _ _ hx (z _ _ h))), dp_ext z14 hdh, sh2 rfl okr (by show 0 ≤ 5; decide) (by show 0 ≤ 5; decide), sh2 okr ok1 (by show 0 ≤ 5; decide) ok2, sh2 rfl ok3 (by show 0 ≤ 5; decide) ok4, fun H15 z15 => ⟨_, rfl, iteF ?_⟩⟩
    exact ⟨_, _, _, _, _, _, _, rfl, z15 _ _ (z14 _ _ e13)⟩
  · rintro σ H' ⟨w1, w2, w3, w4, w5, w6, w7, rfl, e0⟩
    exact q H'
end
theorem all_mk {l : PySem.W.OpenLaw} {w : World} {K : PySem.W.Frag} {h : Heap} {mg : Str → Option Value} {fa : Addr} (X : K.In h) (G : h.Ns mainGlobals mg) (hfa : mg "law" = some (.ref fa))
    {C_PearlError : Addr}
    {C_BadBead : Addr}
    {C_BadRule : Addr}
    {C_BadLot : Addr}
    {C_BadDeed : Addr}
    {C_NoRow : Addr}
    {C_NotLet : Addr}
    {C_TooLate : Addr}
    {C_BadText : Addr}
    {C_NoSuch : Addr}
    {C_NoPlace : Addr}
    {C_Elsewhere : Addr}
    {C_Known : Addr}
    {C_NoShare : Addr}
    {f0 : Addr} {od0 an0 : Option Addr} {sl0 : Array (Option Value)} {oc0 kV0 dc0 pm0 cd0 ct0 : Value}
    {T0 : Addr} {oT0 : Value} {dT0 : Option Addr} {nT0 : Nat} {sT0 : Array (Option Value)} {td0_0 : Tok}
    {f1 : Addr} {od1 an1 : Option Addr} {sl1 : Array (Option Value)} {oc1 kV1 dc1 pm1 cd1 ct1 : Value}
    {f2 : Addr} {od2 an2 : Option Addr} {sl2 : Array (Option Value)} {oc2 kV2 dc2 pm2 cd2 ct2 : Value}
    {f3 : Addr} {od3 an3 : Option Addr} {sl3 : Array (Option Value)} {oc3 kV3 dc3 pm3 cd3 ct3 : Value}
    {f4 : Addr} {od4 an4 : Option Addr} {sl4 : Array (Option Value)} {oc4 kV4 dc4 pm4 cd4 ct4 : Value}
    {f5 : Addr} {od5 an5 : Option Addr} {sl5 : Array (Option Value)} {oc5 kV5 dc5 pm5 cd5 ct5 : Value}
    {f6 : Addr} {od6 an6 : Option Addr} {sl6 : Array (Option Value)} {oc6 kV6 dc6 pm6 cd6 ct6 : Value}
    {f7 : Addr} {od7 an7 : Option Addr} {sl7 : Array (Option Value)} {oc7 kV7 dc7 pm7 cd7 ct7 : Value}
    {f8 : Addr} {od8 an8 : Option Addr} {sl8 : Array (Option Value)} {oc8 kV8 dc8 pm8 cd8 ct8 : Value}
    {f9 : Addr} {od9 an9 : Option Addr} {sl9 : Array (Option Value)} {oc9 kV9 dc9 pm9 cd9 ct9 : Value}
    {f10 : Addr} {od10 an10 : Option Addr} {sl10 : Array (Option Value)} {oc10 kV10 dc10 pm10 cd10 ct10 : Value}
    {f11 : Addr} {od11 an11 : Option Addr} {sl11 : Array (Option Value)} {oc11 kV11 dc11 pm11 cd11 ct11 : Value}
    {f12 : Addr} {od12 an12 : Option Addr} {sl12 : Array (Option Value)} {oc12 kV12 dc12 pm12 cd12 ct12 : Value}
    {f13 : Addr} {od13 an13 : Option Addr} {sl13 : Array (Option Value)} {oc13 kV13 dc13 pm13 cd13 ct13 : Value}
    {f14 : Addr} {od14 an14 : Option Addr} {sl14 : Array (Option Value)} {oc14 kV14 dc14 pm14 cd14 ct14 : Value}
    {f15 : Addr} {od15 an15 : Option Addr} {sl15 : Array (Option Value)} {oc15 kV15 dc15 pm15 cd15 ct15 : Value}
    {f16 : Addr} {od16 an16 : Option Addr} {sl16 : Array (Option Value)} {oc16 kV16 dc16 pm16 cd16 ct16 : Value}
    {f17 : Addr} {od17 an17 : Option Addr} {sl17 : Array (Option Value)} {oc17 kV17 dc17 pm17 cd17 ct17 : Value}
    {f18 : Addr} {od18 an18 : Option Addr} {sl18 : Array (Option Value)} {oc18 kV18 dc18 pm18 cd18 ct18 : Value}
    {nm_PearlError q_PearlError : Str} {N_PearlError : Addr} {bs_PearlError : List Value} {sn_PearlError : List Str} {sub_PearlError : List Value} {ab_PearlError : Bool} {col_PearlError : Option Bool} {dd_PearlError : Option Addr} {m0_PearlError m1_PearlError m2_PearlError m3_PearlError m5_PearlError : Option Value}
    {nm_BadBead q_BadBead : Str} {N_BadBead : Addr} {bs_BadBead : List Value} {sn_BadBead : List Str} {sub_BadBead : List Value} {ab_BadBead : Bool} {col_BadBead : Option Bool} {dd_BadBead : Option Addr} {m0_BadBead m1_BadBead m2_BadBead m3_BadBead m5_BadBead : Option Value}
    {nm_BadRule q_BadRule : Str} {N_BadRule : Addr} {bs_BadRule : List Value} {sn_BadRule : List Str} {sub_BadRule : List Value} {ab_BadRule : Bool} {col_BadRule : Option Bool} {dd_BadRule : Option Addr} {m0_BadRule m1_BadRule m2_BadRule m3_BadRule m5_BadRule : Option Value}
    {nm_BadLot q_BadLot : Str} {N_BadLot : Addr} {bs_BadLot : List Value} {sn_BadLot : List Str} {sub_BadLot : List Value} {ab_BadLot : Bool} {col_BadLot : Option Bool} {dd_BadLot : Option Addr} {m0_BadLot m1_BadLot m2_BadLot m3_BadLot m5_BadLot : Option Value}
    {nm_BadDeed q_BadDeed : Str} {N_BadDeed : Addr} {bs_BadDeed : List Value} {sn_BadDeed : List Str} {sub_BadDeed : List Value} {ab_BadDeed : Bool} {col_BadDeed : Option Bool} {dd_BadDeed : Option Addr} {m0_BadDeed m1_BadDeed m2_BadDeed m3_BadDeed m5_BadDeed : Option Value}
    {nm_NoRow q_NoRow : Str} {N_NoRow : Addr} {bs_NoRow : List Value} {sn_NoRow : List Str} {sub_NoRow : List Value} {ab_NoRow : Bool} {col_NoRow : Option Bool} {dd_NoRow : Option Addr} {m0_NoRow m1_NoRow m2_NoRow m3_NoRow m5_NoRow : Option Value}
    {nm_NotLet q_NotLet : Str} {N_NotLet : Addr} {bs_NotLet : List Value} {sn_NotLet : List Str} {sub_NotLet : List Value} {ab_NotLet : Bool} {col_NotLet : Option Bool} {dd_NotLet : Option Addr} {m0_NotLet m1_NotLet m2_NotLet m3_NotLet m5_NotLet : Option Value}
    {nm_TooLate q_TooLate : Str} {N_TooLate : Addr} {bs_TooLate : List Value} {sn_TooLate : List Str} {sub_TooLate : List Value} {ab_TooLate : Bool} {col_TooLate : Option Bool} {dd_TooLate : Option Addr} {m0_TooLate m1_TooLate m2_TooLate m3_TooLate m5_TooLate : Option Value}
    {nm_BadText q_BadText : Str} {N_BadText : Addr} {bs_BadText : List Value} {sn_BadText : List Str} {sub_BadText : List Value} {ab_BadText : Bool} {col_BadText : Option Bool} {dd_BadText : Option Addr} {m0_BadText m1_BadText m2_BadText m3_BadText m5_BadText : Option Value}
    {nm_NoSuch q_NoSuch : Str} {N_NoSuch : Addr} {bs_NoSuch : List Value} {sn_NoSuch : List Str} {sub_NoSuch : List Value} {ab_NoSuch : Bool} {col_NoSuch : Option Bool} {dd_NoSuch : Option Addr} {m0_NoSuch m1_NoSuch m2_NoSuch m3_NoSuch m5_NoSuch : Option Value}
    {nm_NoPlace q_NoPlace : Str} {N_NoPlace : Addr} {bs_NoPlace : List Value} {sn_NoPlace : List Str} {sub_NoPlace : List Value} {ab_NoPlace : Bool} {col_NoPlace : Option Bool} {dd_NoPlace : Option Addr} {m0_NoPlace m1_NoPlace m2_NoPlace m3_NoPlace m5_NoPlace : Option Value}
    {nm_Elsewhere q_Elsewhere : Str} {N_Elsewhere : Addr} {bs_Elsewhere : List Value} {sn_Elsewhere : List Str} {sub_Elsewhere : List Value} {ab_Elsewhere : Bool} {col_Elsewhere : Option Bool} {dd_Elsewhere : Option Addr} {m0_Elsewhere m1_Elsewhere m2_Elsewhere m3_Elsewhere m5_Elsewhere : Option Value}
    {nm_Known q_Known : Str} {N_Known : Addr} {bs_Known : List Value} {sn_Known : List Str} {sub_Known : List Value} {ab_Known : Bool} {col_Known : Option Bool} {dd_Known : Option Addr} {m0_Known m1_Known m2_Known m3_Known m5_Known : Option Value}
    {nm_NoShare q_NoShare : Str} {N_NoShare : Addr} {bs_NoShare : List Value} {sn_NoShare : List Str} {sub_NoShare : List Value} {ab_NoShare : Bool} {col_NoShare : Option Bool} {dd_NoShare : Option Addr} {m0_NoShare m1_NoShare m2_NoShare m3_NoShare m5_NoShare : Option Value}
    (aC_PearlError : PySem.W.nsIn K mainGlobals "PearlError" = some (some (.ref C_PearlError)))
    (aC_BadBead : PySem.W.nsIn K mainGlobals "BadBead" = some (some (.ref C_BadBead)))
    (aC_BadRule : PySem.W.nsIn K mainGlobals "BadRule" = some (some (.ref C_BadRule)))
    (aC_BadLot : PySem.W.nsIn K mainGlobals "BadLot" = some (some (.ref C_BadLot)))
    (aC_BadDeed : PySem.W.nsIn K mainGlobals "BadDeed" = some (some (.ref C_BadDeed)))
    (aC_NoRow : PySem.W.nsIn K mainGlobals "NoRow" = some (some (.ref C_NoRow)))
    (aC_NotLet : PySem.W.nsIn K mainGlobals "NotLet" = some (some (.ref C_NotLet)))
    (aC_TooLate : PySem.W.nsIn K mainGlobals "TooLate" = some (some (.ref C_TooLate)))
    (aC_BadText : PySem.W.nsIn K mainGlobals "BadText" = some (some (.ref C_BadText)))
    (aC_NoSuch : PySem.W.nsIn K mainGlobals "NoSuch" = some (some (.ref C_NoSuch)))
    (aC_NoPlace : PySem.W.nsIn K mainGlobals "NoPlace" = some (some (.ref C_NoPlace)))
    (aC_Elsewhere : PySem.W.nsIn K mainGlobals "Elsewhere" = some (some (.ref C_Elsewhere)))
    (aC_Known : PySem.W.nsIn K mainGlobals "Known" = some (some (.ref C_Known)))
    (aC_NoShare : PySem.W.nsIn K mainGlobals "NoShare" = some (some (.ref C_NoShare)))
    (a0 : PySem.W.findIn K (.ref C_PearlError) "__init__" = some (some (.ref f0)))
    (i0 : PySem.W.isFn K (.ref f0) = true)
    (l0 : K.lookup f0 = some ⟨oc0, od0, .func (PySem.W.fnOf "__init__" "PearlError.__init__" (defArgs s_PearlError_init) (defBody s_PearlError_init) (defScope s_PearlError_init) (.ref T0) kV0 dc0 pm0 an0 cd0 ct0), sl0⟩)
    (d0 : K.lookup T0 = some ⟨oT0, dT0, .seq (List.toArray [.str "" td0_0]) nT0, sT0⟩)
    (c0 : PySem.W.codeIn K cd0 "PearlError.__init__" = true)
    (k0 : PySem.W.keepIn K (.ref f0) = true)
    (a1 : PySem.W.findIn K (.ref C_NotLet) "__init__" = some (some (.ref f1)))
    (i1 : PySem.W.isFn K (.ref f1) = true)
    (l1 : K.lookup f1 = some ⟨oc1, od1, .func (PySem.W.fnOf "__init__" "NotLet.__init__" (defArgs s_NotLet_init) (defBody s_NotLet_init) (defScope s_NotLet_init) .none kV1 dc1 pm1 an1 cd1 ct1), sl1⟩)
    (c1 : PySem.W.codeIn K cd1 "NotLet.__init__" = true)
    (k1 : PySem.W.keepIn K (.ref f1) = true)
    (a2 : PySem.W.findIn K (.ref C_TooLate) "__init__" = some (some (.ref f2)))
    (i2 : PySem.W.isFn K (.ref f2) = true)
    (l2 : K.lookup f2 = some ⟨oc2, od2, .func (PySem.W.fnOf "__init__" "TooLate.__init__" (defArgs s_TooLate_init) (defBody s_TooLate_init) (defScope s_TooLate_init) .none kV2 dc2 pm2 an2 cd2 ct2), sl2⟩)
    (c2 : PySem.W.codeIn K cd2 "TooLate.__init__" = true)
    (k2 : PySem.W.keepIn K (.ref f2) = true)
    (a3 : PySem.W.findIn K (.ref C_BadText) "__init__" = some (some (.ref f3)))
    (i3 : PySem.W.isFn K (.ref f3) = true)
    (l3 : K.lookup f3 = some ⟨oc3, od3, .func (PySem.W.fnOf "__init__" "BadText.__init__" (defArgs s_BadText_init) (defBody s_BadText_init) (defScope s_BadText_init) .none kV3 dc3 pm3 an3 cd3 ct3), sl3⟩)
    (c3 : PySem.W.codeIn K cd3 "BadText.__init__" = true)
    (k3 : PySem.W.keepIn K (.ref f3) = true)
    (a4 : PySem.W.findIn K (.ref C_NoSuch) "__init__" = some (some (.ref f4)))
    (i4 : PySem.W.isFn K (.ref f4) = true)
    (l4 : K.lookup f4 = some ⟨oc4, od4, .func (PySem.W.fnOf "__init__" "NoSuch.__init__" (defArgs s_NoSuch_init) (defBody s_NoSuch_init) (defScope s_NoSuch_init) .none kV4 dc4 pm4 an4 cd4 ct4), sl4⟩)
    (c4 : PySem.W.codeIn K cd4 "NoSuch.__init__" = true)
    (k4 : PySem.W.keepIn K (.ref f4) = true)
    (a5 : PySem.W.findIn K (.ref C_NoPlace) "__init__" = some (some (.ref f5)))
    (i5 : PySem.W.isFn K (.ref f5) = true)
    (l5 : K.lookup f5 = some ⟨oc5, od5, .func (PySem.W.fnOf "__init__" "NoPlace.__init__" (defArgs s_NoPlace_init) (defBody s_NoPlace_init) (defScope s_NoPlace_init) .none kV5 dc5 pm5 an5 cd5 ct5), sl5⟩)
    (c5 : PySem.W.codeIn K cd5 "NoPlace.__init__" = true)
    (k5 : PySem.W.keepIn K (.ref f5) = true)
    (a6 : PySem.W.findIn K (.ref C_Elsewhere) "__init__" = some (some (.ref f6)))
    (i6 : PySem.W.isFn K (.ref f6) = true)
    (l6 : K.lookup f6 = some ⟨oc6, od6, .func (PySem.W.fnOf "__init__" "Elsewhere.__init__" (defArgs s_Elsewhere_init) (defBody s_Elsewhere_init) (defScope s_Elsewhere_init) .none kV6 dc6 pm6 an6 cd6 ct6), sl6⟩)
    (c6 : PySem.W.codeIn K cd6 "Elsewhere.__init__" = true)
    (k6 : PySem.W.keepIn K (.ref f6) = true)
    (a7 : PySem.W.findIn K (.ref C_Known) "__init__" = some (some (.ref f7)))
    (i7 : PySem.W.isFn K (.ref f7) = true)
    (l7 : K.lookup f7 = some ⟨oc7, od7, .func (PySem.W.fnOf "__init__" "Known.__init__" (defArgs s_Known_init) (defBody s_Known_init) (defScope s_Known_init) .none kV7 dc7 pm7 an7 cd7 ct7), sl7⟩)
    (c7 : PySem.W.codeIn K cd7 "Known.__init__" = true)
    (k7 : PySem.W.keepIn K (.ref f7) = true)
    (a8 : PySem.W.findIn K (.ref C_NoShare) "__init__" = some (some (.ref f8)))
    (i8 : PySem.W.isFn K (.ref f8) = true)
    (l8 : K.lookup f8 = some ⟨oc8, od8, .func (PySem.W.fnOf "__init__" "NoShare.__init__" (defArgs s_NoShare_init) (defBody s_NoShare_init) (defScope s_NoShare_init) .none kV8 dc8 pm8 an8 cd8 ct8), sl8⟩)
    (c8 : PySem.W.codeIn K cd8 "NoShare.__init__" = true)
    (k8 : PySem.W.keepIn K (.ref f8) = true)
    (a9 : PySem.W.nsIn K mainGlobals "_law_cell_at" = some (some (.ref f9)))
    (l9 : K.lookup f9 = some ⟨oc9, od9, .func (PySem.W.fnOf "_law_cell_at" "_law_cell_at" (defArgs s_cell_at) (defBody s_cell_at) (defScope s_cell_at) .none kV9 dc9 pm9 an9 cd9 ct9), sl9⟩)
    (c9 : PySem.W.codeIn K cd9 "_law_cell_at" = true)
    (k9 : PySem.W.keepIn K (.ref f9) = true)
    (a10 : PySem.W.nsIn K mainGlobals "_law_draws" = some (some (.ref f10)))
    (l10 : K.lookup f10 = some ⟨oc10, od10, .func (PySem.W.fnOf "_law_draws" "_law_draws" (defArgs s_draws) (defBody s_draws) (defScope s_draws) .none kV10 dc10 pm10 an10 cd10 ct10), sl10⟩)
    (c10 : PySem.W.codeIn K cd10 "_law_draws" = true)
    (k10 : PySem.W.keepIn K (.ref f10) = true)
    (a11 : PySem.W.nsIn K mainGlobals "_law_one" = some (some (.ref f11)))
    (l11 : K.lookup f11 = some ⟨oc11, od11, .func (PySem.W.fnOf "_law_one" "_law_one" (defArgs s_one) (defBody s_one) (defScope s_one) .none kV11 dc11 pm11 an11 cd11 ct11), sl11⟩)
    (c11 : PySem.W.codeIn K cd11 "_law_one" = true)
    (k11 : PySem.W.keepIn K (.ref f11) = true)
    (a12 : PySem.W.nsIn K mainGlobals "_law_of" = some (some (.ref f12)))
    (l12 : K.lookup f12 = some ⟨oc12, od12, .func (PySem.W.fnOf "_law_of" "_law_of" (defArgs s_of) (defBody s_of) (defScope s_of) .none kV12 dc12 pm12 an12 cd12 ct12), sl12⟩)
    (c12 : PySem.W.codeIn K cd12 "_law_of" = true)
    (k12 : PySem.W.keepIn K (.ref f12) = true)
    (a13 : PySem.W.nsIn K mainGlobals "_law_marks" = some (some (.ref f13)))
    (l13 : K.lookup f13 = some ⟨oc13, od13, .func (PySem.W.fnOf "_law_marks" "_law_marks" (defArgs s_marks) (defBody s_marks) (defScope s_marks) .none kV13 dc13 pm13 an13 cd13 ct13), sl13⟩)
    (c13 : PySem.W.codeIn K cd13 "_law_marks" = true)
    (k13 : PySem.W.keepIn K (.ref f13) = true)
    (a14 : PySem.W.nsIn K mainGlobals "_law_kinds" = some (some (.ref f14)))
    (l14 : K.lookup f14 = some ⟨oc14, od14, .func (PySem.W.fnOf "_law_kinds" "_law_kinds" (defArgs s_kinds) (defBody s_kinds) (defScope s_kinds) .none kV14 dc14 pm14 an14 cd14 ct14), sl14⟩)
    (c14 : PySem.W.codeIn K cd14 "_law_kinds" = true)
    (k14 : PySem.W.keepIn K (.ref f14) = true)
    (a15 : PySem.W.nsIn K mainGlobals "_law_is_of" = some (some (.ref f15)))
    (l15 : K.lookup f15 = some ⟨oc15, od15, .func (PySem.W.fnOf "_law_is_of" "_law_is_of" (defArgs s_is_of) (defBody s_is_of) (defScope s_is_of) .none kV15 dc15 pm15 an15 cd15 ct15), sl15⟩)
    (c15 : PySem.W.codeIn K cd15 "_law_is_of" = true)
    (k15 : PySem.W.keepIn K (.ref f15) = true)
    (a16 : PySem.W.nsIn K mainGlobals "_law_plain_right" = some (some (.ref f16)))
    (l16 : K.lookup f16 = some ⟨oc16, od16, .func (PySem.W.fnOf "_law_plain_right" "_law_plain_right" (defArgs s_plain_right) (defBody s_plain_right) (defScope s_plain_right) .none kV16 dc16 pm16 an16 cd16 ct16), sl16⟩)
    (c16 : PySem.W.codeIn K cd16 "_law_plain_right" = true)
    (k16 : PySem.W.keepIn K (.ref f16) = true)
    (a17 : PySem.W.nsIn K mainGlobals "_law_fields_right" = some (some (.ref f17)))
    (l17 : K.lookup f17 = some ⟨oc17, od17, .func (PySem.W.fnOf "_law_fields_right" "_law_fields_right" (defArgs s_fields_right) (defBody s_fields_right) (defScope s_fields_right) .none kV17 dc17 pm17 an17 cd17 ct17), sl17⟩)
    (c17 : PySem.W.codeIn K cd17 "_law_fields_right" = true)
    (k17 : PySem.W.keepIn K (.ref f17) = true)
    (a18 : PySem.W.nsIn K mainGlobals "law" = some (some (.ref f18)))
    (l18 : K.lookup f18 = some ⟨oc18, od18, .func (PySem.W.fnOf "law" "law" (defArgs s_law) (defBody s_law) (defScope s_law) .none kV18 dc18 pm18 an18 cd18 ct18), sl18⟩)
    (c18 : PySem.W.codeIn K cd18 "law" = true)
    (k18 : PySem.W.keepIn K (.ref f18) = true)
    (z0 : PySem.W.nsIn K mainGlobals "ValueError" = some none)
    (z1 : PySem.W.nsIn K mainGlobals "LookupError" = some none)
    (z2 : PySem.W.nsIn K mainGlobals "IndexError" = some none)
    (z3 : PySem.W.nsIn K mainGlobals "KeyError" = some none)
    (z4 : PySem.W.nsIn K mainGlobals "ZeroDivisionError" = some none)
    (z5 : PySem.W.nsIn K mainGlobals "len" = some none)
    (z6 : PySem.W.nsIn K mainGlobals "int" = some none)
    (z7 : PySem.W.nsIn K mainGlobals "isinstance" = some none)
    (z8 : PySem.W.nsIn K mainGlobals "range" = some none)
    (z9 : PySem.W.nsIn K mainGlobals "str" = some none)
    (xL_PearlError : K.lookup C_PearlError = some (excClassObj nm_PearlError q_PearlError C_PearlError N_PearlError bs_PearlError [.type "ValueError", .type "Exception", .type "BaseException", .type "object"] true sn_PearlError sub_PearlError ab_PearlError col_PearlError dd_PearlError m0_PearlError m1_PearlError m2_PearlError m3_PearlError m5_PearlError "ValueError.__new__"))
    (xsa_PearlError : PySem.W.findIn K (.ref C_PearlError) "__setattr__" = some (some (.builtin "object.__setattr__")))
    (xe_PearlError : PySem.W.subIn K (.ref C_PearlError) (.type "BaseException") = some true)
    (xt_PearlError : PySem.W.typeIn K (.ref C_PearlError) = some (.type "type"))
    (xk_PearlError : PySem.W.keepIn K (.ref C_PearlError) = true)
    (xi_PearlError : PySem.W.findIn K (.ref C_PearlError) "__init__" = some (some (.ref f0)))
    (xga_PearlError : PySem.W.findIn K (.ref C_PearlError) "__getattribute__" = some (some (.builtin "BaseException.__getattribute__")))
    (xgg_PearlError : PySem.W.findIn K (.ref C_PearlError) "__getattr__" = some none)
    (xhd_PearlError : PySem.W.hasDictIn K C_PearlError = true)
    (xca_PearlError : PySem.W.findIn K (.ref C_PearlError) "__class__" = some (some (.builtin "object.__class__")))
    (xcg_PearlError : PySem.W.specialIn K (.builtin "object.__class__") "__get__" = some (some (.builtin "getset_descriptor.__get__")))
    (xct_PearlError : PySem.W.takesIn K (.builtin "object.__class__") = some true)
    (xmo_PearlError : PySem.W.mroIn K C_PearlError (.type "object") = some true)
    (xn_PearlError_why : PySem.W.findIn K (.ref C_PearlError) "why" = some none)
    (xL_BadBead : K.lookup C_BadBead = some (excClassObj nm_BadBead q_BadBead C_BadBead N_BadBead bs_BadBead [.ref C_PearlError, .type "ValueError", .type "Exception", .type "BaseException", .type "object"] true sn_BadBead sub_BadBead ab_BadBead col_BadBead dd_BadBead m0_BadBead m1_BadBead m2_BadBead m3_BadBead m5_BadBead "ValueError.__new__"))
    (xsa_BadBead : PySem.W.findIn K (.ref C_BadBead) "__setattr__" = some (some (.builtin "object.__setattr__")))
    (xe_BadBead : PySem.W.subIn K (.ref C_BadBead) (.type "BaseException") = some true)
    (xt_BadBead : PySem.W.typeIn K (.ref C_BadBead) = some (.type "type"))
    (xk_BadBead : PySem.W.keepIn K (.ref C_BadBead) = true)
    (xi_BadBead : PySem.W.findIn K (.ref C_BadBead) "__init__" = some (some (.ref f0)))
    (xga_BadBead : PySem.W.findIn K (.ref C_BadBead) "__getattribute__" = some (some (.builtin "BaseException.__getattribute__")))
    (xgg_BadBead : PySem.W.findIn K (.ref C_BadBead) "__getattr__" = some none)
    (xhd_BadBead : PySem.W.hasDictIn K C_BadBead = true)
    (xca_BadBead : PySem.W.findIn K (.ref C_BadBead) "__class__" = some (some (.builtin "object.__class__")))
    (xcg_BadBead : PySem.W.specialIn K (.builtin "object.__class__") "__get__" = some (some (.builtin "getset_descriptor.__get__")))
    (xct_BadBead : PySem.W.takesIn K (.builtin "object.__class__") = some true)
    (xmo_BadBead : PySem.W.mroIn K C_BadBead (.type "object") = some true)
    (xn_BadBead_why : PySem.W.findIn K (.ref C_BadBead) "why" = some none)
    (xL_BadRule : K.lookup C_BadRule = some (excClassObj nm_BadRule q_BadRule C_BadRule N_BadRule bs_BadRule [.ref C_PearlError, .type "ValueError", .type "Exception", .type "BaseException", .type "object"] true sn_BadRule sub_BadRule ab_BadRule col_BadRule dd_BadRule m0_BadRule m1_BadRule m2_BadRule m3_BadRule m5_BadRule "ValueError.__new__"))
    (xsa_BadRule : PySem.W.findIn K (.ref C_BadRule) "__setattr__" = some (some (.builtin "object.__setattr__")))
    (xe_BadRule : PySem.W.subIn K (.ref C_BadRule) (.type "BaseException") = some true)
    (xt_BadRule : PySem.W.typeIn K (.ref C_BadRule) = some (.type "type"))
    (xk_BadRule : PySem.W.keepIn K (.ref C_BadRule) = true)
    (xi_BadRule : PySem.W.findIn K (.ref C_BadRule) "__init__" = some (some (.ref f0)))
    (xga_BadRule : PySem.W.findIn K (.ref C_BadRule) "__getattribute__" = some (some (.builtin "BaseException.__getattribute__")))
    (xgg_BadRule : PySem.W.findIn K (.ref C_BadRule) "__getattr__" = some none)
    (xhd_BadRule : PySem.W.hasDictIn K C_BadRule = true)
    (xca_BadRule : PySem.W.findIn K (.ref C_BadRule) "__class__" = some (some (.builtin "object.__class__")))
    (xcg_BadRule : PySem.W.specialIn K (.builtin "object.__class__") "__get__" = some (some (.builtin "getset_descriptor.__get__")))
    (xct_BadRule : PySem.W.takesIn K (.builtin "object.__class__") = some true)
    (xmo_BadRule : PySem.W.mroIn K C_BadRule (.type "object") = some true)
    (xn_BadRule_why : PySem.W.findIn K (.ref C_BadRule) "why" = some none)
    (xL_BadLot : K.lookup C_BadLot = some (excClassObj nm_BadLot q_BadLot C_BadLot N_BadLot bs_BadLot [.ref C_PearlError, .type "ValueError", .type "Exception", .type "BaseException", .type "object"] true sn_BadLot sub_BadLot ab_BadLot col_BadLot dd_BadLot m0_BadLot m1_BadLot m2_BadLot m3_BadLot m5_BadLot "ValueError.__new__"))
    (xsa_BadLot : PySem.W.findIn K (.ref C_BadLot) "__setattr__" = some (some (.builtin "object.__setattr__")))
    (xe_BadLot : PySem.W.subIn K (.ref C_BadLot) (.type "BaseException") = some true)
    (xt_BadLot : PySem.W.typeIn K (.ref C_BadLot) = some (.type "type"))
    (xk_BadLot : PySem.W.keepIn K (.ref C_BadLot) = true)
    (xi_BadLot : PySem.W.findIn K (.ref C_BadLot) "__init__" = some (some (.ref f0)))
    (xga_BadLot : PySem.W.findIn K (.ref C_BadLot) "__getattribute__" = some (some (.builtin "BaseException.__getattribute__")))
    (xgg_BadLot : PySem.W.findIn K (.ref C_BadLot) "__getattr__" = some none)
    (xhd_BadLot : PySem.W.hasDictIn K C_BadLot = true)
    (xca_BadLot : PySem.W.findIn K (.ref C_BadLot) "__class__" = some (some (.builtin "object.__class__")))
    (xcg_BadLot : PySem.W.specialIn K (.builtin "object.__class__") "__get__" = some (some (.builtin "getset_descriptor.__get__")))
    (xct_BadLot : PySem.W.takesIn K (.builtin "object.__class__") = some true)
    (xmo_BadLot : PySem.W.mroIn K C_BadLot (.type "object") = some true)
    (xn_BadLot_why : PySem.W.findIn K (.ref C_BadLot) "why" = some none)
    (xL_BadDeed : K.lookup C_BadDeed = some (excClassObj nm_BadDeed q_BadDeed C_BadDeed N_BadDeed bs_BadDeed [.ref C_PearlError, .type "ValueError", .type "Exception", .type "BaseException", .type "object"] true sn_BadDeed sub_BadDeed ab_BadDeed col_BadDeed dd_BadDeed m0_BadDeed m1_BadDeed m2_BadDeed m3_BadDeed m5_BadDeed "ValueError.__new__"))
    (xsa_BadDeed : PySem.W.findIn K (.ref C_BadDeed) "__setattr__" = some (some (.builtin "object.__setattr__")))
    (xe_BadDeed : PySem.W.subIn K (.ref C_BadDeed) (.type "BaseException") = some true)
    (xt_BadDeed : PySem.W.typeIn K (.ref C_BadDeed) = some (.type "type"))
    (xk_BadDeed : PySem.W.keepIn K (.ref C_BadDeed) = true)
    (xi_BadDeed : PySem.W.findIn K (.ref C_BadDeed) "__init__" = some (some (.ref f0)))
    (xga_BadDeed : PySem.W.findIn K (.ref C_BadDeed) "__getattribute__" = some (some (.builtin "BaseException.__getattribute__")))
    (xgg_BadDeed : PySem.W.findIn K (.ref C_BadDeed) "__getattr__" = some none)
    (xhd_BadDeed : PySem.W.hasDictIn K C_BadDeed = true)
    (xca_BadDeed : PySem.W.findIn K (.ref C_BadDeed) "__class__" = some (some (.builtin "object.__class__")))
    (xcg_BadDeed : PySem.W.specialIn K (.builtin "object.__class__") "__get__" = some (some (.builtin "getset_descriptor.__get__")))
    (xct_BadDeed : PySem.W.takesIn K (.builtin "object.__class__") = some true)
    (xmo_BadDeed : PySem.W.mroIn K C_BadDeed (.type "object") = some true)
    (xn_BadDeed_why : PySem.W.findIn K (.ref C_BadDeed) "why" = some none)
    (xL_NoRow : K.lookup C_NoRow = some (excClassObj nm_NoRow q_NoRow C_NoRow N_NoRow bs_NoRow [.ref C_PearlError, .type "ValueError", .type "Exception", .type "BaseException", .type "object"] true sn_NoRow sub_NoRow ab_NoRow col_NoRow dd_NoRow m0_NoRow m1_NoRow m2_NoRow m3_NoRow m5_NoRow "ValueError.__new__"))
    (xsa_NoRow : PySem.W.findIn K (.ref C_NoRow) "__setattr__" = some (some (.builtin "object.__setattr__")))
    (xe_NoRow : PySem.W.subIn K (.ref C_NoRow) (.type "BaseException") = some true)
    (xt_NoRow : PySem.W.typeIn K (.ref C_NoRow) = some (.type "type"))
    (xk_NoRow : PySem.W.keepIn K (.ref C_NoRow) = true)
    (xi_NoRow : PySem.W.findIn K (.ref C_NoRow) "__init__" = some (some (.ref f0)))
    (xga_NoRow : PySem.W.findIn K (.ref C_NoRow) "__getattribute__" = some (some (.builtin "BaseException.__getattribute__")))
    (xgg_NoRow : PySem.W.findIn K (.ref C_NoRow) "__getattr__" = some none)
    (xhd_NoRow : PySem.W.hasDictIn K C_NoRow = true)
    (xca_NoRow : PySem.W.findIn K (.ref C_NoRow) "__class__" = some (some (.builtin "object.__class__")))
    (xcg_NoRow : PySem.W.specialIn K (.builtin "object.__class__") "__get__" = some (some (.builtin "getset_descriptor.__get__")))
    (xct_NoRow : PySem.W.takesIn K (.builtin "object.__class__") = some true)
    (xmo_NoRow : PySem.W.mroIn K C_NoRow (.type "object") = some true)
    (xn_NoRow_why : PySem.W.findIn K (.ref C_NoRow) "why" = some none)
    (xL_NotLet : K.lookup C_NotLet = some (excClassObj nm_NotLet q_NotLet C_NotLet N_NotLet bs_NotLet [.ref C_PearlError, .type "ValueError", .type "Exception", .type "BaseException", .type "object"] true sn_NotLet sub_NotLet ab_NotLet col_NotLet dd_NotLet m0_NotLet m1_NotLet m2_NotLet m3_NotLet m5_NotLet "ValueError.__new__"))
    (xsa_NotLet : PySem.W.findIn K (.ref C_NotLet) "__setattr__" = some (some (.builtin "object.__setattr__")))
    (xe_NotLet : PySem.W.subIn K (.ref C_NotLet) (.type "BaseException") = some true)
    (xt_NotLet : PySem.W.typeIn K (.ref C_NotLet) = some (.type "type"))
    (xk_NotLet : PySem.W.keepIn K (.ref C_NotLet) = true)
    (xi_NotLet : PySem.W.findIn K (.ref C_NotLet) "__init__" = some (some (.ref f1)))
    (xga_NotLet : PySem.W.findIn K (.ref C_NotLet) "__getattribute__" = some (some (.builtin "BaseException.__getattribute__")))
    (xgg_NotLet : PySem.W.findIn K (.ref C_NotLet) "__getattr__" = some none)
    (xhd_NotLet : PySem.W.hasDictIn K C_NotLet = true)
    (xca_NotLet : PySem.W.findIn K (.ref C_NotLet) "__class__" = some (some (.builtin "object.__class__")))
    (xcg_NotLet : PySem.W.specialIn K (.builtin "object.__class__") "__get__" = some (some (.builtin "getset_descriptor.__get__")))
    (xct_NotLet : PySem.W.takesIn K (.builtin "object.__class__") = some true)
    (xmo_NotLet : PySem.W.mroIn K C_NotLet (.type "object") = some true)
    (xn_NotLet_why : PySem.W.findIn K (.ref C_NotLet) "why" = some none)
    (xn_NotLet_at : PySem.W.findIn K (.ref C_NotLet) "at" = some none)
    (xL_TooLate : K.lookup C_TooLate = some (excClassObj nm_TooLate q_TooLate C_TooLate N_TooLate bs_TooLate [.ref C_PearlError, .type "ValueError", .type "Exception", .type "BaseException", .type "object"] true sn_TooLate sub_TooLate ab_TooLate col_TooLate dd_TooLate m0_TooLate m1_TooLate m2_TooLate m3_TooLate m5_TooLate "ValueError.__new__"))
    (xsa_TooLate : PySem.W.findIn K (.ref C_TooLate) "__setattr__" = some (some (.builtin "object.__setattr__")))
    (xe_TooLate : PySem.W.subIn K (.ref C_TooLate) (.type "BaseException") = some true)
    (xt_TooLate : PySem.W.typeIn K (.ref C_TooLate) = some (.type "type"))
    (xk_TooLate : PySem.W.keepIn K (.ref C_TooLate) = true)
    (xi_TooLate : PySem.W.findIn K (.ref C_TooLate) "__init__" = some (some (.ref f2)))
    (xga_TooLate : PySem.W.findIn K (.ref C_TooLate) "__getattribute__" = some (some (.builtin "BaseException.__getattribute__")))
    (xgg_TooLate : PySem.W.findIn K (.ref C_TooLate) "__getattr__" = some none)
    (xhd_TooLate : PySem.W.hasDictIn K C_TooLate = true)
    (xca_TooLate : PySem.W.findIn K (.ref C_TooLate) "__class__" = some (some (.builtin "object.__class__")))
    (xcg_TooLate : PySem.W.specialIn K (.builtin "object.__class__") "__get__" = some (some (.builtin "getset_descriptor.__get__")))
    (xct_TooLate : PySem.W.takesIn K (.builtin "object.__class__") = some true)
    (xmo_TooLate : PySem.W.mroIn K C_TooLate (.type "object") = some true)
    (xn_TooLate_why : PySem.W.findIn K (.ref C_TooLate) "why" = some none)
    (xn_TooLate_at : PySem.W.findIn K (.ref C_TooLate) "at" = some none)
    (xL_BadText : K.lookup C_BadText = some (excClassObj nm_BadText q_BadText C_BadText N_BadText bs_BadText [.ref C_PearlError, .type "ValueError", .type "Exception", .type "BaseException", .type "object"] true sn_BadText sub_BadText ab_BadText col_BadText dd_BadText m0_BadText m1_BadText m2_BadText m3_BadText m5_BadText "ValueError.__new__"))
    (xsa_BadText : PySem.W.findIn K (.ref C_BadText) "__setattr__" = some (some (.builtin "object.__setattr__")))
    (xe_BadText : PySem.W.subIn K (.ref C_BadText) (.type "BaseException") = some true)
    (xt_BadText : PySem.W.typeIn K (.ref C_BadText) = some (.type "type"))
    (xk_BadText : PySem.W.keepIn K (.ref C_BadText) = true)
    (xi_BadText : PySem.W.findIn K (.ref C_BadText) "__init__" = some (some (.ref f3)))
    (xga_BadText : PySem.W.findIn K (.ref C_BadText) "__getattribute__" = some (some (.builtin "BaseException.__getattribute__")))
    (xgg_BadText : PySem.W.findIn K (.ref C_BadText) "__getattr__" = some none)
    (xhd_BadText : PySem.W.hasDictIn K C_BadText = true)
    (xca_BadText : PySem.W.findIn K (.ref C_BadText) "__class__" = some (some (.builtin "object.__class__")))
    (xcg_BadText : PySem.W.specialIn K (.builtin "object.__class__") "__get__" = some (some (.builtin "getset_descriptor.__get__")))
    (xct_BadText : PySem.W.takesIn K (.builtin "object.__class__") = some true)
    (xmo_BadText : PySem.W.mroIn K C_BadText (.type "object") = some true)
    (xn_BadText_why : PySem.W.findIn K (.ref C_BadText) "why" = some none)
    (xn_BadText_line : PySem.W.findIn K (.ref C_BadText) "line" = some none)
    (xL_NoSuch : K.lookup C_NoSuch = some (excClassObj nm_NoSuch q_NoSuch C_NoSuch N_NoSuch bs_NoSuch [.type "LookupError", .type "Exception", .type "BaseException", .type "object"] true sn_NoSuch sub_NoSuch ab_NoSuch col_NoSuch dd_NoSuch m0_NoSuch m1_NoSuch m2_NoSuch m3_NoSuch m5_NoSuch "LookupError.__new__"))
    (xsa_NoSuch : PySem.W.findIn K (.ref C_NoSuch) "__setattr__" = some (some (.builtin "object.__setattr__")))
    (xe_NoSuch : PySem.W.subIn K (.ref C_NoSuch) (.type "BaseException") = some true)
    (xt_NoSuch : PySem.W.typeIn K (.ref C_NoSuch) = some (.type "type"))
    (xk_NoSuch : PySem.W.keepIn K (.ref C_NoSuch) = true)
    (xi_NoSuch : PySem.W.findIn K (.ref C_NoSuch) "__init__" = some (some (.ref f4)))
    (xga_NoSuch : PySem.W.findIn K (.ref C_NoSuch) "__getattribute__" = some (some (.builtin "BaseException.__getattribute__")))
    (xgg_NoSuch : PySem.W.findIn K (.ref C_NoSuch) "__getattr__" = some none)
    (xhd_NoSuch : PySem.W.hasDictIn K C_NoSuch = true)
    (xca_NoSuch : PySem.W.findIn K (.ref C_NoSuch) "__class__" = some (some (.builtin "object.__class__")))
    (xcg_NoSuch : PySem.W.specialIn K (.builtin "object.__class__") "__get__" = some (some (.builtin "getset_descriptor.__get__")))
    (xct_NoSuch : PySem.W.takesIn K (.builtin "object.__class__") = some true)
    (xmo_NoSuch : PySem.W.mroIn K C_NoSuch (.type "object") = some true)
    (xn_NoSuch_kind : PySem.W.findIn K (.ref C_NoSuch) "kind" = some none)
    (xn_NoSuch_name : PySem.W.findIn K (.ref C_NoSuch) "name" = some none)
    (xL_NoPlace : K.lookup C_NoPlace = some (excClassObj nm_NoPlace q_NoPlace C_NoPlace N_NoPlace bs_NoPlace [.type "IndexError", .type "LookupError", .type "Exception", .type "BaseException", .type "object"] true sn_NoPlace sub_NoPlace ab_NoPlace col_NoPlace dd_NoPlace m0_NoPlace m1_NoPlace m2_NoPlace m3_NoPlace m5_NoPlace "IndexError.__new__"))
    (xsa_NoPlace : PySem.W.findIn K (.ref C_NoPlace) "__setattr__" = some (some (.builtin "object.__setattr__")))
    (xe_NoPlace : PySem.W.subIn K (.ref C_NoPlace) (.type "BaseException") = some true)
    (xt_NoPlace : PySem.W.typeIn K (.ref C_NoPlace) = some (.type "type"))
    (xk_NoPlace : PySem.W.keepIn K (.ref C_NoPlace) = true)
    (xi_NoPlace : PySem.W.findIn K (.ref C_NoPlace) "__init__" = some (some (.ref f5)))
    (xga_NoPlace : PySem.W.findIn K (.ref C_NoPlace) "__getattribute__" = some (some (.builtin "BaseException.__getattribute__")))
    (xgg_NoPlace : PySem.W.findIn K (.ref C_NoPlace) "__getattr__" = some none)
    (xhd_NoPlace : PySem.W.hasDictIn K C_NoPlace = true)
    (xca_NoPlace : PySem.W.findIn K (.ref C_NoPlace) "__class__" = some (some (.builtin "object.__class__")))
    (xcg_NoPlace : PySem.W.specialIn K (.builtin "object.__class__") "__get__" = some (some (.builtin "getset_descriptor.__get__")))
    (xct_NoPlace : PySem.W.takesIn K (.builtin "object.__class__") = some true)
    (xmo_NoPlace : PySem.W.mroIn K C_NoPlace (.type "object") = some true)
    (xn_NoPlace_at : PySem.W.findIn K (.ref C_NoPlace) "at" = some none)
    (xL_Elsewhere : K.lookup C_Elsewhere = some (excClassObj nm_Elsewhere q_Elsewhere C_Elsewhere N_Elsewhere bs_Elsewhere [.type "KeyError", .type "LookupError", .type "Exception", .type "BaseException", .type "object"] true sn_Elsewhere sub_Elsewhere ab_Elsewhere col_Elsewhere dd_Elsewhere m0_Elsewhere m1_Elsewhere m2_Elsewhere m3_Elsewhere m5_Elsewhere "LookupError.__new__"))
    (xsa_Elsewhere : PySem.W.findIn K (.ref C_Elsewhere) "__setattr__" = some (some (.builtin "object.__setattr__")))
    (xe_Elsewhere : PySem.W.subIn K (.ref C_Elsewhere) (.type "BaseException") = some true)
    (xt_Elsewhere : PySem.W.typeIn K (.ref C_Elsewhere) = some (.type "type"))
    (xk_Elsewhere : PySem.W.keepIn K (.ref C_Elsewhere) = true)
    (xi_Elsewhere : PySem.W.findIn K (.ref C_Elsewhere) "__init__" = some (some (.ref f6)))
    (xga_Elsewhere : PySem.W.findIn K (.ref C_Elsewhere) "__getattribute__" = some (some (.builtin "BaseException.__getattribute__")))
    (xgg_Elsewhere : PySem.W.findIn K (.ref C_Elsewhere) "__getattr__" = some none)
    (xhd_Elsewhere : PySem.W.hasDictIn K C_Elsewhere = true)
    (xca_Elsewhere : PySem.W.findIn K (.ref C_Elsewhere) "__class__" = some (some (.builtin "object.__class__")))
    (xcg_Elsewhere : PySem.W.specialIn K (.builtin "object.__class__") "__get__" = some (some (.builtin "getset_descriptor.__get__")))
    (xct_Elsewhere : PySem.W.takesIn K (.builtin "object.__class__") = some true)
    (xmo_Elsewhere : PySem.W.mroIn K C_Elsewhere (.type "object") = some true)
    (xn_Elsewhere_number : PySem.W.findIn K (.ref C_Elsewhere) "number" = some none)
    (xn_Elsewhere_place : PySem.W.findIn K (.ref C_Elsewhere) "place" = some none)
    (xL_Known : K.lookup C_Known = some (excClassObj nm_Known q_Known C_Known N_Known bs_Known [.type "KeyError", .type "LookupError", .type "Exception", .type "BaseException", .type "object"] true sn_Known sub_Known ab_Known col_Known dd_Known m0_Known m1_Known m2_Known m3_Known m5_Known "LookupError.__new__"))
    (xsa_Known : PySem.W.findIn K (.ref C_Known) "__setattr__" = some (some (.builtin "object.__setattr__")))
    (xe_Known : PySem.W.subIn K (.ref C_Known) (.type "BaseException") = some true)
    (xt_Known : PySem.W.typeIn K (.ref C_Known) = some (.type "type"))
    (xk_Known : PySem.W.keepIn K (.ref C_Known) = true)
    (xi_Known : PySem.W.findIn K (.ref C_Known) "__init__" = some (some (.ref f7)))
    (xga_Known : PySem.W.findIn K (.ref C_Known) "__getattribute__" = some (some (.builtin "BaseException.__getattribute__")))
    (xgg_Known : PySem.W.findIn K (.ref C_Known) "__getattr__" = some none)
    (xhd_Known : PySem.W.hasDictIn K C_Known = true)
    (xca_Known : PySem.W.findIn K (.ref C_Known) "__class__" = some (some (.builtin "object.__class__")))
    (xcg_Known : PySem.W.specialIn K (.builtin "object.__class__") "__get__" = some (some (.builtin "getset_descriptor.__get__")))
    (xct_Known : PySem.W.takesIn K (.builtin "object.__class__") = some true)
    (xmo_Known : PySem.W.mroIn K C_Known (.type "object") = some true)
    (xn_Known_kind : PySem.W.findIn K (.ref C_Known) "kind" = some none)
    (xn_Known_name : PySem.W.findIn K (.ref C_Known) "name" = some none)
    (xL_NoShare : K.lookup C_NoShare = some (excClassObj nm_NoShare q_NoShare C_NoShare N_NoShare bs_NoShare [.type "ZeroDivisionError", .type "ArithmeticError", .type "Exception", .type "BaseException", .type "object"] true sn_NoShare sub_NoShare ab_NoShare col_NoShare dd_NoShare m0_NoShare m1_NoShare m2_NoShare m3_NoShare m5_NoShare "ZeroDivisionError.__new__"))
    (xsa_NoShare : PySem.W.findIn K (.ref C_NoShare) "__setattr__" = some (some (.builtin "object.__setattr__")))
    (xe_NoShare : PySem.W.subIn K (.ref C_NoShare) (.type "BaseException") = some true)
    (xt_NoShare : PySem.W.typeIn K (.ref C_NoShare) = some (.type "type"))
    (xk_NoShare : PySem.W.keepIn K (.ref C_NoShare) = true)
    (xi_NoShare : PySem.W.findIn K (.ref C_NoShare) "__init__" = some (some (.ref f8)))
    (xga_NoShare : PySem.W.findIn K (.ref C_NoShare) "__getattribute__" = some (some (.builtin "BaseException.__getattribute__")))
    (xgg_NoShare : PySem.W.findIn K (.ref C_NoShare) "__getattr__" = some none)
    (xhd_NoShare : PySem.W.hasDictIn K C_NoShare = true)
    (xca_NoShare : PySem.W.findIn K (.ref C_NoShare) "__class__" = some (some (.builtin "object.__class__")))
    (xcg_NoShare : PySem.W.specialIn K (.builtin "object.__class__") "__get__" = some (some (.builtin "getset_descriptor.__get__")))
    (xct_NoShare : PySem.W.takesIn K (.builtin "object.__class__") = some true)
    (xmo_NoShare : PySem.W.mroIn K C_NoShare (.type "object") = some true)
    (xn_NoShare_num : PySem.W.findIn K (.ref C_NoShare) "num" = some none)
    (vV_IndexError : PySem.W.findCls K (.type "IndexError") (.type "type") "__init__" = some (.val (.builtin "IndexError.__init__")))
    (vV_KeyError : PySem.W.findCls K (.type "KeyError") (.type "type") "__init__" = some (.val (.builtin "KeyError.__init__")))
    (vV_LookupError : PySem.W.findCls K (.type "LookupError") (.type "type") "__init__" = some (.val (.builtin "LookupError.__init__")))
    (vV_ValueError : PySem.W.findCls K (.type "ValueError") (.type "type") "__init__" = some (.val (.builtin "ValueError.__init__")))
    (vV_ZeroDivisionError : PySem.W.findCls K (.type "ZeroDivisionError") (.type "type") "__init__" = some (.val (.builtin "ZeroDivisionError.__init__")))
    (vV : PySem.W.findCls K (.type "ValueError") (.type "type") "__init__" = some (.val (.builtin "ValueError.__init__")))
    (cf1 : PySem.W.specialIn K (.ref C_PearlError) "__getattribute__" = some (some (.builtin "type.__getattribute__")))
    (cf2 : PySem.W.readsIn K C_PearlError (.type "type") = true)
    (cf3 : PySem.W.findCls K (.ref C_PearlError) (.type "type") "__init__" = some (.val (.ref f0)))
    (ki_PearlError : PySem.W.kitOne K (.ref C_PearlError) (.ref C_PearlError) = some true ∧ PySem.W.kitOne K (.ref C_PearlError) (.ref C_BadBead) = some false ∧ PySem.W.kitOne K (.ref C_PearlError) (.ref C_BadRule) = some false ∧ PySem.W.kitOne K (.ref C_PearlError) (.ref C_BadLot) = some false ∧ PySem.W.kitOne K (.ref C_PearlError) (.ref C_BadDeed) = some false ∧ PySem.W.kitOne K (.ref C_PearlError) (.ref C_NoRow) = some false ∧ PySem.W.kitOne K (.ref C_PearlError) (.ref C_NotLet) = some false ∧ PySem.W.kitOne K (.ref C_PearlError) (.ref C_TooLate) = some false ∧ PySem.W.kitOne K (.ref C_PearlError) (.ref C_BadText) = some false ∧ PySem.W.kitOne K (.ref C_PearlError) (.ref C_NoSuch) = some false ∧ PySem.W.kitOne K (.ref C_PearlError) (.ref C_NoPlace) = some false ∧ PySem.W.kitOne K (.ref C_PearlError) (.ref C_Elsewhere) = some false ∧ PySem.W.kitOne K (.ref C_PearlError) (.ref C_Known) = some false ∧ PySem.W.kitOne K (.ref C_PearlError) (.ref C_NoShare) = some false ∧ PySem.W.kitOne K (.ref C_PearlError) (.type "ValueError") = some true ∧ PySem.W.kitOne K (.ref C_PearlError) (.type "LookupError") = some false ∧ PySem.W.kitOne K (.ref C_PearlError) (.type "IndexError") = some false ∧ PySem.W.kitOne K (.ref C_PearlError) (.type "KeyError") = some false ∧ PySem.W.kitOne K (.ref C_PearlError) (.type "ZeroDivisionError") = some false)
    (ki_BadBead : PySem.W.kitOne K (.ref C_BadBead) (.ref C_PearlError) = some true ∧ PySem.W.kitOne K (.ref C_BadBead) (.ref C_BadBead) = some true ∧ PySem.W.kitOne K (.ref C_BadBead) (.ref C_BadRule) = some false ∧ PySem.W.kitOne K (.ref C_BadBead) (.ref C_BadLot) = some false ∧ PySem.W.kitOne K (.ref C_BadBead) (.ref C_BadDeed) = some false ∧ PySem.W.kitOne K (.ref C_BadBead) (.ref C_NoRow) = some false ∧ PySem.W.kitOne K (.ref C_BadBead) (.ref C_NotLet) = some false ∧ PySem.W.kitOne K (.ref C_BadBead) (.ref C_TooLate) = some false ∧ PySem.W.kitOne K (.ref C_BadBead) (.ref C_BadText) = some false ∧ PySem.W.kitOne K (.ref C_BadBead) (.ref C_NoSuch) = some false ∧ PySem.W.kitOne K (.ref C_BadBead) (.ref C_NoPlace) = some false ∧ PySem.W.kitOne K (.ref C_BadBead) (.ref C_Elsewhere) = some false ∧ PySem.W.kitOne K (.ref C_BadBead) (.ref C_Known) = some false ∧ PySem.W.kitOne K (.ref C_BadBead) (.ref C_NoShare) = some false ∧ PySem.W.kitOne K (.ref C_BadBead) (.type "ValueError") = some true ∧ PySem.W.kitOne K (.ref C_BadBead) (.type "LookupError") = some false ∧ PySem.W.kitOne K (.ref C_BadBead) (.type "IndexError") = some false ∧ PySem.W.kitOne K (.ref C_BadBead) (.type "KeyError") = some false ∧ PySem.W.kitOne K (.ref C_BadBead) (.type "ZeroDivisionError") = some false)
    (ki_BadRule : PySem.W.kitOne K (.ref C_BadRule) (.ref C_PearlError) = some true ∧ PySem.W.kitOne K (.ref C_BadRule) (.ref C_BadBead) = some false ∧ PySem.W.kitOne K (.ref C_BadRule) (.ref C_BadRule) = some true ∧ PySem.W.kitOne K (.ref C_BadRule) (.ref C_BadLot) = some false ∧ PySem.W.kitOne K (.ref C_BadRule) (.ref C_BadDeed) = some false ∧ PySem.W.kitOne K (.ref C_BadRule) (.ref C_NoRow) = some false ∧ PySem.W.kitOne K (.ref C_BadRule) (.ref C_NotLet) = some false ∧ PySem.W.kitOne K (.ref C_BadRule) (.ref C_TooLate) = some false ∧ PySem.W.kitOne K (.ref C_BadRule) (.ref C_BadText) = some false ∧ PySem.W.kitOne K (.ref C_BadRule) (.ref C_NoSuch) = some false ∧ PySem.W.kitOne K (.ref C_BadRule) (.ref C_NoPlace) = some false ∧ PySem.W.kitOne K (.ref C_BadRule) (.ref C_Elsewhere) = some false ∧ PySem.W.kitOne K (.ref C_BadRule) (.ref C_Known) = some false ∧ PySem.W.kitOne K (.ref C_BadRule) (.ref C_NoShare) = some false ∧ PySem.W.kitOne K (.ref C_BadRule) (.type "ValueError") = some true ∧ PySem.W.kitOne K (.ref C_BadRule) (.type "LookupError") = some false ∧ PySem.W.kitOne K (.ref C_BadRule) (.type "IndexError") = some false ∧ PySem.W.kitOne K (.ref C_BadRule) (.type "KeyError") = some false ∧ PySem.W.kitOne K (.ref C_BadRule) (.type "ZeroDivisionError") = some false)
    (ki_BadLot : PySem.W.kitOne K (.ref C_BadLot) (.ref C_PearlError) = some true ∧ PySem.W.kitOne K (.ref C_BadLot) (.ref C_BadBead) = some false ∧ PySem.W.kitOne K (.ref C_BadLot) (.ref C_BadRule) = some false ∧ PySem.W.kitOne K (.ref C_BadLot) (.ref C_BadLot) = some true ∧ PySem.W.kitOne K (.ref C_BadLot) (.ref C_BadDeed) = some false ∧ PySem.W.kitOne K (.ref C_BadLot) (.ref C_NoRow) = some false ∧ PySem.W.kitOne K (.ref C_BadLot) (.ref C_NotLet) = some false ∧ PySem.W.kitOne K (.ref C_BadLot) (.ref C_TooLate) = some false ∧ PySem.W.kitOne K (.ref C_BadLot) (.ref C_BadText) = some false ∧ PySem.W.kitOne K (.ref C_BadLot) (.ref C_NoSuch) = some false ∧ PySem.W.kitOne K (.ref C_BadLot) (.ref C_NoPlace) = some false ∧ PySem.W.kitOne K (.ref C_BadLot) (.ref C_Elsewhere) = some false ∧ PySem.W.kitOne K (.ref C_BadLot) (.ref C_Known) = some false ∧ PySem.W.kitOne K (.ref C_BadLot) (.ref C_NoShare) = some false ∧ PySem.W.kitOne K (.ref C_BadLot) (.type "ValueError") = some true ∧ PySem.W.kitOne K (.ref C_BadLot) (.type "LookupError") = some false ∧ PySem.W.kitOne K (.ref C_BadLot) (.type "IndexError") = some false ∧ PySem.W.kitOne K (.ref C_BadLot) (.type "KeyError") = some false ∧ PySem.W.kitOne K (.ref C_BadLot) (.type "ZeroDivisionError") = some false)
    (ki_BadDeed : PySem.W.kitOne K (.ref C_BadDeed) (.ref C_PearlError) = some true ∧ PySem.W.kitOne K (.ref C_BadDeed) (.ref C_BadBead) = some false ∧ PySem.W.kitOne K (.ref C_BadDeed) (.ref C_BadRule) = some false ∧ PySem.W.kitOne K (.ref C_BadDeed) (.ref C_BadLot) = some false ∧ PySem.W.kitOne K (.ref C_BadDeed) (.ref C_BadDeed) = some true ∧ PySem.W.kitOne K (.ref C_BadDeed) (.ref C_NoRow) = some false ∧ PySem.W.kitOne K (.ref C_BadDeed) (.ref C_NotLet) = some false ∧ PySem.W.kitOne K (.ref C_BadDeed) (.ref C_TooLate) = some false ∧ PySem.W.kitOne K (.ref C_BadDeed) (.ref C_BadText) = some false ∧ PySem.W.kitOne K (.ref C_BadDeed) (.ref C_NoSuch) = some false ∧ PySem.W.kitOne K (.ref C_BadDeed) (.ref C_NoPlace) = some false ∧ PySem.W.kitOne K (.ref C_BadDeed) (.ref C_Elsewhere) = some false ∧ PySem.W.kitOne K (.ref C_BadDeed) (.ref C_Known) = some false ∧ PySem.W.kitOne K (.ref C_BadDeed) (.ref C_NoShare) = some false ∧ PySem.W.kitOne K (.ref C_BadDeed) (.type "ValueError") = some true ∧ PySem.W.kitOne K (.ref C_BadDeed) (.type "LookupError") = some false ∧ PySem.W.kitOne K (.ref C_BadDeed) (.type "IndexError") = some false ∧ PySem.W.kitOne K (.ref C_BadDeed) (.type "KeyError") = some false ∧ PySem.W.kitOne K (.ref C_BadDeed) (.type "ZeroDivisionError") = some false)
    (ki_NoRow : PySem.W.kitOne K (.ref C_NoRow) (.ref C_PearlError) = some true ∧ PySem.W.kitOne K (.ref C_NoRow) (.ref C_BadBead) = some false ∧ PySem.W.kitOne K (.ref C_NoRow) (.ref C_BadRule) = some false ∧ PySem.W.kitOne K (.ref C_NoRow) (.ref C_BadLot) = some false ∧ PySem.W.kitOne K (.ref C_NoRow) (.ref C_BadDeed) = some false ∧ PySem.W.kitOne K (.ref C_NoRow) (.ref C_NoRow) = some true ∧ PySem.W.kitOne K (.ref C_NoRow) (.ref C_NotLet) = some false ∧ PySem.W.kitOne K (.ref C_NoRow) (.ref C_TooLate) = some false ∧ PySem.W.kitOne K (.ref C_NoRow) (.ref C_BadText) = some false ∧ PySem.W.kitOne K (.ref C_NoRow) (.ref C_NoSuch) = some false ∧ PySem.W.kitOne K (.ref C_NoRow) (.ref C_NoPlace) = some false ∧ PySem.W.kitOne K (.ref C_NoRow) (.ref C_Elsewhere) = some false ∧ PySem.W.kitOne K (.ref C_NoRow) (.ref C_Known) = some false ∧ PySem.W.kitOne K (.ref C_NoRow) (.ref C_NoShare) = some false ∧ PySem.W.kitOne K (.ref C_NoRow) (.type "ValueError") = some true ∧ PySem.W.kitOne K (.ref C_NoRow) (.type "LookupError") = some false ∧ PySem.W.kitOne K (.ref C_NoRow) (.type "IndexError") = some false ∧ PySem.W.kitOne K (.ref C_NoRow) (.type "KeyError") = some false ∧ PySem.W.kitOne K (.ref C_NoRow) (.type "ZeroDivisionError") = some false)
    (ki_NotLet : PySem.W.kitOne K (.ref C_NotLet) (.ref C_PearlError) = some true ∧ PySem.W.kitOne K (.ref C_NotLet) (.ref C_BadBead) = some false ∧ PySem.W.kitOne K (.ref C_NotLet) (.ref C_BadRule) = some false ∧ PySem.W.kitOne K (.ref C_NotLet) (.ref C_BadLot) = some false ∧ PySem.W.kitOne K (.ref C_NotLet) (.ref C_BadDeed) = some false ∧ PySem.W.kitOne K (.ref C_NotLet) (.ref C_NoRow) = some false ∧ PySem.W.kitOne K (.ref C_NotLet) (.ref C_NotLet) = some true ∧ PySem.W.kitOne K (.ref C_NotLet) (.ref C_TooLate) = some false ∧ PySem.W.kitOne K (.ref C_NotLet) (.ref C_BadText) = some false ∧ PySem.W.kitOne K (.ref C_NotLet) (.ref C_NoSuch) = some false ∧ PySem.W.kitOne K (.ref C_NotLet) (.ref C_NoPlace) = some false ∧ PySem.W.kitOne K (.ref C_NotLet) (.ref C_Elsewhere) = some false ∧ PySem.W.kitOne K (.ref C_NotLet) (.ref C_Known) = some false ∧ PySem.W.kitOne K (.ref C_NotLet) (.ref C_NoShare) = some false ∧ PySem.W.kitOne K (.ref C_NotLet) (.type "ValueError") = some true ∧ PySem.W.kitOne K (.ref C_NotLet) (.type "LookupError") = some false ∧ PySem.W.kitOne K (.ref C_NotLet) (.type "IndexError") = some false ∧ PySem.W.kitOne K (.ref C_NotLet) (.type "KeyError") = some false ∧ PySem.W.kitOne K (.ref C_NotLet) (.type "ZeroDivisionError") = some false)
    (ki_TooLate : PySem.W.kitOne K (.ref C_TooLate) (.ref C_PearlError) = some true ∧ PySem.W.kitOne K (.ref C_TooLate) (.ref C_BadBead) = some false ∧ PySem.W.kitOne K (.ref C_TooLate) (.ref C_BadRule) = some false ∧ PySem.W.kitOne K (.ref C_TooLate) (.ref C_BadLot) = some false ∧ PySem.W.kitOne K (.ref C_TooLate) (.ref C_BadDeed) = some false ∧ PySem.W.kitOne K (.ref C_TooLate) (.ref C_NoRow) = some false ∧ PySem.W.kitOne K (.ref C_TooLate) (.ref C_NotLet) = some false ∧ PySem.W.kitOne K (.ref C_TooLate) (.ref C_TooLate) = some true ∧ PySem.W.kitOne K (.ref C_TooLate) (.ref C_BadText) = some false ∧ PySem.W.kitOne K (.ref C_TooLate) (.ref C_NoSuch) = some false ∧ PySem.W.kitOne K (.ref C_TooLate) (.ref C_NoPlace) = some false ∧ PySem.W.kitOne K (.ref C_TooLate) (.ref C_Elsewhere) = some false ∧ PySem.W.kitOne K (.ref C_TooLate) (.ref C_Known) = some false ∧ PySem.W.kitOne K (.ref C_TooLate) (.ref C_NoShare) = some false ∧ PySem.W.kitOne K (.ref C_TooLate) (.type "ValueError") = some true ∧ PySem.W.kitOne K (.ref C_TooLate) (.type "LookupError") = some false ∧ PySem.W.kitOne K (.ref C_TooLate) (.type "IndexError") = some false ∧ PySem.W.kitOne K (.ref C_TooLate) (.type "KeyError") = some false ∧ PySem.W.kitOne K (.ref C_TooLate) (.type "ZeroDivisionError") = some false)
    (ki_BadText : PySem.W.kitOne K (.ref C_BadText) (.ref C_PearlError) = some true ∧ PySem.W.kitOne K (.ref C_BadText) (.ref C_BadBead) = some false ∧ PySem.W.kitOne K (.ref C_BadText) (.ref C_BadRule) = some false ∧ PySem.W.kitOne K (.ref C_BadText) (.ref C_BadLot) = some false ∧ PySem.W.kitOne K (.ref C_BadText) (.ref C_BadDeed) = some false ∧ PySem.W.kitOne K (.ref C_BadText) (.ref C_NoRow) = some false ∧ PySem.W.kitOne K (.ref C_BadText) (.ref C_NotLet) = some false ∧ PySem.W.kitOne K (.ref C_BadText) (.ref C_TooLate) = some false ∧ PySem.W.kitOne K (.ref C_BadText) (.ref C_BadText) = some true ∧ PySem.W.kitOne K (.ref C_BadText) (.ref C_NoSuch) = some false ∧ PySem.W.kitOne K (.ref C_BadText) (.ref C_NoPlace) = some false ∧ PySem.W.kitOne K (.ref C_BadText) (.ref C_Elsewhere) = some false ∧ PySem.W.kitOne K (.ref C_BadText) (.ref C_Known) = some false ∧ PySem.W.kitOne K (.ref C_BadText) (.ref C_NoShare) = some false ∧ PySem.W.kitOne K (.ref C_BadText) (.type "ValueError") = some true ∧ PySem.W.kitOne K (.ref C_BadText) (.type "LookupError") = some false ∧ PySem.W.kitOne K (.ref C_BadText) (.type "IndexError") = some false ∧ PySem.W.kitOne K (.ref C_BadText) (.type "KeyError") = some false ∧ PySem.W.kitOne K (.ref C_BadText) (.type "ZeroDivisionError") = some false)
    (ki_NoSuch : PySem.W.kitOne K (.ref C_NoSuch) (.ref C_PearlError) = some false ∧ PySem.W.kitOne K (.ref C_NoSuch) (.ref C_BadBead) = some false ∧ PySem.W.kitOne K (.ref C_NoSuch) (.ref C_BadRule) = some false ∧ PySem.W.kitOne K (.ref C_NoSuch) (.ref C_BadLot) = some false ∧ PySem.W.kitOne K (.ref C_NoSuch) (.ref C_BadDeed) = some false ∧ PySem.W.kitOne K (.ref C_NoSuch) (.ref C_NoRow) = some false ∧ PySem.W.kitOne K (.ref C_NoSuch) (.ref C_NotLet) = some false ∧ PySem.W.kitOne K (.ref C_NoSuch) (.ref C_TooLate) = some false ∧ PySem.W.kitOne K (.ref C_NoSuch) (.ref C_BadText) = some false ∧ PySem.W.kitOne K (.ref C_NoSuch) (.ref C_NoSuch) = some true ∧ PySem.W.kitOne K (.ref C_NoSuch) (.ref C_NoPlace) = some false ∧ PySem.W.kitOne K (.ref C_NoSuch) (.ref C_Elsewhere) = some false ∧ PySem.W.kitOne K (.ref C_NoSuch) (.ref C_Known) = some false ∧ PySem.W.kitOne K (.ref C_NoSuch) (.ref C_NoShare) = some false ∧ PySem.W.kitOne K (.ref C_NoSuch) (.type "ValueError") = some false ∧ PySem.W.kitOne K (.ref C_NoSuch) (.type "LookupError") = some true ∧ PySem.W.kitOne K (.ref C_NoSuch) (.type "IndexError") = some false ∧ PySem.W.kitOne K (.ref C_NoSuch) (.type "KeyError") = some false ∧ PySem.W.kitOne K (.ref C_NoSuch) (.type "ZeroDivisionError") = some false)
    (ki_NoPlace : PySem.W.kitOne K (.ref C_NoPlace) (.ref C_PearlError) = some false ∧ PySem.W.kitOne K (.ref C_NoPlace) (.ref C_BadBead) = some false ∧ PySem.W.kitOne K (.ref C_NoPlace) (.ref C_BadRule) = some false ∧ PySem.W.kitOne K (.ref C_NoPlace) (.ref C_BadLot) = some false ∧ PySem.W.kitOne K (.ref C_NoPlace) (.ref C_BadDeed) = some false ∧ PySem.W.kitOne K (.ref C_NoPlace) (.ref C_NoRow) = some false ∧ PySem.W.kitOne K (.ref C_NoPlace) (.ref C_NotLet) = some false ∧ PySem.W.kitOne K (.ref C_NoPlace) (.ref C_TooLate) = some false ∧ PySem.W.kitOne K (.ref C_NoPlace) (.ref C_BadText) = some false ∧ PySem.W.kitOne K (.ref C_NoPlace) (.ref C_NoSuch) = some false ∧ PySem.W.kitOne K (.ref C_NoPlace) (.ref C_NoPlace) = some true ∧ PySem.W.kitOne K (.ref C_NoPlace) (.ref C_Elsewhere) = some false ∧ PySem.W.kitOne K (.ref C_NoPlace) (.ref C_Known) = some false ∧ PySem.W.kitOne K (.ref C_NoPlace) (.ref C_NoShare) = some false ∧ PySem.W.kitOne K (.ref C_NoPlace) (.type "ValueError") = some false ∧ PySem.W.kitOne K (.ref C_NoPlace) (.type "LookupError") = some true ∧ PySem.W.kitOne K (.ref C_NoPlace) (.type "IndexError") = some true ∧ PySem.W.kitOne K (.ref C_NoPlace) (.type "KeyError") = some false ∧ PySem.W.kitOne K (.ref C_NoPlace) (.type "ZeroDivisionError") = some false)
    (ki_Elsewhere : PySem.W.kitOne K (.ref C_Elsewhere) (.ref C_PearlError) = some false ∧ PySem.W.kitOne K (.ref C_Elsewhere) (.ref C_BadBead) = some false ∧ PySem.W.kitOne K (.ref C_Elsewhere) (.ref C_BadRule) = some false ∧ PySem.W.kitOne K (.ref C_Elsewhere) (.ref C_BadLot) = some false ∧ PySem.W.kitOne K (.ref C_Elsewhere) (.ref C_BadDeed) = some false ∧ PySem.W.kitOne K (.ref C_Elsewhere) (.ref C_NoRow) = some false ∧ PySem.W.kitOne K (.ref C_Elsewhere) (.ref C_NotLet) = some false ∧ PySem.W.kitOne K (.ref C_Elsewhere) (.ref C_TooLate) = some false ∧ PySem.W.kitOne K (.ref C_Elsewhere) (.ref C_BadText) = some false ∧ PySem.W.kitOne K (.ref C_Elsewhere) (.ref C_NoSuch) = some false ∧ PySem.W.kitOne K (.ref C_Elsewhere) (.ref C_NoPlace) = some false ∧ PySem.W.kitOne K (.ref C_Elsewhere) (.ref C_Elsewhere) = some true ∧ PySem.W.kitOne K (.ref C_Elsewhere) (.ref C_Known) = some false ∧ PySem.W.kitOne K (.ref C_Elsewhere) (.ref C_NoShare) = some false ∧ PySem.W.kitOne K (.ref C_Elsewhere) (.type "ValueError") = some false ∧ PySem.W.kitOne K (.ref C_Elsewhere) (.type "LookupError") = some true ∧ PySem.W.kitOne K (.ref C_Elsewhere) (.type "IndexError") = some false ∧ PySem.W.kitOne K (.ref C_Elsewhere) (.type "KeyError") = some true ∧ PySem.W.kitOne K (.ref C_Elsewhere) (.type "ZeroDivisionError") = some false)
    (ki_Known : PySem.W.kitOne K (.ref C_Known) (.ref C_PearlError) = some false ∧ PySem.W.kitOne K (.ref C_Known) (.ref C_BadBead) = some false ∧ PySem.W.kitOne K (.ref C_Known) (.ref C_BadRule) = some false ∧ PySem.W.kitOne K (.ref C_Known) (.ref C_BadLot) = some false ∧ PySem.W.kitOne K (.ref C_Known) (.ref C_BadDeed) = some false ∧ PySem.W.kitOne K (.ref C_Known) (.ref C_NoRow) = some false ∧ PySem.W.kitOne K (.ref C_Known) (.ref C_NotLet) = some false ∧ PySem.W.kitOne K (.ref C_Known) (.ref C_TooLate) = some false ∧ PySem.W.kitOne K (.ref C_Known) (.ref C_BadText) = some false ∧ PySem.W.kitOne K (.ref C_Known) (.ref C_NoSuch) = some false ∧ PySem.W.kitOne K (.ref C_Known) (.ref C_NoPlace) = some false ∧ PySem.W.kitOne K (.ref C_Known) (.ref C_Elsewhere) = some false ∧ PySem.W.kitOne K (.ref C_Known) (.ref C_Known) = some true ∧ PySem.W.kitOne K (.ref C_Known) (.ref C_NoShare) = some false ∧ PySem.W.kitOne K (.ref C_Known) (.type "ValueError") = some false ∧ PySem.W.kitOne K (.ref C_Known) (.type "LookupError") = some true ∧ PySem.W.kitOne K (.ref C_Known) (.type "IndexError") = some false ∧ PySem.W.kitOne K (.ref C_Known) (.type "KeyError") = some true ∧ PySem.W.kitOne K (.ref C_Known) (.type "ZeroDivisionError") = some false)
    (ki_NoShare : PySem.W.kitOne K (.ref C_NoShare) (.ref C_PearlError) = some false ∧ PySem.W.kitOne K (.ref C_NoShare) (.ref C_BadBead) = some false ∧ PySem.W.kitOne K (.ref C_NoShare) (.ref C_BadRule) = some false ∧ PySem.W.kitOne K (.ref C_NoShare) (.ref C_BadLot) = some false ∧ PySem.W.kitOne K (.ref C_NoShare) (.ref C_BadDeed) = some false ∧ PySem.W.kitOne K (.ref C_NoShare) (.ref C_NoRow) = some false ∧ PySem.W.kitOne K (.ref C_NoShare) (.ref C_NotLet) = some false ∧ PySem.W.kitOne K (.ref C_NoShare) (.ref C_TooLate) = some false ∧ PySem.W.kitOne K (.ref C_NoShare) (.ref C_BadText) = some false ∧ PySem.W.kitOne K (.ref C_NoShare) (.ref C_NoSuch) = some false ∧ PySem.W.kitOne K (.ref C_NoShare) (.ref C_NoPlace) = some false ∧ PySem.W.kitOne K (.ref C_NoShare) (.ref C_Elsewhere) = some false ∧ PySem.W.kitOne K (.ref C_NoShare) (.ref C_Known) = some false ∧ PySem.W.kitOne K (.ref C_NoShare) (.ref C_NoShare) = some true ∧ PySem.W.kitOne K (.ref C_NoShare) (.type "ValueError") = some false ∧ PySem.W.kitOne K (.ref C_NoShare) (.type "LookupError") = some false ∧ PySem.W.kitOne K (.ref C_NoShare) (.type "IndexError") = some false ∧ PySem.W.kitOne K (.ref C_NoShare) (.type "KeyError") = some false ∧ PySem.W.kitOne K (.ref C_NoShare) (.type "ZeroDivisionError") = some true) :
    ∃ fd : FuncData, (∀ (s : Shared) (v : Value), BindsTo s fd ⟨[v], []⟩ [("_law_script", v)]) ∧ ∀ base : Heap, K.In base → base.Ns mainGlobals mg → FnOk l.prog w K mg base CX0 5 fa fd ["_law_script"] (spLaw K) := by
  have e := hfa.symm.trans (PySem.W.mg_of X G a18)
  cases e
  have F0 : FunD K "__init__" "PearlError.__init__" (defArgs s_PearlError_init) (defBody s_PearlError_init) (defScope s_PearlError_init) [.str ""] [] f0 (PySem.W.fnOf "__init__" "PearlError.__init__" (defArgs s_PearlError_init) (defBody s_PearlError_init) (defScope s_PearlError_init) (.ref T0) kV0 dc0 pm0 an0 cd0 ct0) := ⟨⟨_, _, _, _, _, _, _, _, _, _, rfl, l0, c0, .inr ⟨(fun z => nomatch z), _, _, _, _, rfl, d0, rfl, .cons ⟨_, rfl⟩ (.nil)⟩, .inl rfl⟩, k0⟩
  have F1 := fun_mk (st := s_NotLet_init) l1 c1 k1
  have F2 := fun_mk (st := s_TooLate_init) l2 c2 k2
  have F3 := fun_mk (st := s_BadText_init) l3 c3 k3
  have F4 := fun_mk (st := s_NoSuch_init) l4 c4 k4
  have F5 := fun_mk (st := s_NoPlace_init) l5 c5 k5
  have F6 := fun_mk (st := s_Elsewhere_init) l6 c6 k6
  have F7 := fun_mk (st := s_Known_init) l7 c7 k7
  have F8 := fun_mk (st := s_NoShare_init) l8 c8 k8
  have F9 := fun_mk (st := s_cell_at) l9 c9 k9
  have F10 := fun_mk (st := s_draws) l10 c10 k10
  have F11 := fun_mk (st := s_one) l11 c11 k11
  have F12 := fun_mk (st := s_of) l12 c12 k12
  have F13 := fun_mk (st := s_marks) l13 c13 k13
  have F14 := fun_mk (st := s_kinds) l14 c14 k14
  have F15 := fun_mk (st := s_is_of) l15 c15 k15
  have F16 := fun_mk (st := s_plain_right) l16 c16 k16
  have F17 := fun_mk (st := s_fields_right) l17 c17 k17
  have F18 := fun_mk (st := s_law) l18 c18 k18
  have b0 : Binds K (PySem.W.fnOf "__init__" "PearlError.__init__" (defArgs s_PearlError_init) (defBody s_PearlError_init) (defScope s_PearlError_init) (.ref T0) kV0 dc0 pm0 an0 cd0 ct0) ["self", "why"] [] := by
    obtain ⟨ds, hv, hb⟩ := F0.binds1 (ps := ["self", "why"]) 2 1 (fun z => nomatch z) rfl fun _ _ _ _ _ _ _ us its h1 h2 => match us, its, h1, h2 with | [_, _], [_], _, _ => ⟨_, rfl, rfl⟩
    cases hv
    exact hb
  have b1 := F1.binds (ps := ["self", "at", "why"]) fun _ _ _ _ _ _ us hl => match us, hl with | [_, _, _], _ => rfl
  have b2 := F2.binds (ps := ["self", "at"]) fun _ _ _ _ _ _ us hl => match us, hl with | [_, _], _ => rfl
  have b3 := F3.binds (ps := ["self", "line"]) fun _ _ _ _ _ _ us hl => match us, hl with | [_, _], _ => rfl
  have b4 := F4.binds (ps := ["self", "kind", "name"]) fun _ _ _ _ _ _ us hl => match us, hl with | [_, _, _], _ => rfl
  have b5 := F5.binds (ps := ["self", "at"]) fun _ _ _ _ _ _ us hl => match us, hl with | [_, _], _ => rfl
  have b6 := F6.binds (ps := ["self", "number", "place"]) fun _ _ _ _ _ _ us hl => match us, hl with | [_, _, _], _ => rfl
  have b7 := F7.binds (ps := ["self", "kind", "name"]) fun _ _ _ _ _ _ us hl => match us, hl with | [_, _, _], _ => rfl
  have b8 := F8.binds (ps := ["self", "num"]) fun _ _ _ _ _ _ us hl => match us, hl with | [_, _], _ => rfl
  have b9 := F9.binds (ps := ["_law_script", "_law_k"]) fun _ _ _ _ _ _ us hl => match us, hl with | [_, _], _ => rfl
  have b10 := F10.binds (ps := ["_law_cell"]) fun _ _ _ _ _ _ us hl => match us, hl with | [_], _ => rfl
  have b11 := F11.binds (ps := ["_law_draws_here", "_law_many"]) fun _ _ _ _ _ _ us hl => match us, hl with | [_, _], _ => rfl
  have b12 := F12.binds (ps := ["_law_draws_here", "_law_some"]) fun _ _ _ _ _ _ us hl => match us, hl with | [_, _], _ => rfl
  have b13 := F13.binds (ps := ["_law_e"]) fun _ _ _ _ _ _ us hl => match us, hl with | [_], _ => rfl
  have b14 := F14.binds (ps := ["_law_e"]) fun _ _ _ _ _ _ us hl => match us, hl with | [_], _ => rfl
  have b15 := F15.binds (ps := ["_law_e", "_law_home", "_law_kinds_here"]) fun _ _ _ _ _ _ us hl => match us, hl with | [_, _, _], _ => rfl
  have b16 := F16.binds (ps := ["_law_reason"]) fun _ _ _ _ _ _ us hl => match us, hl with | [_], _ => rfl
  have b17 := F17.binds (ps := ["_law_spot", "_law_reason", "_law_label", "_law_home"]) fun _ _ _ _ _ _ us hl => match us, hl with | [_, _, _, _], _ => rfl
  obtain ⟨i_kb_p, h_kb_p⟩ := F0.kbindsD (ps := ["self", "why"]) 1 ["why"] (fun us its ws => kw [(0, 0), (2, 0)] us its ws) (fun z => nomatch z) (fun r1 r2 r3 => kw_rel _ r1 r2 r3) (fun _ _ _ _ _ _ _ us its ws h1 h2 h3 => match us, its, ws, h1, h2, h3 with | [_], [_], [_], _, _, _ => ⟨_, rfl, rfl⟩)
  obtain ⟨ds0, hd0, bd0⟩ := F0.binds1 (ps := ["self", "why"]) 1 0 (fun z => nomatch z) rfl fun _ _ _ _ _ _ _ us its h1 h2 => match us, its, h1, h2 with | [_], [_], _, _ => ⟨_, rfl, rfl⟩
  let T : Tx K mg := ⟨_, _, F0, b0,
    _, _, F1, b1,
    _, _, F2, b2,
    _, _, F3, b3,
    _, _, F4, b4,
    _, _, F5, b5,
    _, _, F6, b6,
    _, _, F7, b7,
    _, _, F8, b8,
    _, _, F9, PySem.W.mg_of X G a9, b9,
    _, _, F10, PySem.W.mg_of X G a10, b10,
    _, _, F11, PySem.W.mg_of X G a11, b11,
    _, _, F12, PySem.W.mg_of X G a12, b12,
    _, _, F13, PySem.W.mg_of X G a13, b13,
    _, _, F14, PySem.W.mg_of X G a14, b14,
    _, _, F15, PySem.W.mg_of X G a15, b15,
    _, _, F16, PySem.W.mg_of X G a16, b16,
    _, _, F17, PySem.W.mg_of X G a17, b17,
    C_PearlError, PySem.W.mg_of X G aC_PearlError,
    C_BadBead, PySem.W.mg_of X G aC_BadBead,
    C_BadRule, PySem.W.mg_of X G aC_BadRule,
    C_BadLot, PySem.W.mg_of X G aC_BadLot,
    C_BadDeed, PySem.W.mg_of X G aC_BadDeed,
    C_NoRow, PySem.W.mg_of X G aC_NoRow,
    C_NotLet, PySem.W.mg_of X G aC_NotLet,
    C_TooLate, PySem.W.mg_of X G aC_TooLate,
    C_BadText, PySem.W.mg_of X G aC_BadText,
    C_NoSuch, PySem.W.mg_of X G aC_NoSuch,
    C_NoPlace, PySem.W.mg_of X G aC_NoPlace,
    C_Elsewhere, PySem.W.mg_of X G aC_Elsewhere,
    C_Known, PySem.W.mg_of X G aC_Known,
    C_NoShare, PySem.W.mg_of X G aC_NoShare,
    ⟨⟨nm_PearlError, q_PearlError, N_PearlError, bs_PearlError, _, sn_PearlError, sub_PearlError, ab_PearlError, col_PearlError, dd_PearlError, m0_PearlError, m1_PearlError, m2_PearlError, m3_PearlError, m5_PearlError, xL_PearlError, rfl⟩, xsa_PearlError, xe_PearlError, xt_PearlError, xk_PearlError⟩,
    xi_PearlError, beq_iff_eq.mp i0,
    ⟨xga_PearlError, xgg_PearlError, xe_PearlError, xhd_PearlError, xca_PearlError, xcg_PearlError, xct_PearlError, xmo_PearlError⟩,
    xn_PearlError_why,
    ⟨⟨nm_BadBead, q_BadBead, N_BadBead, bs_BadBead, _, sn_BadBead, sub_BadBead, ab_BadBead, col_BadBead, dd_BadBead, m0_BadBead, m1_BadBead, m2_BadBead, m3_BadBead, m5_BadBead, xL_BadBead, rfl⟩, xsa_BadBead, xe_BadBead, xt_BadBead, xk_BadBead⟩,
    xi_BadBead, beq_iff_eq.mp i0,
    ⟨xga_BadBead, xgg_BadBead, xe_BadBead, xhd_BadBead, xca_BadBead, xcg_BadBead, xct_BadBead, xmo_BadBead⟩,
    xn_BadBead_why,
    ⟨⟨nm_BadRule, q_BadRule, N_BadRule, bs_BadRule, _, sn_BadRule, sub_BadRule, ab_BadRule, col_BadRule, dd_BadRule, m0_BadRule, m1_BadRule, m2_BadRule, m3_BadRule, m5_BadRule, xL_BadRule, rfl⟩, xsa_BadRule, xe_BadRule, xt_BadRule, xk_BadRule⟩,
    xi_BadRule, beq_iff_eq.mp i0,
    ⟨xga_BadRule, xgg_BadRule, xe_BadRule, xhd_BadRule, xca_BadRule, xcg_BadRule, xct_BadRule, xmo_BadRule⟩,
    xn_BadRule_why,
    ⟨⟨nm_BadLot, q_BadLot, N_BadLot, bs_BadLot, _, sn_BadLot, sub_BadLot, ab_BadLot, col_BadLot, dd_BadLot, m0_BadLot, m1_BadLot, m2_BadLot, m3_BadLot, m5_BadLot, xL_BadLot, rfl⟩, xsa_BadLot, xe_BadLot, xt_BadLot, xk_BadLot⟩,
    xi_BadLot, beq_iff_eq.mp i0,
    ⟨xga_BadLot, xgg_BadLot, xe_BadLot, xhd_BadLot, xca_BadLot, xcg_BadLot, xct_BadLot, xmo_BadLot⟩,
    xn_BadLot_why,
    ⟨⟨nm_BadDeed, q_BadDeed, N_BadDeed, bs_BadDeed, _, sn_BadDeed, sub_BadDeed, ab_BadDeed, col_BadDeed, dd_BadDeed, m0_BadDeed, m1_BadDeed, m2_BadDeed, m3_BadDeed, m5_BadDeed, xL_BadDeed, rfl⟩, xsa_BadDeed, xe_BadDeed, xt_BadDeed, xk_BadDeed⟩,
    xi_BadDeed, beq_iff_eq.mp i0,
    ⟨xga_BadDeed, xgg_BadDeed, xe_BadDeed, xhd_BadDeed, xca_BadDeed, xcg_BadDeed, xct_BadDeed, xmo_BadDeed⟩,
    xn_BadDeed_why,
    ⟨⟨nm_NoRow, q_NoRow, N_NoRow, bs_NoRow, _, sn_NoRow, sub_NoRow, ab_NoRow, col_NoRow, dd_NoRow, m0_NoRow, m1_NoRow, m2_NoRow, m3_NoRow, m5_NoRow, xL_NoRow, rfl⟩, xsa_NoRow, xe_NoRow, xt_NoRow, xk_NoRow⟩,
    xi_NoRow, beq_iff_eq.mp i0,
    ⟨xga_NoRow, xgg_NoRow, xe_NoRow, xhd_NoRow, xca_NoRow, xcg_NoRow, xct_NoRow, xmo_NoRow⟩,
    xn_NoRow_why,
    ⟨⟨nm_NotLet, q_NotLet, N_NotLet, bs_NotLet, _, sn_NotLet, sub_NotLet, ab_NotLet, col_NotLet, dd_NotLet, m0_NotLet, m1_NotLet, m2_NotLet, m3_NotLet, m5_NotLet, xL_NotLet, rfl⟩, xsa_NotLet, xe_NotLet, xt_NotLet, xk_NotLet⟩,
    xi_NotLet, beq_iff_eq.mp i1,
    ⟨xga_NotLet, xgg_NotLet, xe_NotLet, xhd_NotLet, xca_NotLet, xcg_NotLet, xct_NotLet, xmo_NotLet⟩,
    xn_NotLet_why,
    xn_NotLet_at,
    ⟨⟨nm_TooLate, q_TooLate, N_TooLate, bs_TooLate, _, sn_TooLate, sub_TooLate, ab_TooLate, col_TooLate, dd_TooLate, m0_TooLate, m1_TooLate, m2_TooLate, m3_TooLate, m5_TooLate, xL_TooLate, rfl⟩, xsa_TooLate, xe_TooLate, xt_TooLate, xk_TooLate⟩,
    xi_TooLate, beq_iff_eq.mp i2,
    ⟨xga_TooLate, xgg_TooLate, xe_TooLate, xhd_TooLate, xca_TooLate, xcg_TooLate, xct_TooLate, xmo_TooLate⟩,
    xn_TooLate_why,
    xn_TooLate_at,
    ⟨⟨nm_BadText, q_BadText, N_BadText, bs_BadText, _, sn_BadText, sub_BadText, ab_BadText, col_BadText, dd_BadText, m0_BadText, m1_BadText, m2_BadText, m3_BadText, m5_BadText, xL_BadText, rfl⟩, xsa_BadText, xe_BadText, xt_BadText, xk_BadText⟩,
    xi_BadText, beq_iff_eq.mp i3,
    ⟨xga_BadText, xgg_BadText, xe_BadText, xhd_BadText, xca_BadText, xcg_BadText, xct_BadText, xmo_BadText⟩,
    xn_BadText_why,
    xn_BadText_line,
    ⟨⟨nm_NoSuch, q_NoSuch, N_NoSuch, bs_NoSuch, _, sn_NoSuch, sub_NoSuch, ab_NoSuch, col_NoSuch, dd_NoSuch, m0_NoSuch, m1_NoSuch, m2_NoSuch, m3_NoSuch, m5_NoSuch, xL_NoSuch, rfl⟩, xsa_NoSuch, xe_NoSuch, xt_NoSuch, xk_NoSuch⟩,
    xi_NoSuch, beq_iff_eq.mp i4,
    ⟨xga_NoSuch, xgg_NoSuch, xe_NoSuch, xhd_NoSuch, xca_NoSuch, xcg_NoSuch, xct_NoSuch, xmo_NoSuch⟩,
    xn_NoSuch_kind,
    xn_NoSuch_name,
    ⟨⟨nm_NoPlace, q_NoPlace, N_NoPlace, bs_NoPlace, _, sn_NoPlace, sub_NoPlace, ab_NoPlace, col_NoPlace, dd_NoPlace, m0_NoPlace, m1_NoPlace, m2_NoPlace, m3_NoPlace, m5_NoPlace, xL_NoPlace, rfl⟩, xsa_NoPlace, xe_NoPlace, xt_NoPlace, xk_NoPlace⟩,
    xi_NoPlace, beq_iff_eq.mp i5,
    ⟨xga_NoPlace, xgg_NoPlace, xe_NoPlace, xhd_NoPlace, xca_NoPlace, xcg_NoPlace, xct_NoPlace, xmo_NoPlace⟩,
    xn_NoPlace_at,
    ⟨⟨nm_Elsewhere, q_Elsewhere, N_Elsewhere, bs_Elsewhere, _, sn_Elsewhere, sub_Elsewhere, ab_Elsewhere, col_Elsewhere, dd_Elsewhere, m0_Elsewhere, m1_Elsewhere, m2_Elsewhere, m3_Elsewhere, m5_Elsewhere, xL_Elsewhere, rfl⟩, xsa_Elsewhere, xe_Elsewhere, xt_Elsewhere, xk_Elsewhere⟩,
    xi_Elsewhere, beq_iff_eq.mp i6,
    ⟨xga_Elsewhere, xgg_Elsewhere, xe_Elsewhere, xhd_Elsewhere, xca_Elsewhere, xcg_Elsewhere, xct_Elsewhere, xmo_Elsewhere⟩,
    xn_Elsewhere_number,
    xn_Elsewhere_place,
    ⟨⟨nm_Known, q_Known, N_Known, bs_Known, _, sn_Known, sub_Known, ab_Known, col_Known, dd_Known, m0_Known, m1_Known, m2_Known, m3_Known, m5_Known, xL_Known, rfl⟩, xsa_Known, xe_Known, xt_Known, xk_Known⟩,
    xi_Known, beq_iff_eq.mp i7,
    ⟨xga_Known, xgg_Known, xe_Known, xhd_Known, xca_Known, xcg_Known, xct_Known, xmo_Known⟩,
    xn_Known_kind,
    xn_Known_name,
    ⟨⟨nm_NoShare, q_NoShare, N_NoShare, bs_NoShare, _, sn_NoShare, sub_NoShare, ab_NoShare, col_NoShare, dd_NoShare, m0_NoShare, m1_NoShare, m2_NoShare, m3_NoShare, m5_NoShare, xL_NoShare, rfl⟩, xsa_NoShare, xe_NoShare, xt_NoShare, xk_NoShare⟩,
    xi_NoShare, beq_iff_eq.mp i8,
    ⟨xga_NoShare, xgg_NoShare, xe_NoShare, xhd_NoShare, xca_NoShare, xcg_NoShare, xct_NoShare, xmo_NoShare⟩,
    xn_NoShare_num,
    vV_IndexError,
    vV_KeyError,
    vV_LookupError,
    vV_ValueError,
    vV_ZeroDivisionError,
    vV,
    fun_kb F1 1 ["why", "at"] [(0, 0), (2, 1), (2, 0)] fun _ _ _ _ _ _ us ws h1 h2 => match us, ws, h1, h2 with | [_], [_, _], _, _ => rfl,
    fun_kb F2 1 ["at"] [(0, 0), (2, 0)] fun _ _ _ _ _ _ us ws h1 h2 => match us, ws, h1, h2 with | [_], [_], _, _ => rfl,
    fun_kb F3 1 ["line"] [(0, 0), (2, 0)] fun _ _ _ _ _ _ us ws h1 h2 => match us, ws, h1, h2 with | [_], [_], _, _ => rfl,
    fun_kb F4 1 ["name", "kind"] [(0, 0), (2, 1), (2, 0)] fun _ _ _ _ _ _ us ws h1 h2 => match us, ws, h1, h2 with | [_], [_, _], _, _ => rfl,
    fun_kb F5 1 ["at"] [(0, 0), (2, 0)] fun _ _ _ _ _ _ us ws h1 h2 => match us, ws, h1, h2 with | [_], [_], _, _ => rfl,
    fun_kb F6 1 ["place", "number"] [(0, 0), (2, 1), (2, 0)] fun _ _ _ _ _ _ us ws h1 h2 => match us, ws, h1, h2 with | [_], [_, _], _, _ => rfl,
    fun_kb F7 1 ["name", "kind"] [(0, 0), (2, 1), (2, 0)] fun _ _ _ _ _ _ us ws h1 h2 => match us, ws, h1, h2 with | [_], [_, _], _, _ => rfl,
    fun_kb F8 1 ["num"] [(0, 0), (2, 0)] fun _ _ _ _ _ _ us ws h1 h2 => match us, ws, h1, h2 with | [_], [_], _, _ => rfl,
    i_kb_p,
    h_kb_p,
    ds0,
    hd0,
    bd0,
    ⟨cf1, cf2, cf3, k0⟩,
    ki_PearlError,
    ki_BadBead,
    ki_BadRule,
    ki_BadLot,
    ki_BadDeed,
    ki_NoRow,
    ki_NotLet,
    ki_TooLate,
    ki_BadText,
    ki_NoSuch,
    ki_NoPlace,
    ki_Elsewhere,
    ki_Known,
    ki_NoShare,
    PySem.W.mg_none_of X G z0,
    PySem.W.mg_none_of X G z1,
    PySem.W.mg_none_of X G z2,
    PySem.W.mg_none_of X G z3,
    PySem.W.mg_none_of X G z4,
    PySem.W.mg_none_of X G z5,
    PySem.W.mg_none_of X G z6,
    PySem.W.mg_none_of X G z7,
    PySem.W.mg_none_of X G z8,
    PySem.W.mg_none_of X G z9⟩
  exact ⟨PySem.W.fnOf "law" "law" (defArgs s_law) (defBody s_law) (defScope s_law) .none kV18 dc18 pm18 an18 cd18 ct18, fun s v => .of_eq rfl, fun base _ _ => ok_law T F18⟩
end KB
open PySem PySem.W PyProof.Rows
set_option maxRecDepth 100000 in
set_option maxHeartbeats 0 in
theorem PySem.Challenge.cw_pearlrise_k04_errors_and_their_kinds_holds : PySem.Challenge.rw_pearlrise_k04_errors_and_their_kinds.Holds := by
  w_on; o_law; k_head; (case hw => w_witness2)
  k_fill
  refine L2.walk_of (l := PySem.Challenge.rw_pearlrise_k04_errors_and_their_kinds) (n := 63) (k := 5) (x := "_law_script") (CX := fun _ => L2.CX0) (sp := fun w => KB.spLaw _) rfl (by decide) rfl ⟨rfl, by decide, by decide⟩ (fun w h Y => PySem.W.kIn_of Y) ?F (fun _ _ a ns hl _ hS => ⟨a, ns, rfl, hS, hl, fun _ => rfl⟩) (fun _ _ _ _ _ h => h)
  case F =>
    intro w mg fa h KX G hmg
    refine' KB.all_mk KX G hmg ?aC_PearlError ?aC_BadBead ?aC_BadRule ?aC_BadLot ?aC_BadDeed ?aC_NoRow ?aC_NotLet ?aC_TooLate ?aC_BadText ?aC_NoSuch ?aC_NoPlace ?aC_Elsewhere ?aC_Known ?aC_NoShare ?a0 ?i0 ?l0 ?d0 ?c0 ?k0 ?a1 ?i1 ?l1 ?c1 ?k1 ?a2 ?i2 ?l2 ?c2 ?k2 ?a3 ?i3 ?l3 ?c3 ?k3 ?a4 ?i4 ?l4 ?c4 ?k4 ?a5 ?i5 ?l5 ?c5 ?k5 ?a6 ?i6 ?l6 ?c6 ?k6 ?a7 ?i7 ?l7 ?c7 ?k7 ?a8 ?i8 ?l8 ?c8 ?k8 ?a9 ?l9 ?c9 ?k9 ?a10 ?l10 ?c10 ?k10 ?a11 ?l11 ?c11 ?k11 ?a12 ?l12 ?c12 ?k12 ?a13 ?l13 ?c13 ?k13 ?a14 ?l14 ?c14 ?k14 ?a15 ?l15 ?c15 ?k15 ?a16 ?l16 ?c16 ?k16 ?a17 ?l17 ?c17 ?k17 ?a18 ?l18 ?c18 ?k18 ?z0 ?z1 ?z2 ?z3 ?z4 ?z5 ?z6 ?z7 ?z8 ?z9 ?xL_PearlError ?xsa_PearlError ?xe_PearlError ?xt_PearlError ?xk_PearlError ?xi_PearlError ?xga_PearlError ?xgg_PearlError ?xhd_PearlError ?xca_PearlError ?xcg_PearlError ?xct_PearlError ?xmo_PearlError ?xn_PearlError_why ?xL_BadBead ?xsa_BadBead ?xe_BadBead ?xt_BadBead ?xk_BadBead ?xi_BadBead ?xga_BadBead ?xgg_BadBead ?xhd_BadBead ?xca_BadBead ?xcg_BadBead ?xct_BadBead ?xmo_BadBead ?xn_BadBead_why ?xL_BadRule ?xsa_BadRule ?xe_BadRule ?xt_BadRule ?xk_BadRule ?xi_BadRule ?xga_BadRule ?xgg_BadRule ?xhd_BadRule ?xca_BadRule ?xcg_BadRule ?xct_BadRule ?xmo_BadRule ?xn_BadRule_why ?xL_BadLot ?xsa_BadLot ?xe_BadLot ?xt_BadLot ?xk_BadLot ?xi_BadLot ?xga_BadLot ?xgg_BadLot ?xhd_BadLot ?xca_BadLot ?xcg_BadLot ?xct_BadLot ?xmo_BadLot ?xn_BadLot_why ?xL_BadDeed ?xsa_BadDeed ?xe_BadDeed ?xt_BadDeed ?xk_BadDeed ?xi_BadDeed ?xga_BadDeed ?xgg_BadDeed ?xhd_BadDeed ?xca_BadDeed ?xcg_BadDeed ?xct_BadDeed ?xmo_BadDeed ?xn_BadDeed_why ?xL_NoRow ?xsa_NoRow ?xe_NoRow ?xt_NoRow ?xk_NoRow ?xi_NoRow ?xga_NoRow ?xgg_NoRow ?xhd_NoRow ?xca_NoRow ?xcg_NoRow ?xct_NoRow ?xmo_NoRow ?xn_NoRow_why ?xL_NotLet ?xsa_NotLet ?xe_NotLet ?xt_NotLet ?xk_NotLet ?xi_NotLet ?xga_NotLet ?xgg_NotLet ?xhd_NotLet ?xca_NotLet ?xcg_NotLet ?xct_NotLet ?xmo_NotLet ?xn_NotLet_why ?xn_NotLet_at ?xL_TooLate ?xsa_TooLate ?xe_TooLate ?xt_TooLate ?xk_TooLate ?xi_TooLate ?xga_TooLate ?xgg_TooLate ?xhd_TooLate ?xca_TooLate ?xcg_TooLate ?xct_TooLate ?xmo_TooLate ?xn_TooLate_why ?xn_TooLate_at ?xL_BadText ?xsa_BadText ?xe_BadText ?xt_BadText ?xk_BadText ?xi_BadText ?xga_BadText ?xgg_BadText ?xhd_BadText ?xca_BadText ?xcg_BadText ?xct_BadText ?xmo_BadText ?xn_BadText_why ?xn_BadText_line ?xL_NoSuch ?xsa_NoSuch ?xe_NoSuch ?xt_NoSuch ?xk_NoSuch ?xi_NoSuch ?xga_NoSuch ?xgg_NoSuch ?xhd_NoSuch ?xca_NoSuch ?xcg_NoSuch ?xct_NoSuch ?xmo_NoSuch ?xn_NoSuch_kind ?xn_NoSuch_name ?xL_NoPlace ?xsa_NoPlace ?xe_NoPlace ?xt_NoPlace ?xk_NoPlace ?xi_NoPlace ?xga_NoPlace ?xgg_NoPlace ?xhd_NoPlace ?xca_NoPlace ?xcg_NoPlace ?xct_NoPlace ?xmo_NoPlace ?xn_NoPlace_at ?xL_Elsewhere ?xsa_Elsewhere ?xe_Elsewhere ?xt_Elsewhere ?xk_Elsewhere ?xi_Elsewhere ?xga_Elsewhere ?xgg_Elsewhere ?xhd_Elsewhere ?xca_Elsewhere ?xcg_Elsewhere ?xct_Elsewhere ?xmo_Elsewhere ?xn_Elsewhere_number ?xn_Elsewhere_place ?xL_Known ?xsa_Known ?xe_Known ?xt_Known ?xk_Known ?xi_Known ?xga_Known ?xgg_Known ?xhd_Known ?xca_Known ?xcg_Known ?xct_Known ?xmo_Known ?xn_Known_kind ?xn_Known_name ?xL_NoShare ?xsa_NoShare ?xe_NoShare ?xt_NoShare ?xk_NoShare ?xi_NoShare ?xga_NoShare ?xgg_NoShare ?xhd_NoShare ?xca_NoShare ?xcg_NoShare ?xct_NoShare ?xmo_NoShare ?xn_NoShare_num ?vV_IndexError ?vV_KeyError ?vV_LookupError ?vV_ValueError ?vV_ZeroDivisionError ?vV ?cf1 ?cf2 ?cf3 ?ki_PearlError ?ki_BadBead ?ki_BadRule ?ki_BadLot ?ki_BadDeed ?ki_NoRow ?ki_NotLet ?ki_TooLate ?ki_BadText ?ki_NoSuch ?ki_NoPlace ?ki_Elsewhere ?ki_Known ?ki_NoShare
    (case aC_PearlError => k_is)
    (case aC_BadBead => k_is)
    (case aC_BadRule => k_is)
    (case aC_BadLot => k_is)
    (case aC_BadDeed => k_is)
    (case aC_NoRow => k_is)
    (case aC_NotLet => k_is)
    (case aC_TooLate => k_is)
    (case aC_BadText => k_is)
    (case aC_NoSuch => k_is)
    (case aC_NoPlace => k_is)
    (case aC_Elsewhere => k_is)
    (case aC_Known => k_is)
    (case aC_NoShare => k_is)
    (case a0 => k_is)
    (case i0 => k_is)
    (case l0 => k_is)
    (case d0 => k_is)
    (case c0 => k_is)
    (case k0 => k_is)
    (case a1 => k_is)
    (case i1 => k_is)
    (case l1 => k_is)
    (case c1 => k_is)
    (case k1 => k_is)
    (case a2 => k_is)
    (case i2 => k_is)
    (case l2 => k_is)
    (case c2 => k_is)
    (case k2 => k_is)
    (case a3 => k_is)
    (case i3 => k_is)
    (case l3 => k_is)
    (case c3 => k_is)
    (case k3 => k_is)
    (case a4 => k_is)
    (case i4 => k_is)
    (case l4 => k_is)
    (case c4 => k_is)
    (case k4 => k_is)
    (case a5 => k_is)
    (case i5 => k_is)
    (case l5 => k_is)
    (case c5 => k_is)
    (case k5 => k_is)
    (case a6 => k_is)
    (case i6 => k_is)
    (case l6 => k_is)
    (case c6 => k_is)
    (case k6 => k_is)
    (case a7 => k_is)
    (case i7 => k_is)
    (case l7 => k_is)
    (case c7 => k_is)
    (case k7 => k_is)
    (case a8 => k_is)
    (case i8 => k_is)
    (case l8 => k_is)
    (case c8 => k_is)
    (case k8 => k_is)
    (case a9 => k_is)
    (case l9 => k_is)
    (case c9 => k_is)
    (case k9 => k_is)
    (case a10 => k_is)
    (case l10 => k_is)
    (case c10 => k_is)
    (case k10 => k_is)
    (case a11 => k_is)
    (case l11 => k_is)
    (case c11 => k_is)
    (case k11 => k_is)
    (case a12 => k_is)
    (case l12 => k_is)
    (case c12 => k_is)
    (case k12 => k_is)
    (case a13 => k_is)
    (case l13 => k_is)
    (case c13 => k_is)
    (case k13 => k_is)
    (case a14 => k_is)
    (case l14 => k_is)
    (case c14 => k_is)
    (case k14 => k_is)
    (case a15 => k_is)
    (case l15 => k_is)
    (case c15 => k_is)
    (case k15 => k_is)
    (case a16 => k_is)
    (case l16 => k_is)
    (case c16 => k_is)
    (case k16 => k_is)
    (case a17 => k_is)
    (case l17 => k_is)
    (case c17 => k_is)
    (case k17 => k_is)
    (case a18 => k_is)
    (case l18 => k_is)
    (case c18 => k_is)
    (case k18 => k_is)
    (case z0 => k_is)
    (case z1 => k_is)
    (case z2 => k_is)
    (case z3 => k_is)
    (case z4 => k_is)
    (case z5 => k_is)
    (case z6 => k_is)
    (case z7 => k_is)
    (case z8 => k_is)
    (case z9 => k_is)
    (case xL_PearlError => k_is)
    (case xsa_PearlError => k_is)
    (case xe_PearlError => k_is)
    (case xt_PearlError => k_is)
    (case xk_PearlError => k_is)
    (case xi_PearlError => k_is)
    (case xga_PearlError => k_is)
    (case xgg_PearlError => k_is)
    (case xhd_PearlError => k_is)
    (case xca_PearlError => k_is)
    (case xcg_PearlError => k_is)
    (case xct_PearlError => k_is)
    (case xmo_PearlError => k_is)
    (case xn_PearlError_why => k_is)
    (case xL_BadBead => k_is)
    (case xsa_BadBead => k_is)
    (case xe_BadBead => k_is)
    (case xt_BadBead => k_is)
    (case xk_BadBead => k_is)
    (case xi_BadBead => k_is)
    (case xga_BadBead => k_is)
    (case xgg_BadBead => k_is)
    (case xhd_BadBead => k_is)
    (case xca_BadBead => k_is)
    (case xcg_BadBead => k_is)
    (case xct_BadBead => k_is)
    (case xmo_BadBead => k_is)
    (case xn_BadBead_why => k_is)
    (case xL_BadRule => k_is)
    (case xsa_BadRule => k_is)
    (case xe_BadRule => k_is)
    (case xt_BadRule => k_is)
    (case xk_BadRule => k_is)
    (case xi_BadRule => k_is)
    (case xga_BadRule => k_is)
    (case xgg_BadRule => k_is)
    (case xhd_BadRule => k_is)
    (case xca_BadRule => k_is)
    (case xcg_BadRule => k_is)
    (case xct_BadRule => k_is)
    (case xmo_BadRule => k_is)
    (case xn_BadRule_why => k_is)
    (case xL_BadLot => k_is)
    (case xsa_BadLot => k_is)
    (case xe_BadLot => k_is)
    (case xt_BadLot => k_is)
    (case xk_BadLot => k_is)
    (case xi_BadLot => k_is)
    (case xga_BadLot => k_is)
    (case xgg_BadLot => k_is)
    (case xhd_BadLot => k_is)
    (case xca_BadLot => k_is)
    (case xcg_BadLot => k_is)
    (case xct_BadLot => k_is)
    (case xmo_BadLot => k_is)
    (case xn_BadLot_why => k_is)
    (case xL_BadDeed => k_is)
    (case xsa_BadDeed => k_is)
    (case xe_BadDeed => k_is)
    (case xt_BadDeed => k_is)
    (case xk_BadDeed => k_is)
    (case xi_BadDeed => k_is)
    (case xga_BadDeed => k_is)
    (case xgg_BadDeed => k_is)
    (case xhd_BadDeed => k_is)
    (case xca_BadDeed => k_is)
    (case xcg_BadDeed => k_is)
    (case xct_BadDeed => k_is)
    (case xmo_BadDeed => k_is)
    (case xn_BadDeed_why => k_is)
    (case xL_NoRow => k_is)
    (case xsa_NoRow => k_is)
    (case xe_NoRow => k_is)
    (case xt_NoRow => k_is)
    (case xk_NoRow => k_is)
    (case xi_NoRow => k_is)
    (case xga_NoRow => k_is)
    (case xgg_NoRow => k_is)
    (case xhd_NoRow => k_is)
    (case xca_NoRow => k_is)
    (case xcg_NoRow => k_is)
    (case xct_NoRow => k_is)
    (case xmo_NoRow => k_is)
    (case xn_NoRow_why => k_is)
    (case xL_NotLet => k_is)
    (case xsa_NotLet => k_is)
    (case xe_NotLet => k_is)
    (case xt_NotLet => k_is)
    (case xk_NotLet => k_is)
    (case xi_NotLet => k_is)
    (case xga_NotLet => k_is)
    (case xgg_NotLet => k_is)
    (case xhd_NotLet => k_is)
    (case xca_NotLet => k_is)
    (case xcg_NotLet => k_is)
    (case xct_NotLet => k_is)
    (case xmo_NotLet => k_is)
    (case xn_NotLet_why => k_is)
    (case xn_NotLet_at => k_is)
    (case xL_TooLate => k_is)
    (case xsa_TooLate => k_is)
    (case xe_TooLate => k_is)
    (case xt_TooLate => k_is)
    (case xk_TooLate => k_is)
    (case xi_TooLate => k_is)
    (case xga_TooLate => k_is)
    (case xgg_TooLate => k_is)
    (case xhd_TooLate => k_is)
    (case xca_TooLate => k_is)
    (case xcg_TooLate => k_is)
    (case xct_TooLate => k_is)
    (case xmo_TooLate => k_is)
    (case xn_TooLate_why => k_is)
    (case xn_TooLate_at => k_is)
    (case xL_BadText => k_is)
    (case xsa_BadText => k_is)
    (case xe_BadText => k_is)
    (case xt_BadText => k_is)
    (case xk_BadText => k_is)
    (case xi_BadText => k_is)
    (case xga_BadText => k_is)
    (case xgg_BadText => k_is)
    (case xhd_BadText => k_is)
    (case xca_BadText => k_is)
    (case xcg_BadText => k_is)
    (case xct_BadText => k_is)
    (case xmo_BadText => k_is)
    (case xn_BadText_why => k_is)
    (case xn_BadText_line => k_is)
    (case xL_NoSuch => k_is)
    (case xsa_NoSuch => k_is)
    (case xe_NoSuch => k_is)
    (case xt_NoSuch => k_is)
    (case xk_NoSuch => k_is)
    (case xi_NoSuch => k_is)
    (case xga_NoSuch => k_is)
    (case xgg_NoSuch => k_is)
    (case xhd_NoSuch => k_is)
    (case xca_NoSuch => k_is)
    (case xcg_NoSuch => k_is)
    (case xct_NoSuch => k_is)
    (case xmo_NoSuch => k_is)
    (case xn_NoSuch_kind => k_is)
    (case xn_NoSuch_name => k_is)
    (case xL_NoPlace => k_is)
    (case xsa_NoPlace => k_is)
    (case xe_NoPlace => k_is)
    (case xt_NoPlace => k_is)
    (case xk_NoPlace => k_is)
    (case xi_NoPlace => k_is)
    (case xga_NoPlace => k_is)
    (case xgg_NoPlace => k_is)
    (case xhd_NoPlace => k_is)
    (case xca_NoPlace => k_is)
    (case xcg_NoPlace => k_is)
    (case xct_NoPlace => k_is)
    (case xmo_NoPlace => k_is)
    (case xn_NoPlace_at => k_is)
    (case xL_Elsewhere => k_is)
    (case xsa_Elsewhere => k_is)
    (case xe_Elsewhere => k_is)
    (case xt_Elsewhere => k_is)
    (case xk_Elsewhere => k_is)
    (case xi_Elsewhere => k_is)
    (case xga_Elsewhere => k_is)
    (case xgg_Elsewhere => k_is)
    (case xhd_Elsewhere => k_is)
    (case xca_Elsewhere => k_is)
    (case xcg_Elsewhere => k_is)
    (case xct_Elsewhere => k_is)
    (case xmo_Elsewhere => k_is)
    (case xn_Elsewhere_number => k_is)
    (case xn_Elsewhere_place => k_is)
    (case xL_Known => k_is)
    (case xsa_Known => k_is)
    (case xe_Known => k_is)
    (case xt_Known => k_is)
    (case xk_Known => k_is)
    (case xi_Known => k_is)
    (case xga_Known => k_is)
    (case xgg_Known => k_is)
    (case xhd_Known => k_is)
    (case xca_Known => k_is)
    (case xcg_Known => k_is)
    (case xct_Known => k_is)
    (case xmo_Known => k_is)
    (case xn_Known_kind => k_is)
    (case xn_Known_name => k_is)
    (case xL_NoShare => k_is)
    (case xsa_NoShare => k_is)
    (case xe_NoShare => k_is)
    (case xt_NoShare => k_is)
    (case xk_NoShare => k_is)
    (case xi_NoShare => k_is)
    (case xga_NoShare => k_is)
    (case xgg_NoShare => k_is)
    (case xhd_NoShare => k_is)
    (case xca_NoShare => k_is)
    (case xcg_NoShare => k_is)
    (case xct_NoShare => k_is)
    (case xmo_NoShare => k_is)
    (case xn_NoShare_num => k_is)
    (case vV_IndexError => k_is)
    (case vV_KeyError => k_is)
    (case vV_LookupError => k_is)
    (case vV_ValueError => k_is)
    (case vV_ZeroDivisionError => k_is)
    (case vV => k_is)
    (case cf1 => k_is)
    (case cf2 => k_is)
    (case cf3 => k_is)
    (case ki_PearlError => refine ⟨?_, ?_, ?_, ?_, ?_, ?_, ?_, ?_, ?_, ?_, ?_, ?_, ?_, ?_, ?_, ?_, ?_, ?_, ?_⟩ <;> first | kit_is | exact if_pos (beq_self_eq_true _))
    (case ki_BadBead => refine ⟨?_, ?_, ?_, ?_, ?_, ?_, ?_, ?_, ?_, ?_, ?_, ?_, ?_, ?_, ?_, ?_, ?_, ?_, ?_⟩ <;> first | kit_is | exact if_pos (beq_self_eq_true _))
    (case ki_BadRule => refine ⟨?_, ?_, ?_, ?_, ?_, ?_, ?_, ?_, ?_, ?_, ?_, ?_, ?_, ?_, ?_, ?_, ?_, ?_, ?_⟩ <;> first | kit_is | exact if_pos (beq_self_eq_true _))
    (case ki_BadLot => refine ⟨?_, ?_, ?_, ?_, ?_, ?_, ?_, ?_, ?_, ?_, ?_, ?_, ?_, ?_, ?_, ?_, ?_, ?_, ?_⟩ <;> first | kit_is | exact if_pos (beq_self_eq_true _))
    (case ki_BadDeed => refine ⟨?_, ?_, ?_, ?_, ?_, ?_, ?_, ?_, ?_, ?_, ?_, ?_, ?_, ?_, ?_, ?_, ?_, ?_, ?_⟩ <;> first | kit_is | exact if_pos (beq_self_eq_true _))
    (case ki_NoRow => refine ⟨?_, ?_, ?_, ?_, ?_, ?_, ?_, ?_, ?_, ?_, ?_, ?_, ?_, ?_, ?_, ?_, ?_, ?_, ?_⟩ <;> first | kit_is | exact if_pos (beq_self_eq_true _))
    (case ki_NotLet => refine ⟨?_, ?_, ?_, ?_, ?_, ?_, ?_, ?_, ?_, ?_, ?_, ?_, ?_, ?_, ?_, ?_, ?_, ?_, ?_⟩ <;> first | kit_is | exact if_pos (beq_self_eq_true _))
    (case ki_TooLate => refine ⟨?_, ?_, ?_, ?_, ?_, ?_, ?_, ?_, ?_, ?_, ?_, ?_, ?_, ?_, ?_, ?_, ?_, ?_, ?_⟩ <;> first | kit_is | exact if_pos (beq_self_eq_true _))
    (case ki_BadText => refine ⟨?_, ?_, ?_, ?_, ?_, ?_, ?_, ?_, ?_, ?_, ?_, ?_, ?_, ?_, ?_, ?_, ?_, ?_, ?_⟩ <;> first | kit_is | exact if_pos (beq_self_eq_true _))
    (case ki_NoSuch => refine ⟨?_, ?_, ?_, ?_, ?_, ?_, ?_, ?_, ?_, ?_, ?_, ?_, ?_, ?_, ?_, ?_, ?_, ?_, ?_⟩ <;> first | kit_is | exact if_pos (beq_self_eq_true _))
    (case ki_NoPlace => refine ⟨?_, ?_, ?_, ?_, ?_, ?_, ?_, ?_, ?_, ?_, ?_, ?_, ?_, ?_, ?_, ?_, ?_, ?_, ?_⟩ <;> first | kit_is | exact if_pos (beq_self_eq_true _))
    (case ki_Elsewhere => refine ⟨?_, ?_, ?_, ?_, ?_, ?_, ?_, ?_, ?_, ?_, ?_, ?_, ?_, ?_, ?_, ?_, ?_, ?_, ?_⟩ <;> first | kit_is | exact if_pos (beq_self_eq_true _))
    (case ki_Known => refine ⟨?_, ?_, ?_, ?_, ?_, ?_, ?_, ?_, ?_, ?_, ?_, ?_, ?_, ?_, ?_, ?_, ?_, ?_, ?_⟩ <;> first | kit_is | exact if_pos (beq_self_eq_true _))
    (case ki_NoShare => refine ⟨?_, ?_, ?_, ?_, ?_, ?_, ?_, ?_, ?_, ?_, ?_, ?_, ?_, ?_, ?_, ?_, ?_, ?_, ?_⟩ <;> first | kit_is | exact if_pos (beq_self_eq_true _))
