import PyProof.Rows.All
import Wide.All
import OpenK.AllK
import Wide.FinOn
import HandS.ForMost
import HandS.IsInst
import HandS.Wide
import HandS.Walk
import HandS.TupAny
import HandS.Style
import HandS.Defaults
import HandS.MakeKw
import KE.IntTextLaws
import HandS.OwnEq
import HandS.ExcInit
import HandS.ExcField
import HandS.ExcIs
import HandS.ExcOwn
import HandS.WordsExc
import KE.KExcIs
import HandS.MakeKwOnly
import HandS.FStr
import PyProof.InstSpecial
import PyProof.FString2
import KE.KCallOwn
import PySem.Challenge.RW_pearlrise_k21_rules_made
set_option Elab.async false
set_option linter.all false
set_option maxRecDepth 100000
set_option maxHeartbeats 4000000
namespace KA
open PySem PySem.Spec PyProof.Rows L2
/-! ### heaps -/
theorem same_upd {H : Hp} {p : Addr} {o : HO} (h : H p = none) : Same H (upd H p o) := fun b x e => by
  rw [upd_ne (ne_of_none e h)]
  exact e
/-- all but what stands at d is as it was -/
def But (d : Addr) (H H' : Hp) : Prop := ∀ b o, b ≠ d → H b = some o → H' b = some o
theorem But.refl (d : Addr) (H : Hp) : But d H H := fun _ _ _ h => h
theorem But.trans {d : Addr} {H H1 H2 : Hp} (a : But d H H1) (b : But d H1 H2) : But d H H2 := fun c o n h => b c o n (a c o n h)
theorem But.of {d : Addr} {H H' : Hp} (s : Same H H') : But d H H' := fun b o _ h => s b o h
theorem But.at_ {d : Addr} {H : Hp} {o : HO} : But d H (upd H d o) := fun b x n h => by
  rw [upd_ne n]
  exact h
theorem But.new {d p : Addr} {H : Hp} {o : HO} (h : H p = none) : But d H (upd H p o) := But.of (same_upd h)
theorem But.same {d : Addr} {H0 H H' : Hp} (h0 : H0 d = none) (s : Same H0 H) (b : But d H H') : Same H0 H' := fun c o h => b c o (ne_of_none h h0) (s c o h)
theorem But.mut {d : Addr} {H0 H : Hp} {o : HO} {p : Addr} (b : But d H0 H) (h : H0 p = none) : But d H0 (upd H p o) := fun c x n e => by
  rw [upd_ne (ne_of_none e h)]
  exact b c x n e
theorem But.free {d p : Addr} {H H' : Hp} (b : But d H H') (n : p ≠ d) (h : H' p = none) : H p = none := by
  cases q : H p with
  | none => rfl
  | some o =>
    rw [b p o n q] at h
    cases h
theorem but_seq {K : PySem.W.Frag} {d a : Addr} {H H' : Hp} {xs : List V} (b : But d H H') (n : a ≠ d) (h : SqL K H a xs) : SqL K H' a xs := by
  rcases h with (h | ⟨o, h⟩) | h
  · exact .inl (.inl (b _ _ n h))
  · exact .inl (.inr ⟨o, b _ _ n h⟩)
  · exact .inr h
/-- the draws' list at d, its counter at most n -/
def Dr (P : Int → Prop) (d : Addr) (n : Nat) (H : Hp) : Prop := ∃ a b c : Int, H d = some (.lst [.int a, .int b, .int c]) ∧ P b ∧ 0 ≤ c ∧ c ≤ n
theorem Dr.same {P : Int → Prop} {d : Addr} {n : Nat} {H H' : Hp} (h : Dr P d n H) (s : Same H H') : Dr P d n H' := by
  obtain ⟨a, b, c, e, r⟩ := h
  exact ⟨a, b, c, s _ _ e, r⟩
theorem Dr.ne {P : Int → Prop} {d p : Addr} {n : Nat} {H : Hp} (h : Dr P d n H) (e : H p = none) : p ≠ d := by
  obtain ⟨a, b, c, z, _⟩ := h
  exact (ne_of_none z e).symm
theorem Dr.mono {P : Int → Prop} {d : Addr} {n m : Nat} {H : Hp} (h : Dr P d n H) (e : n ≤ m) : Dr P d m H := by
  obtain ⟨a, b, c, z, h1, h3, h4⟩ := h
  exact ⟨a, b, c, z, h1, h3, by omega⟩
theorem Dr.upd {P : Int → Prop} {d p : Addr} {n : Nat} {H : Hp} {o : HO} (h : Dr P d n H) (e : p ≠ d) : Dr P d n (L2.upd H p o) := by
  obtain ⟨a, b, c, z, r⟩ := h
  exact ⟨a, b, c, by rw [upd_ne e.symm]; exact z, r⟩
theorem yesT {σ : L2.St} {H : Hp} {A B : Hp → Prop} (h : A H) : tYes σ H (fun b H3 => if b = true then A H3 else B H3) := by
  show if true = true then A H else B H
  exact iteT h
/-! ### what is no own object -/
inductive Th (K : PySem.W.Frag) (H : Hp) : V → Prop
  | int (i : Int) : Th K H (.int i)
  | bl (b : Bool) : Th K H (.bl b)
  | str (z : Str) : Th K H (.str z)
  | non : Th K H .non
  | lst {a : Addr} (h : TyX K H (.ref a) (.type "list")) : Th K H (.ref a)
  | tup {a : Addr} (h : TyX K H (.ref a) (.type "tuple")) : Th K H (.ref a)
  | dct {a : Addr} (h : TyX K H (.ref a) (.type "dict")) : Th K H (.ref a)
def isI : V → Bool
  | .int _ => true
  | _ => false
def isB : V → Bool
  | .bl _ => true
  | _ => false
def isS : V → Bool
  | .str _ => true
  | _ => false
theorem isi_int {K : PySem.W.Frag} {H : Hp} {v : V} (h : Th K H v) : ∃ t, TyX K H v t ∧ PySem.W.kitOne K t (.type "int") = some (isI v || isB v) := by
  cases h with
  | int i => exact ⟨_, .base (.int i), kit_ty (r := true) (by decide +kernel)⟩
  | bl b => exact ⟨_, .base (.bl b), kit_ty (r := true) (by decide +kernel)⟩
  | str z => exact ⟨_, .base (.str z), kit_ty (r := false) (by decide +kernel)⟩
  | non => exact ⟨_, .base .non, kit_ty (r := false) (by decide +kernel)⟩
  | lst h => exact ⟨_, h, kit_ty (r := false) (by decide +kernel)⟩
  | tup h => exact ⟨_, h, kit_ty (r := false) (by decide +kernel)⟩
  | dct h => exact ⟨_, h, kit_ty (r := false) (by decide +kernel)⟩
theorem isi_bool {K : PySem.W.Frag} {H : Hp} {v : V} (h : Th K H v) : ∃ t, TyX K H v t ∧ PySem.W.kitOne K t (.type "bool") = some (isB v) := by
  cases h with
  | int i => exact ⟨_, .base (.int i), kit_ty (r := false) (by decide +kernel)⟩
  | bl b => exact ⟨_, .base (.bl b), kit_ty (r := true) (by decide +kernel)⟩
  | str z => exact ⟨_, .base (.str z), kit_ty (r := false) (by decide +kernel)⟩
  | non => exact ⟨_, .base .non, kit_ty (r := false) (by decide +kernel)⟩
  | lst h => exact ⟨_, h, kit_ty (r := false) (by decide +kernel)⟩
  | tup h => exact ⟨_, h, kit_ty (r := false) (by decide +kernel)⟩
  | dct h => exact ⟨_, h, kit_ty (r := false) (by decide +kernel)⟩
theorem isi_str {K : PySem.W.Frag} {H : Hp} {v : V} (h : Th K H v) : ∃ t, TyX K H v t ∧ PySem.W.kitOne K t (.type "str") = some (isS v) := by
  cases h with
  | int i => exact ⟨_, .base (.int i), kit_ty (r := false) (by decide +kernel)⟩
  | bl b => exact ⟨_, .base (.bl b), kit_ty (r := false) (by decide +kernel)⟩
  | str z => exact ⟨_, .base (.str z), kit_ty (r := true) (by decide +kernel)⟩
  | non => exact ⟨_, .base .non, kit_ty (r := false) (by decide +kernel)⟩
  | lst h => exact ⟨_, h, kit_ty (r := false) (by decide +kernel)⟩
  | tup h => exact ⟨_, h, kit_ty (r := false) (by decide +kernel)⟩
  | dct h => exact ⟨_, h, kit_ty (r := false) (by decide +kernel)⟩
/-! ### signs -/
def lower (c : Nat) : Bool := decide (97 ≤ c) && decide (c ≤ 122)
def figure (c : Nat) : Bool := decide (48 ≤ c) && decide (c ≤ 57)
theorem sgl_lt (a b : Nat) : (([a] : List Nat) < [b]) ↔ a < b := by
  rw [List.cons_lt_cons_iff]
  simp
theorem ge_a (c : Nat) : (!decide ((⟨#[c]⟩ : Str).cps.toList < ("a" : Str).cps.toList)) = decide (97 ≤ c) := by
  have e : ("a" : Str).cps.toList = [97] := by decide +kernel
  rw [e]
  show (!decide ([c] < [97])) = _
  rw [decide_eq_decide.mpr (sgl_lt c 97), ← decide_not, decide_eq_decide]
  omega
theorem le_z (c : Nat) : (!decide (("z" : Str).cps.toList < (⟨#[c]⟩ : Str).cps.toList)) = decide (c ≤ 122) := by
  have e : ("z" : Str).cps.toList = [122] := by decide +kernel
  rw [e]
  show (!decide ([122] < [c])) = _
  rw [decide_eq_decide.mpr (sgl_lt 122 c), ← decide_not, decide_eq_decide]
  omega
theorem in_az (c : Nat) : decide (c ∈ ("abcdefghijklmnopqrstuvwxyz" : Str).cps.toList) = lower c := by
  have e : ("abcdefghijklmnopqrstuvwxyz" : Str).cps.toList = (List.range 26).map (· + 97) := by decide +kernel
  unfold lower
  rw [e, ← Bool.decide_and, decide_eq_decide, List.mem_map]
  constructor
  · rintro ⟨a, ha, rfl⟩
    rw [List.mem_range] at ha
    omega
  · intro h
    exact ⟨c - 97, List.mem_range.mpr (by omega), by omega⟩
theorem in_09 (c : Nat) : decide (c ∈ ("0123456789" : Str).cps.toList) = figure c := by
  have e : ("0123456789" : Str).cps.toList = (List.range 10).map (· + 48) := by decide +kernel
  unfold figure
  rw [e, ← Bool.decide_and, decide_eq_decide, List.mem_map]
  constructor
  · rintro ⟨a, ha, rfl⟩
    rw [List.mem_range] at ha
    omega
  · intro h
    exact ⟨c - 48, List.mem_range.mpr (by omega), by omega⟩
/-! ### numbers by figures -/
open NumText TL
theorem fold_lt : ∀ (cs : List Nat) (a : Nat), AllDigits cs → a * 10 ^ cs.length ≤ cs.foldl (fun acc c => acc * 10 + (c - 48)) a ∧ cs.foldl (fun acc c => acc * 10 + (c - 48)) a < (a + 1) * 10 ^ cs.length
  | [], a, _ => by simp
  | c :: cs, a, h => by
    have hc := h.head
    have ih := fold_lt cs (a * 10 + (c - 48)) h.tail
    rw [List.foldl_cons, List.length_cons, Nat.pow_succ]
    have p : 0 < 10 ^ cs.length := Nat.pos_of_ne_zero (by simp)
    generalize 10 ^ cs.length = q at *
    refine ⟨Nat.le_trans ?_ ih.1, Nat.lt_of_lt_of_le ih.2 ?_⟩
    · have : a * (q * 10) = (a * 10) * q := by rw [Nat.mul_comm q 10, ← Nat.mul_assoc]
      rw [this]
      exact Nat.mul_le_mul_right q (by omega)
    · have : (a + 1) * (q * 10) = ((a + 1) * 10) * q := by rw [Nat.mul_comm q 10, ← Nat.mul_assoc]
      rw [this]
      exact Nat.mul_le_mul_right q (by omega)
theorem val_lt {cs : List Nat} (h : AllDigits cs) : digitsVal cs < 10 ^ cs.length := by
  have := (fold_lt cs 0 h).2
  rw [Nat.zero_add, Nat.one_mul] at this
  exact this
theorem val_ge {c : Nat} {cs : List Nat} (h : AllDigits (c :: cs)) (hc : c ≠ 48) : 10 ^ cs.length ≤ digitsVal (c :: cs) := by
  have h1 := h.head
  have := (fold_lt cs (0 * 10 + (c - 48)) h.tail).1
  refine Nat.le_trans ?_ this
  have : 1 * 10 ^ cs.length ≤ (0 * 10 + (c - 48)) * 10 ^ cs.length := Nat.mul_le_mul_right _ (by omega)
  omega
theorem val_zero {cs : List Nat} : digitsVal (48 :: cs) = digitsVal cs := rfl
/-- the figures of a number have as many signs as the word just where it has no nought ahead of others -/
theorem len_canon {c : Nat} {cs : List Nat} (h : AllDigits (c :: cs)) : (numL (digitsVal (c :: cs))).length = (c :: cs).length ↔ ¬ (c = 48 ∧ 1 < (c :: cs).length) := by
  constructor
  · rintro e ⟨rfl, hl⟩
    rw [val_zero] at e
    rw [List.length_cons] at e hl
    have := numL_len (n := digitsVal cs) (k := cs.length) (by omega) (val_lt h.tail)
    omega
  · intro hn
    by_cases hc : c = 48
    · subst hc
      have : cs = [] := by
        cases cs with
        | nil => rfl
        | cons d r =>
          exact absurd ⟨rfl, by rw [List.length_cons, List.length_cons]; omega⟩ hn
      subst this
      rw [val_zero]
      show (numL 0).length = 1
      rw [numL_lt (by decide)]
      rfl
    · have u := numL_len (n := digitsVal (c :: cs)) (k := (c :: cs).length) (by rw [List.length_cons]; omega) (val_lt h)
      have l := val_ge h hc
      have v := val_lt (numL_digits (digitsVal (c :: cs)))
      rw [numL_val] at v
      have w : 10 ^ cs.length < 10 ^ (numL (digitsVal (c :: cs))).length := Nat.lt_of_le_of_lt l v
      have := (Nat.pow_lt_pow_iff_right (by decide : 1 < 10)).mp w
      rw [List.length_cons] at *
      omega
/-- words of figures of one length and one worth are one -/
theorem fold_inj : ∀ (cs ds : List Nat) (a b : Nat), AllDigits cs → AllDigits ds → cs.length = ds.length → cs.foldl (fun acc c => acc * 10 + (c - 48)) a = ds.foldl (fun acc c => acc * 10 + (c - 48)) b → a = b ∧ cs = ds
  | [], [], a, b, _, _, _, e => ⟨e, rfl⟩
  | [], _ :: _, _, _, _, _, l, _ => by simp at l
  | _ :: _, [], _, _, _, _, l, _ => by simp at l
  | c :: cs, d :: ds, a, b, h1, h2, l, e => by
    have q := fold_inj cs ds (a * 10 + (c - 48)) (b * 10 + (d - 48)) h1.tail h2.tail (by simpa using l) e
    have hc := h1.head
    have hd := h2.head
    have e1 := q.1
    have : a = b ∧ c = d := by omega
    exact ⟨this.1, by rw [this.2, q.2]⟩
theorem canon_eq {c : Nat} {cs : List Nat} (h : AllDigits (c :: cs)) (hn : ¬ (c = 48 ∧ 1 < (c :: cs).length)) : numL (digitsVal (c :: cs)) = c :: cs :=
  (fold_inj _ _ 0 0 (numL_digits _) h ((len_canon h).mpr hn) (numL_val _)).2
section
variable {X : Cx}
/-- a text many times -/
def timesS (z : Str) (n : Nat) : Str := ⟨(List.replicate n z.cps).foldl (· ++ ·) #[]⟩
theorem times_fold (c : Nat) : ∀ (n : Nat) (a : Array Nat), ((List.replicate n #[c]).foldl (· ++ ·) a).toList = a.toList ++ List.replicate n c
  | 0, a => by simp
  | n + 1, a => by
    rw [List.replicate_succ, List.foldl_cons, times_fold c n (a ++ #[c]), Array.toList_append, List.append_assoc]
    rfl
theorem times_list {z : Str} {c n : Nat} (h : z.cps = #[c]) : (timesS z n).cps.toList = List.replicate n c := by
  unfold timesS
  show ((List.replicate n z.cps).foldl (· ++ ·) #[]).toList = _
  rw [h, times_fold c n #[]]
  rfl
theorem times_len {z : Str} {c n : Nat} (h : z.cps = #[c]) : (timesS z n).length = n := by
  show (timesS z n).cps.size = n
  rw [← Array.length_toList, times_list h, List.length_replicate]
theorem op_mulS : OpR X (binaryOp .Mult) (fun x y H Q => ∃ (z : Str) (k : Int), x = .str z ∧ y = .int k ∧ 2 ≤ k ∧ k ≤ 100000 ∧ (∃ c, z.cps = #[c]) ∧ Q (.str (timesS z k.toNat)) H) := by
  intro pins s σ H x y v u Q I rx ry h
  obtain ⟨z, k, rfl, rfl, h2, h3, ⟨c, hc⟩, q⟩ := h
  have hz : z.length = 1 := by
    show z.cps.size = 1
    rw [hc]
    rfl
  obtain ⟨t, rfl⟩ := rx
  obtain ⟨t', rfl⟩ := ry
  refine PySem.P.mul_str ?_ ?_ ?_ ?_
  · rw [decide_eq_false (by omega), decide_eq_false (by omega)]
    rfl
  · intro _ _
    rw [hz]
    have : (1 : Int) ≤ (2 ^ 63 - 1) / k := by
      have : (2 ^ 63 - 1 : Int) / k ≥ 1 := (Int.le_ediv_iff_mul_le (by omega)).mpr (by omega)
      exact this
    omega
  · intro _ _
    rw [hz]
    exact decide_eq_false (by
      have : (100000 : Nat) ≤ sizeLine := by decide
      show ¬ _ > _
      omega)
  · have hk1 : (k == 1) = false := by
      rw [beq_eq_false_iff_ne]
      omega
    rw [if_neg (by omega), if_neg (by rw [hk1, hz]; decide)]
    refine ⟨?_, ⟨.str (timesS z k.toNat), H, I.tok _, ⟨_, rfl⟩, q⟩⟩
    have e := times_len (n := k.toNat) hc
    have : (100000 : Nat) ≤ sizeLine := by decide
    show (timesS z k.toNat).length ≤ sizeLine
    omega
end

/-! ### comprehensions over a text -/
/-- [truth of each sign] -/
theorem lc_all {z : Str} {H : Hp} {D : Addr} (hD : H D = none) (hz : z.length ≤ 100000) (f : Nat → Bool) {g : TG} {tt : TT} {te : TE} {vs : List Nat} {σ : L2.St} {Qd : Hp → Prop}
    (turn : ∀ (c : Nat) (H2 : Hp) (R : V → Hp → Prop) (C : Hp → Prop), Same H H2 → R (.bl (f c)) H2 → g (.str ⟨#[c]⟩) (wipe σ vs) H2 fun σ2 H2 => wipe σ2 vs = wipe σ vs ∧ tt σ2 H2 fun b H3 => if b = true then te σ2 H3 R else C H3)
    (fin : ∀ H', Same H H' → H' D = some (.lst ((z.cps.toList.map f).map V.bl)) → Qd H') :
    ∃ W : Nat → Nat → Hp → Prop, (∃ m, W 0 m (upd H D (.lst []))) ∧ ∀ i m H, W i m H →
      ((Its z).stop i H ∧ Qd H) ∨ ((Its z).go i H ∧ ∃ Nx : Hp → Prop, (∀ H', Nx H' → ∃ m', m' < m ∧ W (i + 1) m' H') ∧ ∀ x H', (Its z).yld i H x H' → g x (wipe σ vs) H' fun σ2 H2 => wipe σ2 vs = wipe σ vs ∧ tt σ2 H2 fun b H3 =>
        if b = true then te σ2 H3 fun y H4 => ∃ acc, H4 D = some (.lst acc) ∧ acc.length < sizeLine ∧ Nx (upd H4 D (.lst (acc ++ [y]))) else Nx H3) := by
  have hzl : z.length ≤ sizeLine := Nat.le_trans hz (by decide)
  refine lc_it walk_str (fun i H' => Same H H' ∧ H' D = some (.lst (((z.cps.toList.take i).map f).map V.bl))) ⟨same_upd hD, upd_same⟩ (fun _ _ _ _ => trivial) ?_ ?_
  · rintro i x H1 H2 hi ⟨s1, e1⟩ ⟨rfl, c, hc, rfl⟩
    refine turn c _ _ _ s1 ?_
    have hc' : z.cps.toList[i]? = some c := by rw [Array.getElem?_toList]; exact hc
    refine ⟨_, e1, ?_, fun b o h => ?_, ?_⟩
    · rw [List.length_map, List.length_map, List.length_take]
      exact Nat.lt_of_le_of_lt (Nat.min_le_left _ _) (Nat.lt_of_lt_of_le hi hzl)
    · rw [upd_ne (ne_of_none h hD)]
      exact s1 _ _ h
    · rw [upd_same, List.take_add_one, hc', List.map_append, List.map_append]
      rfl
  · rintro H' ⟨s1, e1⟩
    have ef : z.cps.toList.take z.cps.size = z.cps.toList := List.take_of_length_le (by rw [Array.length_toList]; exact Nat.le_refl _)
    rw [ef] at e1
    exact fin H' s1 e1
def sg (c : Nat) : V := .str ⟨#[c]⟩
/-- [sign for sign in text if ..] -/
theorem lc_filter {z : Str} {H : Hp} {D : Addr} (hD : H D = none) (hz : z.length ≤ 100000) (f : Nat → Bool) {g : TG} {tt : TT} {te : TE} {vs : List Nat} {σ : L2.St} {Qd : Hp → Prop}
    (turn : ∀ (c : Nat) (H2 : Hp) (R : V → Hp → Prop) (C : Hp → Prop), Same H H2 → (f c = true → R (sg c) H2) → (f c = false → C H2) → g (.str ⟨#[c]⟩) (wipe σ vs) H2 fun σ2 H2 => wipe σ2 vs = wipe σ vs ∧ tt σ2 H2 fun b H3 => if b = true then te σ2 H3 R else C H3)
    (fin : ∀ H', Same H H' → H' D = some (.lst ((z.cps.toList.filter f).map sg)) → Qd H') :
    ∃ W : Nat → Nat → Hp → Prop, (∃ m, W 0 m (upd H D (.lst []))) ∧ ∀ i m H, W i m H →
      ((Its z).stop i H ∧ Qd H) ∨ ((Its z).go i H ∧ ∃ Nx : Hp → Prop, (∀ H', Nx H' → ∃ m', m' < m ∧ W (i + 1) m' H') ∧ ∀ x H', (Its z).yld i H x H' → g x (wipe σ vs) H' fun σ2 H2 => wipe σ2 vs = wipe σ vs ∧ tt σ2 H2 fun b H3 =>
        if b = true then te σ2 H3 fun y H4 => ∃ acc, H4 D = some (.lst acc) ∧ acc.length < sizeLine ∧ Nx (upd H4 D (.lst (acc ++ [y]))) else Nx H3) := by
  have hzl : z.length ≤ sizeLine := Nat.le_trans hz (by decide)
  refine lc_it walk_str (fun i H' => Same H H' ∧ H' D = some (.lst (((z.cps.toList.take i).filter f).map sg))) ⟨same_upd hD, upd_same⟩ (fun _ _ _ _ => trivial) ?_ ?_
  · rintro i x H1 H2 hi ⟨s1, e1⟩ ⟨rfl, c, hc, rfl⟩
    have hc' : z.cps.toList[i]? = some c := by rw [Array.getElem?_toList]; exact hc
    refine turn c _ _ _ s1 (fun hf => ?_) (fun hf => ?_)
    · refine ⟨_, e1, ?_, fun b o h => ?_, ?_⟩
      · rw [List.length_map]
        refine Nat.lt_of_le_of_lt (List.length_filter_le _ _) ?_
        rw [List.length_take]
        exact Nat.lt_of_le_of_lt (Nat.min_le_left _ _) (Nat.lt_of_lt_of_le hi hzl)
      · rw [upd_ne (ne_of_none h hD)]
        exact s1 _ _ h
      · rw [upd_same, List.take_add_one, hc', List.filter_append, List.map_append]
        show _ = some (HO.lst (_ ++ List.map sg (List.filter f [c])))
        rw [List.filter_cons_of_pos hf]
        rfl
    · refine ⟨s1, ?_⟩
      rw [e1, List.take_add_one, hc', List.filter_append, List.map_append]
      show _ = some (HO.lst (_ ++ List.map sg (List.filter f [c])))
      rw [List.filter_cons_of_neg (by rw [hf]; exact Bool.false_ne_true)]
      show _ = some (HO.lst (_ ++ []))
      rw [List.append_nil]
  · rintro H' ⟨s1, e1⟩
    have ef : z.cps.toList.take z.cps.size = z.cps.toList := List.take_of_length_le (by rw [Array.length_toList]; exact Nat.le_refl _)
    rw [ef] at e1
    exact fin H' s1 e1
/-- a list of signs beside [] -/
theorem dp_signs {K : PySem.W.Frag} {H : Hp} : ∀ cs : List Nat, DpAll K H (cs.map sg) (cs.map fun c => PyData.str ⟨#[c]⟩)
  | [] => .nil
  | c :: cs => .cons (.str _) (dp_signs cs)
theorem eqv_nil (ds : List PyData) : PyData.eqv (.list ds) (.list []) = ds.isEmpty := by
  cases ds with
  | nil => rfl
  | cons d r => rfl
theorem lay_signs : ∀ cs : List Nat, (∀ c ∈ cs, c < 128) → PyData.canLayAll0 (cs.map fun c => PyData.str ⟨#[c]⟩) = true
  | [], _ => rfl
  | c :: r, h => by
    have h1 := h c (List.mem_cons_self ..)
    have h2 := lay_signs r fun d hd => h d (List.mem_cons_of_mem _ hd)
    show (PyData.canLay0 (.str ⟨#[c]⟩) && PyData.canLayAll0 (r.map fun c => PyData.str ⟨#[c]⟩)) = true
    rw [h2, Bool.and_true]
    show (#[c].all (· < 0x110000)) = true
    simp
    omega
theorem dep_signs : ∀ cs : List Nat, PyData.depthAll (cs.map fun c => PyData.str ⟨#[c]⟩) = 0
  | [] => rfl
  | c :: r => by
    show max 0 (PyData.depthAll (r.map fun c => PyData.str ⟨#[c]⟩)) = 0
    rw [dep_signs r]
    rfl
theorem shp_signs {cs : List Nat} (h : ∀ c ∈ cs, c < 128) : SeqAt.shaped (.list (cs.map fun c => PyData.str ⟨#[c]⟩)) = true := by
  unfold SeqAt.shaped
  have e1 : PyData.canLay0 (.list (cs.map fun c => PyData.str ⟨#[c]⟩)) = true := lay_signs cs h
  have e2 : PyData.depth (.list (cs.map fun c => PyData.str ⟨#[c]⟩)) = 1 := by
    show PyData.depthAll _ + 1 = 1
    rw [dep_signs]
  rw [e1, e2]
  rfl
/-- signs below 128 alone -/
def Asc (z : Str) : Prop := ∀ c ∈ z.cps.toList, c < 128
theorem asc_cut {z : Str} (h : Asc z) (lo hi : Option Int) : Asc (cutS z lo hi) := fun c hc => h c (List.mem_of_mem_drop (List.mem_of_mem_take hc))
theorem asc_app {x y : Str} (hx : Asc x) (hy : Asc y) : Asc (x ++ y) := fun c hc => by
  have hc : c ∈ TL.tl (x ++ y) := hc
  rw [TL.tl_append] at hc
  rcases List.mem_append.mp hc with h | h
  · exact hx c h
  · exact hy c h
theorem asc_upper {z : Str} (h : Asc z) : Asc (Txt.upper z) ∧ (Txt.upper z).length = z.length := by
  rw [PyProof.Rows.upper_ascii h]
  refine ⟨fun c hc => ?_, ?_⟩
  · have hc : c ∈ (z.cps.map PyProof.Rows.up1).toList := hc
    rw [Array.toList_map] at hc
    obtain ⟨a, ha, rfl⟩ := List.mem_map.mp hc
    have := h a ha
    unfold PyProof.Rows.up1
    split <;> omega
  · show (z.cps.map PyProof.Rows.up1).size = z.cps.size
    rw [Array.size_map]
theorem asc_of {z : Str} {cs : List Nat} (h : z.cps.toList = cs) (hl : ∀ c ∈ cs, c < 128) : Asc z := fun c hc => hl c (by rw [← h]; exact hc)
theorem lower_lt {c : Nat} (h : lower c = true) : c < 128 := by
  unfold lower at h
  simp only [Bool.and_eq_true, decide_eq_true_eq] at h
  omega
theorem figure_lt {c : Nat} (h : figure c = true) : c < 128 := by
  unfold figure at h
  simp only [Bool.and_eq_true, decide_eq_true_eq] at h
  omega
theorem filter_none {l : List Nat} {f : Nat → Bool} : (l.filter (fun c => !f c)).isEmpty = l.all f := by
  induction l with
  | nil => rfl
  | cons c r ih =>
    rw [List.filter_cons, List.all_cons]
    cases h : f c with
    | true => simpa using ih
    | false => rfl
theorem str_sign {c d : Nat} {z : Str} (h : z.cps = #[d]) : decide (V.str ⟨#[c]⟩ = V.str z) = decide (c = d) := by
  obtain ⟨z⟩ := z
  rw [decide_eq_decide]
  constructor
  · intro e
    injection e with e
    injection e with e
    rw [show z = #[d] from h] at e
    injection e with e
    injection e
  · rintro rfl
    rw [show z = #[c] from h]
/-! ### a text joined of signs -/
open TL
theorem join_signs : ∀ cs : List Nat, joinL [] ((cs.map fun c => (⟨#[c]⟩ : Str)).map tl) = cs
  | [] => rfl
  | [c] => rfl
  | c :: d :: r => by
    show [c] ++ ([] ++ joinL [] (((d :: r).map fun c => (⟨#[c]⟩ : Str)).map tl)) = c :: d :: r
    rw [join_signs (d :: r)]
    rfl
theorem join_text {y : Str} (hy : tl y = []) (cs : List Nat) : (Txt.join y (cs.map fun c => (⟨#[c]⟩ : Str))).cps.toList = cs := by
  show tl (Txt.join y _) = cs
  rw [join_eq, tl_join, hy, join_signs]
theorem size_signs : ∀ cs : List Nat, ((cs.map fun c => (⟨#[c]⟩ : Str)).map (·.length)).sum = cs.length
  | [] => rfl
  | c :: r => by
    rw [List.map_cons, List.map_cons, List.sum_cons, size_signs r, List.length_cons]
    show 1 + r.length = _
    omega

/-- [.. for _ in range(k)], each a drawn sign -/
theorem lc_draw {P : Int → Prop} {d D : Addr} {n k : Nat} {H1 : Hp} (hD : H1 D = none) (dr : Dr P d n H1) (hk : k ≤ 1000) (p : Nat → Bool) {g : TG} {tt : TT} {te : TE} {vs : List Nat} {σ : L2.St} {Qd : Hp → Prop}
    (turn : ∀ (i : Nat) (H2 : Hp) (R : V → Hp → Prop) (C : Hp → Prop), i < k → Dr P d (n + i) H2 → (∀ H3 c, p c = true → But d H2 H3 → Dr P d (n + i + 1) H3 → R (sg c) H3) → g (.int (0 + i)) (wipe σ vs) H2 fun σ2 H2 => wipe σ2 vs = wipe σ vs ∧ tt σ2 H2 fun b H3 => if b = true then te σ2 H3 R else C H3)
    (fin : ∀ H' (cs : List Nat), cs.length = k → (∀ c ∈ cs, p c = true) → But d H1 H' → Dr P d (n + k) H' → H' D = some (.lst (cs.map sg)) → Qd H') :
    ∃ W : Nat → Nat → Hp → Prop, (∃ m, W 0 m (upd H1 D (.lst []))) ∧ ∀ i m H, W i m H →
      ((Itr 0 k).stop i H ∧ Qd H) ∨ ((Itr 0 k).go i H ∧ ∃ Nx : Hp → Prop, (∀ H', Nx H' → ∃ m', m' < m ∧ W (i + 1) m' H') ∧ ∀ x H', (Itr 0 k).yld i H x H' → g x (wipe σ vs) H' fun σ2 H2 => wipe σ2 vs = wipe σ vs ∧ tt σ2 H2 fun b H3 =>
        if b = true then te σ2 H3 fun y H4 => ∃ acc, H4 D = some (.lst acc) ∧ acc.length < sizeLine ∧ Nx (upd H4 D (.lst (acc ++ [y]))) else Nx H3) := by
  have nD : D ≠ d := dr.ne hD
  refine lc_range (lo := 0) (n := k) (fun i H' => ∃ cs : List Nat, cs.length = i ∧ (∀ c ∈ cs, p c = true) ∧ But d H1 H' ∧ Dr P d (n + i) H' ∧ H' D = some (.lst (cs.map sg))) ⟨[], rfl, (fun _ h => nomatch h), But.new hD, dr.upd nD, upd_same⟩ ?_ ?_
  · rintro i H2 hi ⟨cs, hl, hp, b2, dr2, e2⟩
    refine turn i H2 _ _ hi dr2 fun H3 c hc b3 dr3 => ?_
    refine ⟨_, b3 _ _ nD e2, ?_, cs ++ [c], ?_, ?_, ?_, ?_, ?_⟩
    · rw [List.length_map, hl]
      exact Nat.lt_of_lt_of_le (show i < 1000 by omega) (by decide)
    · rw [List.length_append, hl]
      rfl
    · intro x hx
      rcases List.mem_append.mp hx with h | h
      · exact hp x h
      · rw [List.mem_singleton.mp h]
        exact hc
    · exact (b2.trans b3).mut hD
    · exact (dr3.upd nD).mono (by omega)
    · rw [upd_same, List.map_append]
      rfl
  · rintro H' ⟨cs, hl, hp, b, dr', e⟩
    exact fin H' cs hl hp b dr' e
theorem map_sg (cs : List Nat) : (cs.map fun c => (⟨#[c]⟩ : Str)).map V.str = cs.map sg := by
  rw [List.map_map]
  rfl
theorem join_len {y : Str} (hy : TL.tl y = []) (cs : List Nat) : (Txt.join y (cs.map fun c => (⟨#[c]⟩ : Str))).length = cs.length := by
  have := join_text hy cs
  show (Txt.join y (cs.map fun c => (⟨#[c]⟩ : Str))).cps.size = _
  rw [← Array.length_toList, this]
theorem az_at {r : Int} (h0 : 0 ≤ r) (h1 : r < 26) : ∃ c, atI ("abcdefghijklmnopqrstuvwxyz" : Str).cps.toList r = some c ∧ lower c = true := by
  obtain ⟨j, rfl⟩ : ∃ j : Nat, r = (j : Int) := ⟨r.toNat, by omega⟩
  have e : ("abcdefghijklmnopqrstuvwxyz" : Str).cps.toList = (List.range 26).map (· + 97) := by decide +kernel
  refine ⟨j + 97, atI_nat ?_, ?_⟩
  · rw [e, List.getElem?_map, List.getElem?_range (by omega)]
    rfl
  · unfold lower
    rw [decide_eq_true (by omega), decide_eq_true (by omega)]
    rfl
theorem fig_at {r : Int} (h0 : 0 ≤ r) (h1 : r < 10) : ∃ c, atI ("0123456789" : Str).cps.toList r = some c ∧ figure c = true := by
  obtain ⟨j, rfl⟩ : ∃ j : Nat, r = (j : Int) := ⟨r.toNat, by omega⟩
  have e : ("0123456789" : Str).cps.toList = (List.range 10).map (· + 48) := by decide +kernel
  refine ⟨j + 48, atI_nat ?_, ?_⟩
  · rw [e, List.getElem?_map, List.getElem?_range (by omega)]
    rfl
  · unfold figure
    rw [decide_eq_true (by omega), decide_eq_true (by omega)]
    rfl
theorem log_small {m : Int} (h0 : 0 < m) (h : m < 2 ^ 200) : m.natAbs.log2 < 9000 := by
  refine Nat.lt_of_lt_of_le (PySem.Flt.log2_lt_of (k := 200) (by decide) ?_) (by decide)
  have e : ((2 : Int) ^ 200) = ((2 ^ 200 : Nat) : Int) := by decide
  rw [e] at h
  omega
theorem log_tiny {m : Int} (h0 : 0 < m) (h : m < 1000000000000000000000000000000) : m.natAbs.log2 < 9000 := log_small h0 (Int.lt_trans h (by decide))
theorem at_str {z : Str} {r : Int} (h0 : 0 ≤ r) (h1 : r < (z.length : Int)) : ∃ c, atI z.cps.toList r = some c ∧ c ∈ z.cps.toList := by
  obtain ⟨j, rfl⟩ : ∃ j : Nat, r = (j : Int) := ⟨r.toNat, by omega⟩
  have hj : j < z.cps.toList.length := by
    have : z.cps.toList.length = z.length := Array.length_toList
    omega
  exact ⟨_, atI_nat (List.getElem?_eq_getElem hj), List.getElem_mem hj⟩
theorem sz (n : Nat) (h : n ≤ 100000) : n ≤ sizeLine := Nat.le_trans h (by decide)
theorem tyx_same {K : PySem.W.Frag} {H H' : Hp} (s : Same H H') {v : V} {t : Value} (h : TyX K H v t) : TyX K H' v t := by
  cases h with
  | base h =>
    cases h with
    | non => exact .base .non
    | bl b => exact .base (.bl b)
    | int i => exact .base (.int i)
    | str z => exact .base (.str z)
    | flt x => exact .base (.flt x)
    | lst e => exact .base (.lst (s _ _ e))
    | frz e => exact .base (.frz (s _ _ e))
    | tup e => exact .base (.tup (s _ _ e))
    | dK e => exact .base (.dK (s _ _ e))
    | dT e => exact .base (.dT (s _ _ e))
    | ins e cl ha hn htk hm => exact .base (.ins (s _ _ e) cl ha hn htk hm)
  | byt b => exact .byt b
  | set e => exact .set (s _ _ e)
  | kList e c => exact .kList e c
  | kTuple e c => exact .kTuple e c
  | kDict e c => exact .kDict e c
  | fTuple e => exact .fTuple (s _ _ e)
  | fDict e => exact .fDict (s _ _ e)
theorem Th.same {K : PySem.W.Frag} {H H' : Hp} (s : Same H H') {v : V} (h : Th K H v) : Th K H' v := by
  cases h with
  | int i => exact .int i
  | bl b => exact .bl b
  | str z => exact .str z
  | non => exact .non
  | lst h => exact .lst (tyx_same s h)
  | tup h => exact .tup (tyx_same s h)
  | dct h => exact .dct (tyx_same s h)
theorem cells_int {ns : List Int} {n : Int} {lo hi : Option Int} {i : Nat} {x : V} (h : ([V.int n] ++ cutV (ns.map V.int) lo hi)[i]? = some x) : ∃ k, x = .int k := by
  have hm := List.mem_of_getElem? h
  rcases List.mem_append.mp hm with h | h
  · exact ⟨n, List.mem_singleton.mp h⟩
  · have := List.mem_of_mem_drop (List.mem_of_mem_take h)
    obtain ⟨k, _, rfl⟩ := List.mem_map.mp this
    exact ⟨k, rfl⟩
section
variable {P : Program} {w : World} {K : PySem.W.Frag} {mg : Str → Option Value} {base : Heap} {x qual : Str} {params : Arguments} {body : List Stmt} {scope : Scope} {dvs : List V} {kws : List (Str × V)} {f : Addr} {fd : FuncData}
theorem okD {N ps : List Str} {k : Nat} {sp : Sp} (F : FunD K x qual params body scope dvs kws f fd) (S : FnScope N ps scope) (len : ∀ vs H Q E, sp vs H Q E → vs.length = ps.length)
    (hbody : ∀ (cdv : Value) (A : Around) (outer : List Env) (s : Shared) (H : Hp) (vs : List V) (Q : VK) (E : XK), Room k (A.deeper (envOfC qual scope s.heap.objs.size f cdv)) → sp vs H Q E →
      ∃ t, PSs (cxOf CX0 P w K mg base N qual scope f cdv A outer s H E).nox body t ∧ t { nx := fun _ H' => Q .non H', rt := Q } (start N vs) H) : FnOk P w K mg base CX0 (k + 1) f fd ps sp :=
  F.ok S len fun cdv A outer s H vs Q E hr h => by
    obtain ⟨t, h, q⟩ := hbody cdv A outer s H vs Q E hr h
    exact ⟨t, h.nox, q⟩
end
end KA
namespace KA
open PySem PySem.Spec PyProof.Rows L2
/-- what is no list is as it was -/
def NL (H H' : Hp) : Prop := ∀ b o, (∀ xs, o ≠ .lst xs) → H b = some o → H' b = some o
theorem NL.of {H H' : Hp} (s : Same H H') : NL H H' := fun b o _ h => s b o h
theorem NL.at_ {H : Hp} {D : Addr} {xs : List V} {o : HO} (h : H D = some (.lst xs)) : NL H (upd H D o) := fun b u n e => by
  have : b ≠ D := fun z => by
    rw [z, h] at e
    exact n xs (Option.some.inj e).symm
  rw [upd_ne this]
  exact e
theorem NL.trans {H H1 H2 : Hp} (a : NL H H1) (b : NL H1 H2) : NL H H2 := fun c o n h => b c o n (a c o n h)
/-- a comprehension over a list: what it makes is told by G -/
theorem lc_gen {K : PySem.W.Frag} {a : Addr} {xs : List V} {H : Hp} {D : Addr} (hD : H D = none) (hS : SqL K H a xs) (hl : xs.length ≤ 10000) (G : Nat → V → Hp → Prop) (hG : ∀ j v H1 H2, NL H1 H2 → G j v H1 → G j v H2)
    {g : TG} {tt : TT} {te : TE} {vs : List Nat} {σ : L2.St} {Qd : Hp → Prop}
    (turn : ∀ (i : Nat) (x : V) (H2 : Hp) (R : V → Hp → Prop) (C : Hp → Prop), xs[i]? = some x → Same H H2 → (∀ v H3, Same H2 H3 → G i v H3 → R v H3) → g x (wipe σ vs) H2 fun σ2 H2 => wipe σ2 vs = wipe σ vs ∧ tt σ2 H2 fun b H3 => if b = true then te σ2 H3 R else C H3)
    (fin : ∀ H' acc, Same H H' → H' D = some (.lst acc) → acc.length = xs.length → (∀ j v, acc[j]? = some v → G j v H') → Qd H') :
    ∃ W : Nat → Nat → Hp → Prop, (∃ m, W 0 m (upd H D (.lst []))) ∧ ∀ i m H, W i m H →
      ((Itl K a).stop i H ∧ Qd H) ∨ ((Itl K a).go i H ∧ ∃ Nx : Hp → Prop, (∀ H', Nx H' → ∃ m', m' < m ∧ W (i + 1) m' H') ∧ ∀ x H', (Itl K a).yld i H x H' → g x (wipe σ vs) H' fun σ2 H2 => wipe σ2 vs = wipe σ vs ∧ tt σ2 H2 fun b H3 =>
        if b = true then te σ2 H3 fun y H4 => ∃ acc, H4 D = some (.lst acc) ∧ acc.length < sizeLine ∧ Nx (upd H4 D (.lst (acc ++ [y]))) else Nx H3) := by
  refine lc_list (K := K) (a := a) (xs := xs) (fun i H' => Same H H' ∧ ∃ acc, H' D = some (.lst acc) ∧ acc.length = i ∧ ∀ j v, acc[j]? = some v → G j v H') ⟨same_upd hD, [], upd_same, rfl, fun j v h => by simp at h⟩ (fun i H' _ h => h.1.seq hS) ?_ ?_
  · rintro i x H2 hi ⟨s2, acc, e2, l2, g2⟩
    have hil : i < xs.length := (List.getElem?_eq_some_iff.mp hi).1
    refine turn i x H2 _ _ hi s2 fun v H3 s3 hv => ?_
    have e3 := s3 _ _ e2
    refine ⟨acc, e3, ?_, fun b o h => ?_, acc ++ [v], upd_same, ?_, fun j w hj => ?_⟩
    · rw [l2]
      exact Nat.lt_of_lt_of_le (show i < 10000 by omega) (by decide)
    · rw [upd_ne (ne_of_none h hD)]
      exact s3 _ _ (s2 _ _ h)
    · rw [List.length_append, l2]
      rfl
    · refine hG j w H3 _ (NL.at_ e3) ?_
      by_cases h : j < acc.length
      · rw [List.getElem?_append_left h] at hj
        exact hG j w H2 H3 (NL.of s3) (g2 j w hj)
      · rw [List.getElem?_append_right (by omega)] at hj
        have : j = i := by
          have := (List.getElem?_eq_some_iff.mp hj).1
          rw [List.length_singleton] at this
          omega
        subst this
        rw [l2, Nat.sub_self] at hj
        have : v = w := Option.some.inj hj
        subst this
        exact hv
  · rintro H' ⟨s, acc, e, l, g⟩
    exact fin H' acc s e l g
/-- .. whose values are f of the place -/
theorem lc_vals {K : PySem.W.Frag} {a : Addr} {xs : List V} {H : Hp} {D : Addr} (hD : H D = none) (hS : SqL K H a xs) (hl : xs.length ≤ 10000) (f : Nat → V)
    {g : TG} {tt : TT} {te : TE} {vs : List Nat} {σ : L2.St} {Qd : Hp → Prop}
    (turn : ∀ (i : Nat) (x : V) (H2 : Hp) (R : V → Hp → Prop) (C : Hp → Prop), xs[i]? = some x → Same H H2 → R (f i) H2 → g x (wipe σ vs) H2 fun σ2 H2 => wipe σ2 vs = wipe σ vs ∧ tt σ2 H2 fun b H3 => if b = true then te σ2 H3 R else C H3)
    (fin : ∀ H', Same H H' → H' D = some (.lst ((List.range xs.length).map f)) → Qd H') :
    ∃ W : Nat → Nat → Hp → Prop, (∃ m, W 0 m (upd H D (.lst []))) ∧ ∀ i m H, W i m H →
      ((Itl K a).stop i H ∧ Qd H) ∨ ((Itl K a).go i H ∧ ∃ Nx : Hp → Prop, (∀ H', Nx H' → ∃ m', m' < m ∧ W (i + 1) m' H') ∧ ∀ x H', (Itl K a).yld i H x H' → g x (wipe σ vs) H' fun σ2 H2 => wipe σ2 vs = wipe σ vs ∧ tt σ2 H2 fun b H3 =>
        if b = true then te σ2 H3 fun y H4 => ∃ acc, H4 D = some (.lst acc) ∧ acc.length < sizeLine ∧ Nx (upd H4 D (.lst (acc ++ [y]))) else Nx H3) := by
  refine lc_gen hD hS hl (fun j v _ => v = f j) (fun _ _ _ _ _ h => h) (fun i x H2 R C hi s hR => turn i x H2 R C hi s (hR _ _ (Same.refl _) rfl)) fun H' acc s e l g => fin H' s ?_
  rw [e]
  congr 2
  refine List.ext_getElem? fun j => ?_
  by_cases h : j < xs.length
  · rw [List.getElem?_map, List.getElem?_range h]
    have : j < acc.length := by omega
    rw [List.getElem?_eq_getElem this]
    exact congrArg some (g j _ (List.getElem?_eq_getElem this))
  · rw [List.getElem?_eq_none (by omega), List.getElem?_eq_none (by rw [List.length_map, List.length_range]; omega)]
/-- a comprehension over a list that leaves some out; the heap stays -/
theorem lc_some {K : PySem.W.Frag} {a : Addr} {xs : List V} {H : Hp} {D : Addr} (hD : H D = none) (hS : SqL K H a xs) (hl : xs.length ≤ 10000) (p : V → Bool) (f : V → V)
    {g : TG} {tt : TT} {te : TE} {vs : List Nat} {σ : L2.St} {Qd : Hp → Prop}
    (turn : ∀ (i : Nat) (x : V) (H2 : Hp) (R : V → Hp → Prop) (C : Hp → Prop), xs[i]? = some x → Same H H2 → (p x = true → R (f x) H2) → (p x = false → C H2) → g x (wipe σ vs) H2 fun σ2 H2 => wipe σ2 vs = wipe σ vs ∧ tt σ2 H2 fun b H3 => if b = true then te σ2 H3 R else C H3)
    (fin : ∀ H', Same H H' → H' D = some (.lst ((xs.filter p).map f)) → Qd H') :
    ∃ W : Nat → Nat → Hp → Prop, (∃ m, W 0 m (upd H D (.lst []))) ∧ ∀ i m H, W i m H →
      ((Itl K a).stop i H ∧ Qd H) ∨ ((Itl K a).go i H ∧ ∃ Nx : Hp → Prop, (∀ H', Nx H' → ∃ m', m' < m ∧ W (i + 1) m' H') ∧ ∀ x H', (Itl K a).yld i H x H' → g x (wipe σ vs) H' fun σ2 H2 => wipe σ2 vs = wipe σ vs ∧ tt σ2 H2 fun b H3 =>
        if b = true then te σ2 H3 fun y H4 => ∃ acc, H4 D = some (.lst acc) ∧ acc.length < sizeLine ∧ Nx (upd H4 D (.lst (acc ++ [y]))) else Nx H3) := by
  refine lc_list (K := K) (a := a) (xs := xs) (fun i H' => Same H H' ∧ H' D = some (.lst (((xs.take i).filter p).map f))) ⟨same_upd hD, upd_same⟩ (fun i H' _ h => h.1.seq hS) ?_ ?_
  · rintro i x H2 hi ⟨s2, e2⟩
    have hil : i < xs.length := (List.getElem?_eq_some_iff.mp hi).1
    refine turn i x H2 _ _ hi s2 (fun hp => ?_) (fun hp => ?_)
    · refine ⟨_, e2, ?_, fun b o h => ?_, ?_⟩
      · rw [List.length_map]
        refine Nat.lt_of_le_of_lt (List.length_filter_le _ _) ?_
        rw [List.length_take]
        exact Nat.lt_of_le_of_lt (Nat.min_le_left _ _) (Nat.lt_of_lt_of_le (show i < 10000 by omega) (by decide))
      · rw [upd_ne (ne_of_none h hD)]
        exact s2 _ _ h
      · rw [upd_same, List.take_add_one, hi, List.filter_append, List.map_append]
        show _ = some (HO.lst (_ ++ List.map f (List.filter p [x])))
        rw [List.filter_cons_of_pos hp]
        rfl
    · refine ⟨s2, ?_⟩
      rw [e2, List.take_add_one, hi, List.filter_append, List.map_append]
      show _ = some (HO.lst (_ ++ List.map f (List.filter p [x])))
      rw [List.filter_cons_of_neg (by rw [hp]; exact Bool.false_ne_true)]
      show _ = some (HO.lst (_ ++ []))
      rw [List.append_nil]
  · rintro H' ⟨s, e⟩
    rw [List.take_of_length_le (Nat.le_refl _)] at e
    exact fin H' s e
theorem cut_to (xs : List V) (i : Nat) : cutV xs none (some (i : Int)) = xs.take i := by
  unfold cutV
  rw [HT.sIx_none, show HT.sIx xs.length xs.length (some (i : Int)) = min i xs.length from HT.sIx_nat xs.length xs.length i, Nat.sub_zero, List.drop_zero]
  by_cases h : i ≤ xs.length
  · rw [Nat.min_eq_left h]
  · rw [Nat.min_eq_right (by omega), List.take_of_length_le (Nat.le_refl _), List.take_of_length_le (by omega)]
theorem cut_from (xs : List V) (i : Nat) : cutV xs (some (i : Int)) none = xs.drop i := by
  unfold cutV
  rw [HT.sIx_none, show HT.sIx xs.length 0 (some (i : Int)) = min i xs.length from HT.sIx_nat xs.length 0 i]
  by_cases h : i ≤ xs.length
  · rw [Nat.min_eq_left h, List.take_of_length_le (by rw [List.length_drop]; omega)]
  · rw [Nat.min_eq_right (by omega), List.drop_of_length_le (Nat.le_refl _), List.drop_of_length_le (by omega)]
    exact List.take_nil
section
variable {X : Cx} {K' : PySem.W.Frag}
/-! the rules with the written part by its own name (for blocks) -/
theorem pe_fldK (hK : X.K = K') {e : Expr} {f : Str} {pos : Pos} {ta : TE} (ha : PE X e ta) (hb : attributeBase e f X.env (eval e X.env) = eval e X.env) : PE X (.Attribute e f pos) (tFld K' ta f) := by
  subst hK
  exact pe_fld ha hb
theorem ix_listK (hK : X.K = K') : IxR X (rIxL K') := by
  subst hK
  exact ix_list
theorem ix_tupK (hK : X.K = K') : IxR X (rIxT K') := by
  subst hK
  exact ix_tup
theorem sl_listK (hK : X.K = K') : SlR X (rSlL K') := by
  subst hK
  exact sl_list
theorem sl_tupAK (hK : X.K = K') : SlR X (rSlA K') := by
  subst hK
  exact sl_tupA
theorem op_eqDK (hK : X.K = K') (hu : X.A.units + 64 < cLine) : OpR X (compareOp .Eq) (rEqD K') := by
  subst hK
  exact op_eqD hu
theorem op_neDK (hK : X.K = K') (hu : X.A.units + 64 < cLine) : OpR X (compareOp .NotEq) (rNeD K') := by
  subst hK
  exact op_neD hu
theorem op_in_seqK (hK : X.K = K') : OpR X (compareOp .In) (rIn K' false) := by
  subst hK
  exact op_in_seq
end
section
variable {X : Cx}
/-- a statement and what follows it, with a word between -/
def tCutJ (t u : TS) : TS := fun D σ H => ∃ Mid : L2.St → Hp → Prop, t { D with nx := Mid } σ H ∧ ∀ σ' H', Mid σ' H' → u D σ' H'
theorem pss_cutJ {st : Stmt} {rest : List Stmt} {t u : TS} (h1 : PS X st t) (h2 : PSs X rest u) : PSs X (st :: rest) (tCutJ t u) := by
  refine ⟨fun pins s σ H D I h => ?_⟩
  obtain ⟨Mid, hm, hu⟩ := h
  refine wpAny_execs_cons (thn (h1.run pins s σ H { D with nx := Mid } I hm) fun f s1 q => ?_)
  cases f with
  | next =>
    obtain ⟨σ', H', I', q⟩ := q
    exact h2.run pins s1 σ' H' D I' (hu σ' H' q)
  | ret v => exact q
  | brk => exact q
  | cont => exact q
end
theorem nl_tup {K : PySem.W.Frag} {H H' : Hp} {a : Addr} {xs : List V} (s : NL H H') (h : SqT K H a xs) : SqT K H' a xs := by
  rcases h with (h | ⟨o, h⟩) | h
  · exact .inl (.inl (s _ _ (fun _ z => by cases z) h))
  · exact .inl (.inr ⟨o, s _ _ (fun _ z => by cases z) h⟩)
  · exact .inr h
theorem mem_cut {xs : List V} {lo hi : Option Int} {v : V} (h : v ∈ cutV xs lo hi) : v ∈ xs := List.mem_of_mem_drop (List.mem_of_mem_take h)
theorem len_cut (xs : List V) (lo hi : Option Int) : (cutV xs lo hi).length ≤ xs.length := by
  unfold cutV
  rw [List.length_take, List.length_drop]
  omega
/-- a comprehension over a list that leaves places out; the heap stays -/
theorem lc_someI {K : PySem.W.Frag} {a : Addr} {xs : List V} {H : Hp} {D : Addr} (hD : H D = none) (hS : SqL K H a xs) (hl : xs.length ≤ 10000) (p : Nat → Bool) (f : Nat → V)
    {g : TG} {tt : TT} {te : TE} {vs : List Nat} {σ : L2.St} {Qd : Hp → Prop}
    (turn : ∀ (i : Nat) (x : V) (H2 : Hp) (R : V → Hp → Prop) (C : Hp → Prop), xs[i]? = some x → Same H H2 → (p i = true → R (f i) H2) → (p i = false → C H2) → g x (wipe σ vs) H2 fun σ2 H2 => wipe σ2 vs = wipe σ vs ∧ tt σ2 H2 fun b H3 => if b = true then te σ2 H3 R else C H3)
    (fin : ∀ H', Same H H' → H' D = some (.lst (((List.range xs.length).filter p).map f)) → Qd H') :
    ∃ W : Nat → Nat → Hp → Prop, (∃ m, W 0 m (upd H D (.lst []))) ∧ ∀ i m H, W i m H →
      ((Itl K a).stop i H ∧ Qd H) ∨ ((Itl K a).go i H ∧ ∃ Nx : Hp → Prop, (∀ H', Nx H' → ∃ m', m' < m ∧ W (i + 1) m' H') ∧ ∀ x H', (Itl K a).yld i H x H' → g x (wipe σ vs) H' fun σ2 H2 => wipe σ2 vs = wipe σ vs ∧ tt σ2 H2 fun b H3 =>
        if b = true then te σ2 H3 fun y H4 => ∃ acc, H4 D = some (.lst acc) ∧ acc.length < sizeLine ∧ Nx (upd H4 D (.lst (acc ++ [y]))) else Nx H3) := by
  refine lc_list (K := K) (a := a) (xs := xs) (fun i H' => Same H H' ∧ H' D = some (.lst (((List.range i).filter p).map f))) ⟨same_upd hD, upd_same⟩ (fun i H' _ h => h.1.seq hS) ?_ ?_
  · rintro i x H2 hi ⟨s2, e2⟩
    have hil : i < xs.length := (List.getElem?_eq_some_iff.mp hi).1
    refine turn i x H2 _ _ hi s2 (fun hp => ?_) (fun hp => ?_)
    · refine ⟨_, e2, ?_, fun b o h => ?_, ?_⟩
      · rw [List.length_map]
        refine Nat.lt_of_le_of_lt (List.length_filter_le _ _) ?_
        rw [List.length_range]
        exact Nat.lt_of_lt_of_le (show i < 10000 by omega) (by decide)
      · rw [upd_ne (ne_of_none h hD)]
        exact s2 _ _ h
      · rw [upd_same, List.range_succ, List.filter_append, List.map_append, List.filter_cons_of_pos hp]
        rfl
    · refine ⟨s2, ?_⟩
      rw [e2, List.range_succ, List.filter_append, List.map_append, List.filter_cons_of_neg (by rw [hp]; exact Bool.false_ne_true)]
      show _ = some (HO.lst (_ ++ []))
      rw [List.append_nil]
  · rintro H' ⟨s, e⟩
    exact fin H' s e
section
variable {X : Cx} {CX : CXT} {k : Nat} {f : Addr} {fd : FuncData} {ps ks : List Str} {sp : Sp} {E : XK} {x : Str} {p pos : Pos} {kws : List Keyword} {tk : TA} {g : List Value → List Value → List Value} {gV : List V → List V → List V}
/-- f(k = v, ..) -/
theorem pe_callN0 (F : FnOk X.prog X.w X.K X.mg X.base CX k f fd ps sp) (hr : Room k X.A) (hg : Gl X x) (hm : X.mg x = some (.ref f)) (hk : PySem.W.keepIn X.K (.ref f) = true) (hb : KBn X.K fd ps 0 ks g gV) (hx : Passes CX X E) (hkw : PK X kws tk)
    (hall : (backToKw pos (keywordEach kws X.env)).all (·.1.isSome) = true := by rfl) (hks : (backToKw pos (keywordEach kws X.env)).filterMap (·.1) = ks := by rfl) (hdb : (x == ("__debug__" : Str)) = false := by decide)
    (hpl : ((backTo pos (starEach [] X.env)).any (·.1) || (backToKw pos (keywordEach kws X.env)).any (·.1.isNone)) = false := by rfl) :
    PE X (.Call (.Name x p) [] kws pos) (tCallN 0 ks.length sp gV E tNil tk) := by
  refine ⟨fun pins s σ H Q I h => ?_⟩
  refine wpAny_Call_Name_kw (ld_glob I hg hm ?_ hdb)
  refine PySem.W.callWith_KW0 (h₀ := X.base) I.ok.mod.kin hk hall ?_ hpl
  refine thn (hkw.run pos pins s σ H _ I h) fun ws s2 ⟨zs, H2, I2, rz, l1, l2, q2⟩ => ⟨I2.kIn, ?_⟩
  rw [hks]
  exact run_fnN (us := []) (vs := []) F hr hb hx I2 .nil rz rfl l2 q2
end
/-- keywords of a def without defaults -/
theorem kbn_of {K : PySem.W.Frag} {x qual : Str} {st : Stmt} {f : Addr} {fd : FuncData} {ps : List Str} (F : Fun K x qual st f fd) (n : Nat) (ks : List Str) (g : List Value → List Value → List Value) (gV : List V → List V → List V)
    (hrel : ∀ {vs : List V} {us : List Value} {zs : List V} {ws : List Value}, Vals vs us → Vals zs ws → Vals (gV vs zs) (g us ws))
    (h : ∀ (kV doc pm : Value) (an : Option Addr) (cdv ct : Value) (us ws : List Value), us.length = n → ws.length = ks.length → bindArgs (PySem.W.fnOf x qual (defArgs st) (defBody st) (defScope st) .none kV doc pm an cdv ct) ⟨us, ks.zip ws⟩ = pure (ps.zip (g us ws))) : KBn K fd ps n ks g gV := by
  obtain ⟨oc, od, kV, doc, pm, an, cdv, ct, osl, rfl, lk, hcd⟩ := F.ex
  exact ⟨fun s us ws _ l1 l2 => .of_eq (h kV doc pm an cdv ct us ws l1 l2), hrel⟩
def gsw {α : Type} (l : List α) : List α := match l with
  | [a, b] => [b, a]
  | l => l
theorem gsw_rel {zs : List V} {ws : List Value} (h : Vals zs ws) : Vals (gsw zs) (gsw ws) := by
  cases h with
  | nil => exact .nil
  | cons r1 h =>
    cases h with
    | nil => exact .cons r1 .nil
    | cons r2 h =>
      cases h with
      | nil => exact .cons r2 (.cons r1 .nil)
      | cons r3 h => exact .cons r1 (.cons r2 (.cons r3 h))
/-- a comprehension over range(n): what it makes is told by G -/
theorem lc_genR {n : Nat} {H : Hp} {D : Addr} (hD : H D = none) (hl : n ≤ 10000) (G : Nat → V → Hp → Prop) (hG : ∀ j v H1 H2, NL H1 H2 → G j v H1 → G j v H2)
    {g : TG} {tt : TT} {te : TE} {vs : List Nat} {σ : L2.St} {Qd : Hp → Prop}
    (turn : ∀ (i : Nat) (H2 : Hp) (R : V → Hp → Prop) (C : Hp → Prop), i < n → Same H H2 → (∀ v H3, Same H2 H3 → G i v H3 → R v H3) → g (.int (0 + i)) (wipe σ vs) H2 fun σ2 H2 => wipe σ2 vs = wipe σ vs ∧ tt σ2 H2 fun b H3 => if b = true then te σ2 H3 R else C H3)
    (fin : ∀ H' acc, Same H H' → H' D = some (.lst acc) → acc.length = n → (∀ j v, acc[j]? = some v → G j v H') → Qd H') :
    ∃ W : Nat → Nat → Hp → Prop, (∃ m, W 0 m (upd H D (.lst []))) ∧ ∀ i m H, W i m H →
      ((Itr 0 n).stop i H ∧ Qd H) ∨ ((Itr 0 n).go i H ∧ ∃ Nx : Hp → Prop, (∀ H', Nx H' → ∃ m', m' < m ∧ W (i + 1) m' H') ∧ ∀ x H', (Itr 0 n).yld i H x H' → g x (wipe σ vs) H' fun σ2 H2 => wipe σ2 vs = wipe σ vs ∧ tt σ2 H2 fun b H3 =>
        if b = true then te σ2 H3 fun y H4 => ∃ acc, H4 D = some (.lst acc) ∧ acc.length < sizeLine ∧ Nx (upd H4 D (.lst (acc ++ [y]))) else Nx H3) := by
  refine lc_range (lo := 0) (n := n) (fun i H' => Same H H' ∧ ∃ acc, H' D = some (.lst acc) ∧ acc.length = i ∧ ∀ j v, acc[j]? = some v → G j v H') ⟨same_upd hD, [], upd_same, rfl, fun j v h => by simp at h⟩ ?_ ?_
  · rintro i H2 hi ⟨s2, acc, e2, l2, g2⟩
    refine turn i H2 _ _ hi s2 fun v H3 s3 hv => ?_
    have e3 := s3 _ _ e2
    refine ⟨acc, e3, ?_, fun b o h => ?_, acc ++ [v], upd_same, ?_, fun j w hj => ?_⟩
    · rw [l2]
      exact Nat.lt_of_lt_of_le (show i < 10000 by omega) (by decide)
    · rw [upd_ne (ne_of_none h hD)]
      exact s3 _ _ (s2 _ _ h)
    · rw [List.length_append, l2]
      rfl
    · refine hG j w H3 _ (NL.at_ e3) ?_
      by_cases h : j < acc.length
      · rw [List.getElem?_append_left h] at hj
        exact hG j w H2 H3 (NL.of s3) (g2 j w hj)
      · rw [List.getElem?_append_right (by omega)] at hj
        have : j = i := by
          have := (List.getElem?_eq_some_iff.mp hj).1
          rw [List.length_singleton] at this
          omega
        subst this
        rw [l2, Nat.sub_self] at hj
        have : v = w := Option.some.inj hj
        subst this
        exact hv
  · rintro H' ⟨s, acc, e, l, g⟩
    exact fin H' acc s e l g
/-- [k for k in range(n) if a draw ..] -/
theorem lc_drawK {P : Int → Prop} {d D : Addr} {m n : Nat} {H1 : Hp} (hD : H1 D = none) (dr : Dr P d m H1) (hn : n ≤ 1000) {g : TG} {tt : TT} {te : TE} {vs : List Nat} {σ : L2.St} {Qd : Hp → Prop}
    (turn : ∀ (i : Nat) (H2 : Hp) (R : V → Hp → Prop) (C : Hp → Prop), i < n → Dr P d (m + i) H2 → (∀ H3, But d H2 H3 → Dr P d (m + i + 1) H3 → R (.int (i : Int)) H3 ∧ C H3) → g (.int (0 + i)) (wipe σ vs) H2 fun σ2 H2 => wipe σ2 vs = wipe σ vs ∧ tt σ2 H2 fun b H3 => if b = true then te σ2 H3 R else C H3)
    (fin : ∀ H' (ks : List Nat), (∀ k ∈ ks, k < n) → ks.length ≤ n → But d H1 H' → Dr P d (m + n) H' → H' D = some (.lst (ks.map fun (k : Nat) => V.int (k : Int))) → Qd H') :
    ∃ W : Nat → Nat → Hp → Prop, (∃ m, W 0 m (upd H1 D (.lst []))) ∧ ∀ i m H, W i m H →
      ((Itr 0 n).stop i H ∧ Qd H) ∨ ((Itr 0 n).go i H ∧ ∃ Nx : Hp → Prop, (∀ H', Nx H' → ∃ m', m' < m ∧ W (i + 1) m' H') ∧ ∀ x H', (Itr 0 n).yld i H x H' → g x (wipe σ vs) H' fun σ2 H2 => wipe σ2 vs = wipe σ vs ∧ tt σ2 H2 fun b H3 =>
        if b = true then te σ2 H3 fun y H4 => ∃ acc, H4 D = some (.lst acc) ∧ acc.length < sizeLine ∧ Nx (upd H4 D (.lst (acc ++ [y]))) else Nx H3) := by
  have nD : D ≠ d := dr.ne hD
  refine lc_range (lo := 0) (n := n) (fun i H' => ∃ ks : List Nat, (∀ k ∈ ks, k < n) ∧ ks.length ≤ i ∧ But d H1 H' ∧ Dr P d (m + i) H' ∧ H' D = some (.lst (ks.map fun (k : Nat) => V.int (k : Int)))) ⟨[], (fun _ h => nomatch h), Nat.le_refl _, But.new hD, dr.upd nD, upd_same⟩ ?_ ?_
  · rintro i H2 hi ⟨ks, hk, hl, b2, dr2, e2⟩
    refine turn i H2 _ _ hi dr2 fun H3 b3 dr3 => ⟨?_, ks, hk, by omega, b2.trans b3, dr3, b3 _ _ nD e2⟩
    refine ⟨_, b3 _ _ nD e2, ?_, ks ++ [i], ?_, ?_, ?_, ?_, ?_⟩
    · rw [List.length_map]
      exact Nat.lt_of_lt_of_le (show ks.length < 1001 by omega) (by decide)
    · intro k h
      rcases List.mem_append.mp h with h | h
      · exact hk k h
      · rw [List.mem_singleton.mp h]
        exact hi
    · rw [List.length_append, List.length_singleton]
      omega
    · exact (b2.trans b3).mut hD
    · exact (dr3.upd nD).mono (by omega)
    · rw [upd_same, List.map_append]
      rfl
  · rintro H' ⟨ks, hk, hl, b, dr', e⟩
    exact fin H' ks hk hl b dr' e
theorem in_ints (k : Nat) (S : List Nat) : inV (.int (k : Int)) (S.map fun (j : Nat) => V.int (j : Int)) = decide (k ∈ S) := by
  unfold inV
  rw [List.any_map]
  induction S with
  | nil => rfl
  | cons j S ih =>
    rw [List.any_cons, ih]
    show (((j : Int) == (k : Int)) || decide (k ∈ S)) = _
    rw [Bool.eq_iff_iff, Bool.or_eq_true, beq_iff_eq, decide_eq_true_eq, decide_eq_true_eq, List.mem_cons]
    constructor
    · rintro (h | h)
      · exact .inl (by omega)
      · exact .inr h
    · rintro (h | h)
      · exact .inl (by omega)
      · exact .inr h
theorem flat_ints (S : List Nat) : (S.map fun (j : Nat) => V.int (j : Int)).all flatV = true := by
  rw [List.all_eq_true]
  intro v hv
  obtain ⟨j, _, rfl⟩ := List.mem_map.mp hv
  rfl
end KA
namespace KA
open PySem PySem.SeqAt
open AutoSeq1 (wpAny_loadPart')
open MeetsSeq MeetsSeq2 MeetsSeq3 SeqRoads2
section
variable {prog : Program} {w : World} {A : Around} {R : Result → Shared → Prop}
/-- two lists whose items are equal, turn by turn: != is False -/
theorem ne_turns (p q : Addr) (N : Nat) (J : Nat → Shared → Prop) (hJ : GQ.ListI prog w A (fun e s' => R (.error e) s') p q N J)
    (done : ∀ s, J N s → R (.ok (.ret (.bool false))) s) : ∀ (k i : Nat), N - i = k → i ≤ N → ∀ s, J i s →
      wpAny (model prog w) A.in1 (Builtin.«list.__eq__.loop» ⟨[.ref p, .ref q, rawInt i, rawInt 3], []⟩) (GQ.FinOf prog w A R) (fun e s' => R (.error e) s') s
  | 0, i, hk, hi, s, hs => by
    obtain ⟨xs, ys, m, m2, gp, gq, zp, zq, _⟩ := hJ _ _ hs
    have iN : i = N := by omega
    have last : R (.ok (.ret (.bool false))) s := done s (iN ▸ hs)
    obtain ⟨hh, gg, dd, kk, oo⟩ := s
    wp_walk using wpAny_loadPart' gp, wpAny_loadPart' gq
    have n1 : xs[((i : Nat) : Int).toNat]? = none := by simp; omega
    have n2 : ys[((i : Nat) : Int).toNat]? = none := by simp; omega
    rw [n1, n2]
    wp_walk using wpAny_loadPart' gp, wpAny_loadPart' gq
    show R (.ok (.ret (.bool (xs.size != ys.size)))) _
    rw [zp, zq]
    simpa using last
  | k + 1, i, hk, hi, s, hs => by
    obtain ⟨xs, ys, m, m2, gp, gq, zp, zq, tn⟩ := hJ _ _ hs
    have ip : i < xs.size := by omega
    have iq : i < ys.size := by omega
    have tt := tn ip iq
    obtain ⟨hh, gg, dd, kk, oo⟩ := s
    wp_walk using wpAny_loadPart' gp, wpAny_loadPart' gq
    have n1 : xs[((i : Nat) : Int).toNat]? = some xs[i] := by simp [ip]
    have n2 : ys[((i : Nat) : Int).toNat]? = some ys[i] := by simp [iq]
    have up : ((i : Int) + 1) = ((i + 1 : Nat) : Int) := by omega
    rw [n1, n2]
    refine wpAny_bind (wpAny_mono tt (fun r s2 h2 => ?_) fun _ _ x => x)
    obtain ⟨er, h2⟩ := h2
    subst er
    have next := ne_turns p q N J hJ done k (i + 1) (by omega) (by omega) s2 h2
    obtain ⟨hh2, gg2, dd2, kk2, oo2⟩ := s2
    wp_walk
    rw [up]
    exact ⟨plainId_quiet plain_eq_loop _, codeAny_builtin entry_eq_loop (by rw [Around.under_plainId plain_eq_loop _]; exact next)⟩
theorem ne_lists (p q : Addr) (N : Nat) (J : Nat → Shared → Prop) (hJ : GQ.ListI prog w A (fun e s' => R (.error e) s') p q N J)
    (done : ∀ s, J N s → R (.ok (.ret (.bool false))) s) {s : Shared} (hs : J 0 s) :
    wpAny (model prog w) A.in1 (Builtin.«list.__ne__» ⟨[.ref p, .ref q], []⟩) (GQ.FinOf prog w A R) (fun e s' => R (.error e) s') s := by
  obtain ⟨xs, ys, m, m2, gp, gq, zp, zq, _⟩ := hJ _ _ hs
  have all := ne_turns (A := A) (R := R) p q N J hJ done _ 0 rfl (Nat.zero_le _) s hs
  obtain ⟨hh, gg, dd, kk, oo⟩ := s
  have sub := AutoSeq1.sub_list_list
  have same : ¬ (xs.size != ys.size) = true := by simp [zp, zq]
  wp_walk using wpAny_loadPart' gp, wpAny_loadPart' gq
  exact ⟨plainId_quiet plain_eq_loop _, codeAny_builtin entry_eq_loop (by rw [Around.under_plainId plain_eq_loop _]; exact all)⟩
end
section
variable {prog : Program} {w : World} {A : Around} {E : Value → Shared → Prop} {s : Shared}
theorem rc_ne {p q : Addr} {N : Nat} {Q : Value → Shared → Prop} (hu : A.units < cLine) (J : Nat → Shared → Prop) (hJ : GQ.ListI prog w A E p q N J)
    (done : ∀ s, J N s → Q (.bool false) s) (hs : J 0 s) : wpAny (model prog w) A (richCompare .NotEq (.ref p) (.ref q)) Q E s := by
  obtain ⟨xs, ys, m, m2, gp, gq, _, _, _⟩ := hJ _ _ hs
  refine wpAny_richCompare_same_room (op := .NotEq) ⟨_, gp, rfl⟩ ⟨_, gq, rfl⟩ F.slot_list_ne (GQ.call_here F.slot_list_ne ⟨_, gp, rfl⟩ F.entry_list_ne (F.args_list_ne_2 _ _) ?_) hu
  exact ne_lists (R := wants (fun v s' => v ≠ .notImplemented ∧ Q v s') E) p q N J hJ (fun s' z => ⟨(fun x => nomatch x), done s' z⟩) hs
end
open L2 in
/-- xs != ys, where the items are equal by their own == : False -/
def rNeG (D : Eqv) : R2 := fun x y H Q => DList D x y H ∧ ∀ H', Ext H H' → Q (.bl false) H'
open L2 in
theorem op_neG {X : Cx} {n : Nat} {D : Eqv} (hD : Mon D) (h : EqG X n D) (hr : Room (n + 1) X.A) : OpR X (compareOp .NotEq) (rNeG D) := by
  intro pins s σ H x y v u Q I rx ry hq
  obtain ⟨⟨a, b, xs, ys, rfl, rfl, ha, hb, p⟩, q⟩ := hq
  cases rx
  cases ry
  show wpAny (model X.prog X.w) X.A (richCompare .NotEq (.ref a) (.ref b)) (EP X pins σ Q) X.xe s
  refine rc_ne (N := xs.length) hr.units0 (fun _ s' => LoopI X pins σ H s') (fun i s' z => ?_) (fun s' z => ?_) ⟨H, I, Ext.rfl'⟩
  · obtain ⟨H1, I1, e1⟩ := id z
    obtain ⟨_, its, k, r, e⟩ := I1.hok a _ (e1 _ _ ha)
    obtain ⟨_, its2, k2, r2, e2⟩ := I1.hok b _ (e1 _ _ hb)
    exact ⟨its.toArray, its2.toArray, k, k2, e, e2, by rw [List.size_toArray, ← r.length], by rw [List.size_toArray, ← r2.length, ← p.1], fun g1 g2 => turnG hD h ⟨hr, rfl⟩ p r r2 i g1 g2 s' z⟩
  · obtain ⟨H1, I1, e1⟩ := z
    exact ⟨.bl false, H1, I1, rfl, q H1 e1⟩
end KA
namespace KA
open PySem PySem.Spec PyProof.Rows L2
/-! ### isinstance of a caught error that has fields of its own -/
theorem xd_at {P : Program} {w : World} {H : Hp} {h : Heap} {dd : Addr} {fs : List (Str × V)} (hok : HOk P w H h) (e : H dd = some (.xd fs)) : ∃ od, h.get? dd = some od := by
  obtain ⟨mA, ⟨od, es, ep, ho, _⟩, _⟩ := (show ObjOk P w H h dd (.xd fs) from hok dd _ e)
  exact ⟨od, ho⟩
theorem kit_exc {K : PySem.W.Frag} {D x : Addr} {ox : Obj} {od : Option Obj} (C : ExcC K D) : PySem.W.KitX K (.ref x) (.ref D) (fun h => PySem.W.InstAt h x ox D od) :=
  PySem.W.kitx_exc (by obtain ⟨cd, hc, _⟩ := PySem.W.any_some C.hd; rw [hc]; rfl) C.hg C.hk C.hs C.ha C.hn C.ht C.hm
def rIsD (K : PySem.W.Frag) (a : Addr) (cls : Value) (d : Option Addr) : List V → Hp → VK → Prop := fun xs H Q => ∃ (D dd : Addr) (fs : List (Str × V)) (c : V) (u : Value) (b : Bool), xs = [.ref a, c] ∧ cls = .ref D ∧ d = some dd ∧ H dd = some (.xd fs) ∧ ExcC K D ∧ ClsV c u ∧ PySem.W.kitOne K (.ref D) u = some b ∧ Q (.bl b) H
def rIsDT (K : PySem.W.Frag) (a : Addr) (cls : Value) (d : Option Addr) : List V → Hp → VK → Prop := fun xs H Q => ∃ (D dd tp : Addr) (fs : List (Str × V)) (cs : List V) (us : List Value) (b : Bool), xs = [.ref a, .ref tp] ∧ cls = .ref D ∧ d = some dd ∧ H dd = some (.xd fs) ∧ ExcC K D ∧ H tp = some (.tup cs) ∧ Paired ClsV cs us ∧ PySem.W.kitAny K (.ref D) us = some b ∧ Q (.bl b) H
section
variable {X : Cx} {a : Addr} {oe : Obj} {cls : Value} {d : Option Addr} {pn : List (Addr × Obj)}
theorem inst_of {pins : List (Addr × Obj)} {σ : L2.St} {H : Hp} {s : Shared} {D dd : Addr} {fs : List (Str × V)} (hz : Zc (.ref D) (some dd) oe) (hf : ∃ vs, oe.data = .fields vs) (I : Inv (X.suite a ((a, oe) :: pn)) pins σ H s) (e : H dd = some (.xd fs)) : ∃ od, PySem.W.InstAt s.heap a oe D (some od) := by
  obtain ⟨hget, _⟩ := I.pin (a, oe) (List.mem_append.mpr (.inl List.mem_cons_self))
  obtain ⟨vs, hv⟩ := hf
  obtain ⟨od, ho⟩ := xd_at I.hok e
  exact ⟨od, hget, hz.1, by unfold PySem.W.notCls; rw [hv] <;> rfl, by rw [hz.2]; exact ho⟩
theorem call_isD (hz : Zc cls d oe) (hf : ∃ vs, oe.data = .fields vs) : CallR (X.suite a ((a, oe) :: pn)) (.builtin "isinstance") (rIsD X.K a cls d) := by
  intro pins s σ H xs us Q I r h
  obtain ⟨D, dd, fs, c, u, b, rfl, rfl, rfl, e, C, k, hk, q⟩ := h
  obtain ⟨u1, u2, rfl, r1, r2⟩ := vals2 r
  cases (show u1 = Value.ref a from r1)
  have e2 := k.eq r2
  subst e2
  obtain ⟨od, J⟩ := inst_of hz hf I e
  exact PySem.W.kia_one (kit_exc C) I.kIn J hk (fun z => nomatch z) fun tk => ⟨.bl b, H, I.tok tk, rfl, q⟩
theorem call_isDT (hz : Zc cls d oe) (hf : ∃ vs, oe.data = .fields vs) : CallR (X.suite a ((a, oe) :: pn)) (.builtin "isinstance") (rIsDT X.K a cls d) := by
  intro pins s σ H xs us Q I r h
  obtain ⟨D, dd, tp, fs, cs, ws, b, rfl, rfl, rfl, e, C, hT, k, hk, q⟩ := h
  obtain ⟨u1, u2, rfl, r1, r2⟩ := vals2 r
  cases (show u1 = Value.ref a from r1)
  cases (show u2 = Value.ref tp from r2)
  obtain ⟨od, J⟩ := inst_of hz hf I e
  obtain ⟨_, its, rv, o, h1, h2, n, h3⟩ := (show ObjOk X.prog X.w H s.heap tp (.tup cs) from I.hok tp _ hT)
  have e3 := ClsV.all k rv
  subst e3
  obtain ⟨oc, od', dt, sl⟩ := o
  simp only at h2 h3
  subst h2 h3
  exact PySem.W.kia_tup (kit_exc C) I.kIn J h1 hk (fun z => nomatch z) fun tk => ⟨.bl b, H, I.tok tk, rfl, q⟩
end
theorem call_isiS {X : Cx} {K' : PySem.W.Frag} (hK : X.K = K') : CallR X (.builtin "isinstance") (rIsi K') := by
  subst hK
  exact call_isi
/-! ### calls that let nothing out, bodies that are never run -/
theorem passF {X : Cx} : Passes (L2.CX X.prog X.w) X E0 := passes_call takes0 (fun _ _ _ _ h => h)
/-! ### keywords: which of what is handed in, of the defaults, of the keywords stands where -/
def kw1 {α : Type} (p : Nat × Nat) (us its ws : List α) : List α := match p with
  | (0, i) => us[i]?.toList
  | (1, i) => its[i]?.toList
  | (_, i) => ws[i]?.toList
def kw {α : Type} : List (Nat × Nat) → List α → List α → List α → List α
  | [], _, _, _ => []
  | p :: f, us, its, ws => kw1 p us its ws ++ kw f us its ws
theorem vals_at : ∀ {xs : List V} {us : List Value}, Vals xs us → ∀ i : Nat, (xs[i]? = none ∧ us[i]? = none) ∨ ∃ x u, xs[i]? = some x ∧ us[i]? = some u ∧ RelV x u
  | _, _, .nil, _ => .inl ⟨rfl, rfl⟩
  | _, _, .cons r _, 0 => .inr ⟨_, _, rfl, rfl, r⟩
  | _, _, .cons _ t, i + 1 => by
    rw [List.getElem?_cons_succ, List.getElem?_cons_succ]
    exact vals_at t i
theorem vals_one {xs : List V} {us : List Value} (h : Vals xs us) (i : Nat) : Vals xs[i]?.toList us[i]?.toList := by
  rcases vals_at h i with ⟨e1, e2⟩ | ⟨x, u, e1, e2, r⟩
  · rw [e1, e2]
    exact .nil
  · rw [e1, e2]
    exact .cons r .nil
theorem kw_rel : ∀ (f : List (Nat × Nat)) {vs ds zs : List V} {us is ws : List Value}, Vals vs us → Vals ds is → Vals zs ws → Vals (kw f vs ds zs) (kw f us is ws)
  | [], _, _, _, _, _, _, _, _, _ => .nil
  | (0, i) :: f, _, _, _, _, _, _, h1, h2, h3 => (vals_one h1 i).append (kw_rel f h1 h2 h3)
  | (1, i) :: f, _, _, _, _, _, _, h1, h2, h3 => (vals_one h2 i).append (kw_rel f h1 h2 h3)
  | (_ + 2, i) :: f, _, _, _, _, _, _, h1, h2, h3 => (vals_one h3 i).append (kw_rel f h1 h2 h3)
/-! ### PearlError's own way: one field -/
def spPearl (K : PySem.W.Frag) (f : Str) : Sp := fun vs H Q _ => ∃ (a C : Addr) (v : V), vs = [.ref a, v] ∧ OexC K C ∧ PySem.W.findIn K (.ref C) f = some none ∧ H a = some (exo a C none) ∧
  ∀ dx, H dx = none → dx ≠ a → Q .non (upd (upd H dx (exd dx [(f, v)])) a (exo a C (some dx)))
theorem pearl_same {H : Hp} {a dx : Addr} {o1 o2 o3 : HO} {fs : List (Str × V)} (ha : H a = none) (hd : H dx = none) : Same H (upd (del (upd (upd (upd H a o1) dx o2) a o3) a) dx (.xd fs)) := fun b o e => by
  rw [upd_ne (ne_of_none e hd), del_ne (ne_of_none e ha), upd_ne (ne_of_none e ha), upd_ne (ne_of_none e hd), upd_ne (ne_of_none e ha)]
  exact e
end KA
namespace KA
open PySem PySem.Spec PyProof.Rows L2
section
variable {X : Cx} {n : Nat}
/-- x == y (or another comparison), x an instance of the class at C whose own def keeps sp, y of any kind -/
def rOwn (K : PySem.W.Frag) (C : Addr) (sp : Sp) (E : XK) : R2 := fun x y H Q => ∃ (a dx : Addr) (fs : List (Str × V)) (t : Value), x = .ref a ∧ H a = some (.ins C dx fs) ∧ TyX K H y t ∧ PySem.W.notFirst K C t = true ∧ sp [.ref a, y] H (fun v H' => (∃ b, v = .bl b) ∧ Q v H') E
theorem op_own {op : CmpOp} {CX : CXT} {C f : Addr} {fd : FuncData} {ps : List Str} {sp : Sp} {E : XK} (F : FnOk X.prog X.w X.K X.mg X.base CX n f fd ps sp)
    (hs : PySem.W.findIn X.K (.ref C) (cmpInfo op).2.1 = some (some (.ref f))) (hf : PySem.W.isFn X.K (.ref f) = true) (hb : Binds X.K fd ps []) (hx : Passes CX X E) (hr : Room n X.A) (ho : compareOp op = richCompare op := by rfl) : OpR X (compareOp op) (rOwn X.K C sp E) := by
  intro pins s σ H x y u v Q I rx ry d
  obtain ⟨a, dx, fs, t, rfl, ha, ty, hn, hsp⟩ := d
  cases rx
  obtain ⟨mA, J, _⟩ := ins_get I.hok ha
  obtain ⟨od, J, _⟩ := J.look
  obtain ⟨Pz, Z, p, _⟩ := kit_of I ry ty
  obtain ⟨m, hF⟩ := I.fr
  rw [ho]
  refine PySem.W.cmp_K (op := op) (tb := t) hr.units0 hF I.ok.mod.kin J (Z.ty _ _ I.kIn p) hn hs hf ?_
  have hl := F.len _ _ _ _ hsp
  have r2 : Vals [V.ref a, y] [Value.ref a, v] := .cons rfl (.cons ry .nil)
  refine wpAny_call (codeAny_mono (F.run X.A X.stack s H ⟨[.ref a, v], []⟩ [.ref a, v] [.ref a, y] _ E hr I.env0 (by
    have := hb s [.ref a, v] I.kIn (by simpa using hl)
    simpa using this) r2 hsp) fun r s' hq => ?_)
  cases r with
  | error e => exact hx pins σ H s e s' I hq
  | ok fl =>
    cases fl with
    | ret w =>
      obtain ⟨z, H', I', rz, ⟨b, ez⟩, q⟩ := I.after hq
      subst ez
      cases rz
      exact ⟨.bl b, H', I', rfl, q⟩
    | next => exact False.elim hq
    | brk => exact False.elim hq
    | cont => exact False.elim hq
end
end KA
namespace KA
open PySem PySem.Spec PySem.W PyProof.Rows
section
variable {prog : Program} {w : World} {A : Around} {E : Value → Shared → Prop} {s : Shared} {K : Frag} {x C f : Addr} {ox : Obj} {od : Option Obj}
theorem repr_K {Q : Value → Shared → Prop} (hu : A.in1.units < cLine) (X : K.In s.heap) (I : InstAt s.heap x ox C od) (hs : findIn K (.ref C) "__repr__" = some (some (.ref f))) (hf : isFn K (.ref f) = true)
    (hcall : wpAny (model prog w) A.in1 (call (.ref f) [.ref x]) (fun r s' => ∃ m tk, r = .str m tk ∧ Q (.str m tk) s') E s) :
    wpAny (model prog w) A (call (.builtin "repr") [.ref x]) Q E s := by
  refine Calls.call_function_entry F.kind_repr F.plain_repr F.entry_repr (F.args_repr1 _) ?_
  unfold Builtin.«repr»
  refine wpAny_bind (m := oneArg "repr" _) (wpAny_pure ?_)
  refine wpAny_bind (wpAny_cRoomFor hu ?_)
  refine wpAny_bind (wpAny_bind (I.type.here ((looks_findIn X hs).here ?_)))
  show wpAny _ _ (if (some (Value.ref f)).isNone = true then _ else _) _ _ _
  rw [if_neg (by simp)]
  refine wpAny_bind (m := callSpecialIfBound? (.ref x) (Str.ofString "__repr__") _) (ifBound_K X I hs hf (wpAny_mono hcall (fun r s' hr => ?_) fun _ _ y => y))
  obtain ⟨m, tk, rfl, hq⟩ := hr
  refine wpAny_bind (wpAny_isInstance (typeIs_str _ _ _) isSubtype_str_str ?_)
  first
    | exact wpAny_pure ⟨_, rfl, hq⟩
    | (rw [if_pos rfl]; exact wpAny_pure ⟨_, rfl, hq⟩)
    | (simp only [if_true]; exact wpAny_pure ⟨_, rfl, hq⟩)
end
end KA
namespace KA
open PySem PySem.Spec PyProof.Rows L2
section
variable {X : Cx} {n : Nat} {CX : CXT} {C f : Addr} {fd : FuncData} {ps : List Str} {sp : Sp} {E : XK}
/-- repr(x), str(x): x an instance of the class at C, whose own def keeps sp -/
def rShow (C : Addr) (sp : Sp) (E : XK) : List V → Hp → VK → Prop := fun xs H Q => ∃ (a dx : Addr) (fs : List (Str × V)), xs = [.ref a] ∧ H a = some (.ins C dx fs) ∧ sp [.ref a] H (fun v H' => (∃ m, v = .str m) ∧ Q v H') E
theorem run_self {A : Around} {pins : List (Addr × Obj)} {σ : L2.St} {H : Hp} {s : Shared} {a : Addr} {Q : VK} (F : FnOk X.prog X.w X.K X.mg X.base CX n f fd ps sp) (hb : Binds X.K fd ps []) (hx : Passes CX X E) (hr : Room n A) (hA : A.frames = X.A.frames) (I : L2.Inv X pins σ H s)
    (hsp : sp [.ref a] H (fun v H' => (∃ m, v = .str m) ∧ Q v H') E) : wpAny (model X.prog X.w) A (call (.ref f) [.ref a]) (fun r s' => ∃ m tk, r = .str m tk ∧ EP X pins σ Q (.str m tk) s') X.xe s := by
  have e0 : Env0 X.prog X.w X.K X.mg X.base A X.stack s H := by
    have e := I.env0
    exact ⟨by rw [hA]; exact e.frames, e.mod, e.bs, e.bsz, e.funs, e.frf, e.hok, e.bare⟩
  have hl := F.len _ _ _ _ hsp
  have r2 : Vals [V.ref a] [Value.ref a] := .cons rfl .nil
  refine wpAny_call (codeAny_mono (F.run A X.stack s H ⟨[.ref a], []⟩ [.ref a] [.ref a] _ E hr e0 (by
    have := hb s [.ref a] I.kIn (by simpa using hl)
    simpa using this) r2 hsp) fun r s' hq => ?_)
  cases r with
  | error e => exact hx pins σ H s e s' I hq
  | ok fl =>
    cases fl with
    | ret w =>
      obtain ⟨z, H', I', rz, ⟨m, ez⟩, q⟩ := I.after hq
      subst ez
      obtain ⟨tk, rfl⟩ := (show ∃ t, w = Value.str m t from rz)
      exact ⟨m, tk, rfl, .str m, H', I', ⟨tk, rfl⟩, q⟩
    | next => exact False.elim hq
    | brk => exact False.elim hq
    | cont => exact False.elim hq
theorem call_reprO (F : FnOk X.prog X.w X.K X.mg X.base CX n f fd ps sp) (hs : PySem.W.findIn X.K (.ref C) "__repr__" = some (some (.ref f))) (hf : PySem.W.isFn X.K (.ref f) = true) (hb : Binds X.K fd ps []) (hx : Passes CX X E) (hr : Room (n + 1) X.A) :
    CallR X (.builtin "repr") (rShow C sp E) := by
  intro pins s σ H xs us Q I r h
  obtain ⟨a, dx, fs, rfl, ha, hsp⟩ := h
  obtain ⟨u, rfl, r1⟩ := vals1 r
  cases (show u = Value.ref a from r1)
  obtain ⟨mA, J, _⟩ := ins_get I.hok ha
  obtain ⟨od, J, _⟩ := J.look
  exact repr_K hr.in1.units0 I.kIn J hs hf (run_self F hb hx hr.in1 rfl I hsp)
theorem call_strO (F : FnOk X.prog X.w X.K X.mg X.base CX n f fd ps sp) (hs : PySem.W.findIn X.K (.ref C) "__str__" = some (some (.ref f))) (hf : PySem.W.isFn X.K (.ref f) = true) (hb : Binds X.K fd ps []) (hx : Passes CX X E) (hr : Room (n + 2) X.A) :
    CallR X (.type "str") (rShow C sp E) := by
  intro pins s σ H xs us Q I r h
  obtain ⟨a, dx, fs, rfl, ha, hsp⟩ := h
  obtain ⟨u, rfl, r1⟩ := vals1 r
  cases (show u = Value.ref a from r1)
  obtain ⟨mA, J, _⟩ := ins_get I.hok ha
  obtain ⟨od, J, _⟩ := J.look
  refine PySem.W.kso_call hr.in1.in1.units0 I.kIn J hs hf (wpAny_mono (run_self F hb hx hr.in1.in1 rfl I hsp) (fun r s' hr => ?_) fun _ _ y => y)
  obtain ⟨m, tk, rfl, q⟩ := hr
  exact q
/-- {x}: a text, an int, a truth -/
def tFmtB (te : TE) : TE := fun σ H Q => te σ H fun x H1 => (∃ y : Str, x = .str y ∧ y.length ≤ sizeLine ∧ Q (.str y) H1) ∨ (∃ i : Int, x = .int i ∧ i.natAbs.log2 < 1920 ∧ Q (.str (toString i)) H1) ∨ ∃ b : Bool, x = .bl b ∧ Q (.str (if b then "True" else "False")) H1
theorem pe_fmtB {e : Expr} {te : TE} {pos : Pos} (he : PE X e te) : PE X (.FormattedValue e (-1) none pos) (tFmtB te) := by
  refine ⟨fun pins s σ H Q I h => ?_⟩
  refine wpAny_FormattedValue_plain (thn (he.run pins s σ H _ I h) fun v s1 hv => ?_)
  obtain ⟨x, H1, I1, r1, q⟩ := hv
  rcases q with ⟨y, rfl, hz, q⟩ | ⟨i, rfl, hz, q⟩ | ⟨b, rfl, q⟩
  · obtain ⟨t, rfl⟩ := r1
    exact wpAny_formatField_str ⟨.str y, H1, I1, ⟨t, rfl⟩, q⟩ ⟨.str y, H1, I1.tok _, ⟨_, rfl⟩, q⟩ hz
  · obtain ⟨t, rfl⟩ := r1
    exact wpAny_formatField_int hz ⟨.str (toString i), H1, I1.tok _, ⟨_, rfl⟩, q⟩
  · cases (show v = Value.bool b from r1)
    exact wpAny_formatField_bool ⟨.str (if b then "True" else "False"), H1, I1.tok _, ⟨_, rfl⟩, q⟩
end
end KA
namespace KB
open PySem PySem.Spec PyProof.Rows L2 KA
def topS (i : Nat) : Stmt := PySem.Challenge.pw_pearlrise_k21_rules_made.main.body.getD i (.Pass ⟨0, 0, 0, 0⟩)
abbrev s_PearlError_init : Stmt := inClass (topS 1) 0
theorem sc_PearlError_init : FnScope ["self", "why"] ["self", "why"] (defScope s_PearlError_init) := ⟨rfl, rfl, rfl, by decide +kernel, rfl, by decide +kernel, by decide +kernel⟩
abbrev s_NotLet_init : Stmt := inClass (topS 4) 0
theorem sc_NotLet_init : FnScope ["self", "at", "why"] ["self", "at", "why"] (defScope s_NotLet_init) := ⟨rfl, rfl, rfl, by decide +kernel, rfl, by decide +kernel, by decide +kernel⟩
abbrev s_is_int : Stmt := topS 8
theorem sc_is_int : FnScope ["thing"] ["thing"] (defScope s_is_int) := ⟨rfl, rfl, rfl, by decide +kernel, rfl, by decide +kernel, by decide +kernel⟩
abbrev s_is_from_nought : Stmt := topS 9
theorem sc_is_from_nought : FnScope ["thing"] ["thing"] (defScope s_is_from_nought) := ⟨rfl, rfl, rfl, by decide +kernel, rfl, by decide +kernel, by decide +kernel⟩
abbrev s_figures : Stmt := topS 10
theorem sc_figures : FnScope ["number", "groups", "rest", "group"] ["number"] (defScope s_figures) := ⟨rfl, rfl, rfl, by decide +kernel, rfl, by decide +kernel, by decide +kernel⟩
abbrev s_Rule_init : Stmt := inClass (topS 12) 0
theorem sc_Rule_init : FnScope ["self", "least", "most", "match", "shades"] ["self", "least", "most", "match", "shades"] (defScope s_Rule_init) := ⟨rfl, rfl, rfl, by decide +kernel, rfl, by decide +kernel, by decide +kernel⟩
abbrev s_Rule_eq : Stmt := inClass (topS 12) 1
theorem sc_Rule_eq : FnScope ["self", "other"] ["self", "other"] (defScope s_Rule_eq) := ⟨rfl, rfl, rfl, by decide +kernel, rfl, by decide +kernel, by decide +kernel⟩
abbrev s_Rule_repr : Stmt := inClass (topS 12) 2
theorem sc_Rule_repr : FnScope ["self", "parts"] ["self"] (defScope s_Rule_repr) := ⟨rfl, rfl, rfl, by decide +kernel, rfl, by decide +kernel, by decide +kernel⟩
abbrev s_cell_at : Stmt := topS 14
theorem sc_cell_at : FnScope ["_law_script", "_law_k"] ["_law_script", "_law_k"] (defScope s_cell_at) := ⟨rfl, rfl, rfl, by decide +kernel, rfl, by decide +kernel, by decide +kernel⟩
abbrev s_well : Stmt := topS 15
theorem sc_well : FnScope ["_law_cell"] ["_law_cell"] (defScope s_well) := ⟨rfl, rfl, rfl, by decide +kernel, rfl, by decide +kernel, by decide +kernel⟩
abbrev s_draw : Stmt := topS 16
theorem sc_draw : FnScope ["_law_well_here", "_law_many", "_law_found", "_law_salt", "_law_number_here"] ["_law_well_here", "_law_many"] (defScope s_draw) := ⟨rfl, rfl, rfl, by decide +kernel, rfl, by decide +kernel, by decide +kernel⟩
abbrev s_one : Stmt := topS 17
theorem sc_one : FnScope ["_law_well_here", "_law_some"] ["_law_well_here", "_law_some"] (defScope s_one) := ⟨rfl, rfl, rfl, by decide +kernel, rfl, by decide +kernel, by decide +kernel⟩
abbrev s_number : Stmt := topS 18
theorem sc_number : FnScope ["_law_well_here"] ["_law_well_here"] (defScope s_number) := ⟨rfl, rfl, rfl, by decide +kernel, rfl, by decide +kernel, by decide +kernel⟩
abbrev s_four : Stmt := topS 19
theorem sc_four : FnScope ["_law_well_here", "_law_low"] ["_law_well_here"] (defScope s_four) := ⟨rfl, rfl, rfl, by decide +kernel, rfl, by decide +kernel, by decide +kernel⟩
abbrev s_spoilt : Stmt := topS 20
theorem sc_spoilt : FnScope ["_law_well_here", "_law_four_here", "_law_k", "_law_number_here", "_law_odd"] ["_law_well_here", "_law_four_here"] (defScope s_spoilt) := ⟨rfl, rfl, rfl, by decide +kernel, rfl, by decide +kernel, by decide +kernel⟩
abbrev s_made : Stmt := topS 21
theorem sc_made : FnScope ["_law_way", "_law_four_here"] ["_law_way", "_law_four_here"] (defScope s_made) := ⟨rfl, rfl, rfl, by decide +kernel, rfl, by decide +kernel, by decide +kernel⟩
abbrev s_filled : Stmt := topS 22
theorem sc_filled : FnScope ["_law_way", "_law_four_here", "_law_plain", "_law_told", "_law_k"] ["_law_way", "_law_four_here"] (defScope s_filled) := ⟨rfl, rfl, rfl, by decide +kernel, rfl, by decide +kernel, by decide +kernel⟩
abbrev s_is_rule : Stmt := topS 23
theorem sc_is_rule : FnScope ["_law_four_here", "_law_number_here"] ["_law_four_here"] (defScope s_is_rule) := ⟨rfl, rfl, rfl, by decide +kernel, rfl, by decide +kernel, by decide +kernel⟩
abbrev s_one_made : Stmt := topS 24
theorem sc_one_made : FnScope ["_law_way", "_law_four_here", "_law_made_here", "e", "_law_others"] ["_law_way", "_law_four_here"] (defScope s_one_made) := ⟨rfl, rfl, rfl, by decide +kernel, rfl, by decide +kernel, by decide +kernel⟩
abbrev s_due : Stmt := topS 25
theorem sc_due : FnScope ["_law_four_here", "_law_text"] ["_law_four_here"] (defScope s_due) := ⟨rfl, rfl, rfl, by decide +kernel, rfl, by decide +kernel, by decide +kernel⟩
abbrev s_law : Stmt := topS 26
theorem sc_law : FnScope ["_law_script", "_law_cell", "_law_well_here", "_law_good", "_law_other", "_law_four_here", "_law_way", "_law_one_here", "_law_k", "_law_near", "_law_thing"] ["_law_script"] (defScope s_law) := ⟨rfl, rfl, rfl, by decide +kernel, rfl, by decide +kernel, by decide +kernel⟩
structure Tx (K : PySem.W.Frag) (mg : Str → Option Value) : Type where
  C_Rule : Addr
  cl_Rule : Cls K C_Rule
  g_Rule : mg "Rule" = some (.ref C_Rule)
  n_Rule_least : NoAttr K C_Rule "least"
  n_Rule_most : NoAttr K C_Rule "most"
  n_Rule_match : NoAttr K C_Rule "match"
  n_Rule_shades : NoAttr K C_Rule "shades"
  A_PearlError_init : Addr
  fd_PearlError_init : FuncData
  F_PearlError_init : FunD K "__init__" "PearlError.__init__" (defArgs s_PearlError_init) (defBody s_PearlError_init) (defScope s_PearlError_init) [.str ""] [] A_PearlError_init fd_PearlError_init
  b_PearlError_init : Binds K fd_PearlError_init ["self", "why"] []
  A_is_int : Addr
  fd_is_int : FuncData
  F_is_int : Fun K "is_int" "is_int" s_is_int A_is_int fd_is_int
  g_is_int : mg "is_int" = some (.ref A_is_int)
  b_is_int : Binds K fd_is_int ["thing"] []
  A_is_from_nought : Addr
  fd_is_from_nought : FuncData
  F_is_from_nought : Fun K "is_from_nought" "is_from_nought" s_is_from_nought A_is_from_nought fd_is_from_nought
  g_is_from_nought : mg "is_from_nought" = some (.ref A_is_from_nought)
  b_is_from_nought : Binds K fd_is_from_nought ["thing"] []
  A_figures : Addr
  fd_figures : FuncData
  F_figures : Fun K "figures" "figures" s_figures A_figures fd_figures
  g_figures : mg "figures" = some (.ref A_figures)
  b_figures : Binds K fd_figures ["number"] []
  A_Rule_init : Addr
  fd_Rule_init : FuncData
  F_Rule_init : FunD K "__init__" "Rule.__init__" (defArgs s_Rule_init) (defBody s_Rule_init) (defScope s_Rule_init) [.int 0, .int 10, .int 0, .bl true] [] A_Rule_init fd_Rule_init
  mk_Rule : Mk K C_Rule A_Rule_init
  b_Rule_init : Binds K fd_Rule_init ["self", "least", "most", "match", "shades"] []
  A_Rule_eq : Addr
  fd_Rule_eq : FuncData
  F_Rule_eq : Fun K "__eq__" "Rule.__eq__" s_Rule_eq A_Rule_eq fd_Rule_eq
  m_Rule_eq : Meth K C_Rule "__eq__" A_Rule_eq
  b_Rule_eq : Binds K fd_Rule_eq ["self", "other"] []
  A_Rule_repr : Addr
  fd_Rule_repr : FuncData
  F_Rule_repr : Fun K "__repr__" "Rule.__repr__" s_Rule_repr A_Rule_repr fd_Rule_repr
  m_Rule_repr : Meth K C_Rule "__repr__" A_Rule_repr
  b_Rule_repr : Binds K fd_Rule_repr ["self"] []
  A_cell_at : Addr
  fd_cell_at : FuncData
  F_cell_at : Fun K "_law_cell_at" "_law_cell_at" s_cell_at A_cell_at fd_cell_at
  g_cell_at : mg "_law_cell_at" = some (.ref A_cell_at)
  b_cell_at : Binds K fd_cell_at ["_law_script", "_law_k"] []
  A_well : Addr
  fd_well : FuncData
  F_well : Fun K "_law_well" "_law_well" s_well A_well fd_well
  g_well : mg "_law_well" = some (.ref A_well)
  b_well : Binds K fd_well ["_law_cell"] []
  A_draw : Addr
  fd_draw : FuncData
  F_draw : Fun K "_law_draw" "_law_draw" s_draw A_draw fd_draw
  g_draw : mg "_law_draw" = some (.ref A_draw)
  b_draw : Binds K fd_draw ["_law_well_here", "_law_many"] []
  A_one : Addr
  fd_one : FuncData
  F_one : Fun K "_law_one" "_law_one" s_one A_one fd_one
  g_one : mg "_law_one" = some (.ref A_one)
  b_one : Binds K fd_one ["_law_well_here", "_law_some"] []
  A_number : Addr
  fd_number : FuncData
  F_number : Fun K "_law_number" "_law_number" s_number A_number fd_number
  g_number : mg "_law_number" = some (.ref A_number)
  b_number : Binds K fd_number ["_law_well_here"] []
  A_four : Addr
  fd_four : FuncData
  F_four : Fun K "_law_four" "_law_four" s_four A_four fd_four
  g_four : mg "_law_four" = some (.ref A_four)
  b_four : Binds K fd_four ["_law_well_here"] []
  A_spoilt : Addr
  fd_spoilt : FuncData
  F_spoilt : Fun K "_law_spoilt" "_law_spoilt" s_spoilt A_spoilt fd_spoilt
  g_spoilt : mg "_law_spoilt" = some (.ref A_spoilt)
  b_spoilt : Binds K fd_spoilt ["_law_well_here", "_law_four_here"] []
  A_made : Addr
  fd_made : FuncData
  F_made : Fun K "_law_made" "_law_made" s_made A_made fd_made
  g_made : mg "_law_made" = some (.ref A_made)
  b_made : Binds K fd_made ["_law_way", "_law_four_here"] []
  A_filled : Addr
  fd_filled : FuncData
  F_filled : Fun K "_law_filled" "_law_filled" s_filled A_filled fd_filled
  g_filled : mg "_law_filled" = some (.ref A_filled)
  b_filled : Binds K fd_filled ["_law_way", "_law_four_here"] []
  A_is_rule : Addr
  fd_is_rule : FuncData
  F_is_rule : Fun K "_law_is_rule" "_law_is_rule" s_is_rule A_is_rule fd_is_rule
  g_is_rule : mg "_law_is_rule" = some (.ref A_is_rule)
  b_is_rule : Binds K fd_is_rule ["_law_four_here"] []
  A_one_made : Addr
  fd_one_made : FuncData
  F_one_made : Fun K "_law_one_made" "_law_one_made" s_one_made A_one_made fd_one_made
  g_one_made : mg "_law_one_made" = some (.ref A_one_made)
  b_one_made : Binds K fd_one_made ["_law_way", "_law_four_here"] []
  A_due : Addr
  fd_due : FuncData
  F_due : Fun K "_law_due" "_law_due" s_due A_due fd_due
  g_due : mg "_law_due" = some (.ref A_due)
  b_due : Binds K fd_due ["_law_four_here"] []
  C_PearlError : Addr
  g_PearlError : mg "PearlError" = some (.ref C_PearlError)
  C_BadBead : Addr
  g_BadBead : mg "BadBead" = some (.ref C_BadBead)
  C_NotLet : Addr
  g_NotLet : mg "NotLet" = some (.ref C_NotLet)
  C_BadRule : Addr
  g_BadRule : mg "BadRule" = some (.ref C_BadRule)
  ox_BadRule : OexC K C_BadRule
  in_BadRule : PySem.W.findIn K (.ref C_BadRule) "__init__" = some (some (.ref A_PearlError_init))
  ti_BadRule : PySem.W.typeIn K (.ref A_PearlError_init) = some (.type "function")
  xc_BadRule : ExcC K C_BadRule
  nf_BadRule_why : PySem.W.findIn K (.ref C_BadRule) "why" = some none
  em_BadRule_PearlError : PySem.W.exmOne K (.ref C_BadRule) (.ref C_PearlError) = some true
  vV : PySem.W.findCls K (.type "ValueError") (.type "type") "__init__" = some (.val (.builtin "ValueError.__init__"))
  its_kb_1 : List Value
  kb_1 : KBn K fd_Rule_init ["self", "least", "most", "match", "shades"] 1 ["shades", "match", "most", "least"] (fun us ws => kw [(0, 0), (2, 3), (2, 2), (2, 1), (2, 0)] us its_kb_1 ws) (fun vs zs => kw [(0, 0), (2, 3), (2, 2), (2, 1), (2, 0)] vs [.int 0, .int 10, .int 0, .bl true] zs)
  its_kb_2 : List Value
  kb_2 : KBn K fd_Rule_init ["self", "least", "most", "match", "shades"] 2 ["match", "most"] (fun us ws => kw [(0, 0), (0, 1), (2, 1), (2, 0), (1, 3)] us its_kb_2 ws) (fun vs zs => kw [(0, 0), (0, 1), (2, 1), (2, 0), (1, 3)] vs [.int 0, .int 10, .int 0, .bl true] zs)
  its_kb_3 : List Value
  kb_3 : KBn K fd_Rule_init ["self", "least", "most", "match", "shades"] 3 ["shades"] (fun us ws => kw [(0, 0), (0, 1), (0, 2), (1, 2), (2, 0)] us its_kb_3 ws) (fun vs zs => kw [(0, 0), (0, 1), (0, 2), (1, 2), (2, 0)] vs [.int 0, .int 10, .int 0, .bl true] zs)
  its_kb_5 : List Value
  kb_5 : KBn K fd_Rule_init ["self", "least", "most", "match", "shades"] 1 ["most"] (fun us ws => kw [(0, 0), (1, 0), (2, 0), (1, 2), (1, 3)] us its_kb_5 ws) (fun vs zs => kw [(0, 0), (1, 0), (2, 0), (1, 2), (1, 3)] vs [.int 0, .int 10, .int 0, .bl true] zs)
  its_kb_6 : List Value
  kb_6 : KBn K fd_Rule_init ["self", "least", "most", "match", "shades"] 1 ["match"] (fun us ws => kw [(0, 0), (1, 0), (1, 1), (2, 0), (1, 3)] us its_kb_6 ws) (fun vs zs => kw [(0, 0), (1, 0), (1, 1), (2, 0), (1, 3)] vs [.int 0, .int 10, .int 0, .bl true] zs)
  its_kb_7 : List Value
  kb_7 : KBn K fd_Rule_init ["self", "least", "most", "match", "shades"] 1 ["shades"] (fun us ws => kw [(0, 0), (1, 0), (1, 1), (1, 2), (2, 0)] us its_kb_7 ws) (fun vs zs => kw [(0, 0), (1, 0), (1, 1), (1, 2), (2, 0)] vs [.int 0, .int 10, .int 0, .bl true] zs)
  ds0_Rule : List Value
  hd0_Rule : Vals [.int 0, .int 10, .int 0, .bl true] ds0_Rule
  bd0_Rule : Binds K fd_Rule_init ["self", "least", "most", "match", "shades"] ds0_Rule
  ds1_Rule : List Value
  hd1_Rule : Vals [.int 10, .int 0, .bl true] ds1_Rule
  bd1_Rule : Binds K fd_Rule_init ["self", "least", "most", "match", "shades"] ds1_Rule
  nf_list : PySem.W.notFirst K C_Rule (.type "list") = true
  no_list : PySem.W.kitOne K (.type "list") (.ref C_Rule) = some false
  nf_tuple : PySem.W.notFirst K C_Rule (.type "tuple") = true
  no_tuple : PySem.W.kitOne K (.type "tuple") (.ref C_Rule) = some false
  nf_NoneType : PySem.W.notFirst K C_Rule (.type "NoneType") = true
  no_NoneType : PySem.W.kitOne K (.type "NoneType") (.ref C_Rule) = some false
  nf_str : PySem.W.notFirst K C_Rule (.type "str") = true
  no_str : PySem.W.kitOne K (.type "str") (.ref C_Rule) = some false
  nf_int : PySem.W.notFirst K C_Rule (.type "int") = true
  no_int : PySem.W.kitOne K (.type "int") (.ref C_Rule) = some false
  nf_bool : PySem.W.notFirst K C_Rule (.type "bool") = true
  no_bool : PySem.W.kitOne K (.type "bool") (.ref C_Rule) = some false
  i_Rule : PySem.W.kitOne K (.ref C_Rule) (.ref C_Rule) = some true
  ir1 : PySem.W.findIn K (.ref C_Rule) "__class__" = some (some (.builtin "object.__class__"))
  ki_ve : PySem.W.kitOne K (.ref C_BadRule) (.type "ValueError") = some true
  ki_no : PySem.W.kitAny K (.ref C_BadRule) [.ref C_BadBead, .ref C_NotLet] = some false
  ki_me : PySem.W.kitOne K (.ref C_BadRule) (.ref C_BadRule) = some true
  ir2 : PySem.W.specialIn K (.builtin "object.__class__") "__get__" = some (some (.builtin "getset_descriptor.__get__"))
  ir3 : PySem.W.takesIn K (.builtin "object.__class__") = some true
  ir4 : PySem.W.mroIn K C_Rule (.type "object") = some true
  t_GROUP : Tok
  g_GROUP : mg "GROUP" = some (.int 1000000000000000000000000000000000000000000000000000000000000 t_GROUP)
  z_ValueError : mg "ValueError" = none
  z_bool : mg "bool" = none
  z_isinstance : mg "isinstance" = none
  z_int : mg "int" = none
  z_abs : mg "abs" = none
  z_str : mg "str" = none
  z_len : mg "len" = none
  z_range : mg "range" = none
  z_repr : mg "repr" = none
  z_list : mg "list" = none
  z_tuple : mg "tuple" = none
section
variable {P : Program} {w : World} {K : PySem.W.Frag} {mg : Str → Option Value} {base : Heap}
def frn (v : V) : Bool := match v with
  | .int i => decide (0 ≤ i)
  | _ => false
def spIsInt (K : PySem.W.Frag) : Sp := fun vs H Q _ => ∃ v, vs = [v] ∧ Th K H v ∧ Q (.bl (isI v)) H
theorem ok_is_int (T : Tx K mg) : FnOk P w K mg base CX0 1 T.A_is_int T.fd_is_int ["thing"] (spIsInt K) := by
  refine T.F_is_int.ok sc_is_int (fun vs H Q E h => ?_) (fun cdv A outer s H vs Q E hr h => ?_)
  · obtain ⟨v, rfl, th, q⟩ := h
    rfl
  obtain ⟨v, rfl, th, q⟩ := h
  refine ⟨_, (pss_one (ps_ret (pe_and (pe_callB call_isi (by rfl) T.z_isinstance (by decide +kernel) (pa_cons (pv 0) (pa_cons (pe_bltn (v := .ty "int") (by rfl) T.z_int (by decide +kernel) rfl) pa_nil))) (pe_one (pe_not (pe_callB call_isi (by rfl) T.z_isinstance (by decide +kernel) (pa_cons (pv 0) (pa_cons (pe_bltn (v := .ty "bool") (by rfl) T.z_bool (by decide +kernel) rfl) pa_nil)))))))), ?_⟩
  obtain ⟨t1, ty1, k1⟩ := isi_int th
  obtain ⟨t2, ty2, k2⟩ := isi_bool th
  refine ⟨_, rfl, v, _, t1, _, _, rfl, .ty _, ty1, k1, _, rfl, ?_⟩
  refine ite2 (fun e => ?_) (fun e => ?_)
  · refine ⟨_, rfl, v, _, t2, _, _, rfl, .ty _, ty2, k2, _, rfl, ?_⟩
    have : (!isB v) = isI v := by cases v <;> simp_all [isI, isB]
    rw [this]
    exact q
  · have : isI v = false := by cases v <;> simp_all [isI, isB]
    rw [this] at q
    exact q
def spFrom (K : PySem.W.Frag) : Sp := fun vs H Q _ => ∃ v, vs = [v] ∧ Th K H v ∧ Q (.bl (frn v)) H
theorem ok_is_from_nought (T : Tx K mg) : FnOk P w K mg base CX0 2 T.A_is_from_nought T.fd_is_from_nought ["thing"] (spFrom K) := by
  refine T.F_is_from_nought.ok sc_is_from_nought (fun vs H Q E h => ?_) (fun cdv A outer s H vs Q E hr h => ?_)
  · obtain ⟨v, rfl, th, q⟩ := h
    rfl
  obtain ⟨v, rfl, th, q⟩ := h
  refine ⟨_, (pss_one (ps_ret (pe_and (pe_call (ok_is_int T) (hr.mono (by decide)) (by rfl) T.g_is_int T.F_is_int.kp T.b_is_int .nil pass0 (pa_cons (pv 0) pa_nil)) (pe_one (pe_cmpR op_ge (pv 0) pe_int (nomark _)))))), ?_⟩
  refine ⟨_, rfl, v, rfl, th, _, rfl, ?_⟩
  cases v with
  | int i => exact iteT ⟨_, rfl, _, _, rfl, rfl, q⟩
  | _ => exact iteF q
def spFig : Sp := fun vs H Q _ => ∃ n : Int, vs = [.int n] ∧ 0 ≤ n ∧ n < 10 ^ 59 ∧ ∀ H', Same H H' → Q (.str (toString n)) H'
theorem ok_figures (T : Tx K mg) : FnOk P w K mg base CX0 1 T.A_figures T.fd_figures ["number"] (spFig) := by
  refine T.F_figures.ok sc_figures (fun vs H Q E h => ?_) (fun cdv A outer s H vs Q E hr h => ?_)
  · obtain ⟨n, rfl, h0, h1, q⟩ := h
    rfl
  obtain ⟨n, rfl, h0, h1, q⟩ := h
  refine ⟨_, (pss_cons (ps_set (i := 1) sc_figures.nd rfl (Or.inl rfl) (pe_lst pa_nil))
      (pss_cons (ps_set (i := 2) sc_figures.nd rfl (Or.inl rfl) (pe_callB call_abs (by rfl) T.z_abs (by decide +kernel) (pa_cons (pv 0) pa_nil)))
      (pss_cons (ps_while PassesOwn.never (pt_cmpR op_ge (pv 2) (pe_glob (v := .int 1000000000000000000000000000000000000000000000000000000000000) (by rfl) T.g_GROUP ⟨_, rfl⟩) (nomark _)) pss_never)
      (pss_cons (ps_expr (pe_bm PySem.F.plainAttrs_list PySem.F.slot_list_append PySem.F.type_list_append mt_append (pv 1) (pa_cons (pe_callTy call_str_int (by rfl) T.z_str (by decide +kernel) (pa_cons (pv 2) pa_nil)) pa_nil)))
      (pss_cons (ps_if (pt_cmpR op_lt (pv 0) pe_int (nomark _)) (pss_one (ps_expr (pe_bm PySem.F.plainAttrs_list PySem.F.slot_list_append PySem.F.type_list_append mt_append (pv 1) (pa_cons pe_str pa_nil)))) pss_nil)
      (pss_one (ps_ret (pe_bm PySem.F.plainAttrs_str PySem.F.slot_str_join PySem.F.type_str_join mt_join pe_str (pa_cons (pe_revL (pv 1)) pa_nil))))))))), ?_⟩
  have hlog : n.natAbs.log2 < 1920 := by
    rcases Nat.eq_zero_or_pos n.natAbs with z | z
    · rw [z]; decide
    · exact Nat.lt_of_lt_of_le (PySem.Flt.log2_lt_of (k := 200) (by omega) (by
        have e : (10 : Int) ^ 59 = 100000000000000000000000000000000000000000000000000000000000 := by decide
        have e2 : (2 : Nat) ^ 200 = 1606938044258990275541962092341162602522202993782792835301376 := by decide
        rw [e] at h1
        rw [e2]
        omega)) (by decide)
  refine ⟨(by show 0 ≤ sizeLine; decide), fun g hg => ?_⟩
  refine ⟨_, rfl, _, rfl, ?_⟩
  refine while_by (fun σ H' => ∃ w3, σ = [some (.int n), some (.ref g), some (.int n), w3] ∧ H' = upd H g (.lst [])) (fun _ _ => 0) ⟨none, ?_, rfl⟩ ?_ ?_
  · show [some (V.int n), some (V.ref g), some (V.int (if n < 0 then -n else n)), none] = _
    rw [if_neg (by omega)]
  · rintro σ H' ⟨w3, rfl, rfl⟩
    refine ⟨_, rfl, _, _, rfl, rfl, _, rfl, ?_⟩
    rw [decide_eq_false (show ¬ (1000000000000000000000000000000000000000000000000000000000000 : Int) ≤ n by
      have e : (10 : Int) ^ 59 = 100000000000000000000000000000000000000000000000000000000000 := by decide
      rw [e] at h1
      omega)]
    refine iteF ?_
    have fits : (Str.ofString (toString n)).length ≤ 16777216 := by
      have := int_text_fits hlog
      rw [sizeLine_eq] at this
      exact this
    refine ⟨_, rfl, .inl ⟨rfl, _, SqL.of upd_same⟩, _, rfl, _, rfl, hlog, g, _, _, rfl, rfl, upd_same, (by decide), ?_⟩
    refine ⟨_, rfl, _, _, rfl, rfl, _, rfl, ?_⟩
    rw [decide_eq_false (show ¬ n < 0 by omega)]
    refine iteF ⟨rfl, _, rfl, g, _, rfl, SqL.of upd_same, fun r hr => ?_⟩
    refine ⟨_, r, [Str.ofString (toString n)], rfl, rfl, .inl (SqL.of upd_same), ?_, ?_⟩
    · show (Str.ofString (toString n)).length + 0 + 1 * 0 ≤ 16777216
      omega
    · refine q _ fun b o e => ?_
      rw [upd_ne (ne_of_none (by rw [upd_ne (ne_of_none e hg), upd_ne (ne_of_none e hg)]; exact e) hr), upd_ne (ne_of_none e hg), upd_ne (ne_of_none e hg)]
      exact e
  · rintro σ H' Q1 Q2 hQ ⟨v, e1, i, j, e2, e3, k, e4, z⟩
    exact ⟨v, e1, i, j, e2, e3, k, e4, hQ _ _ z⟩
theorem ok_PearlError_init (T : Tx K mg) : FnOk P w K mg base CX0 1 T.A_PearlError_init T.fd_PearlError_init ["self", "why"] (spPearl K "why") := by
  refine okD T.F_PearlError_init sc_PearlError_init (fun vs H Q E h => ?_) (fun cdv A outer s H vs Q E hr h => ?_)
  · obtain ⟨a, C, v, rfl, T1, hno, ha, q⟩ := h
    rfl
  obtain ⟨a, C, v, rfl, T1, hno, ha, q⟩ := h
  refine ⟨_, (pss_cons (ps_expr (pe_veinit (by rfl) T.z_ValueError T.vV (pa_cons (pv 0) (pa_cons (pv 1) pa_nil))))
      (pss_one (ps_ost (pv 0) (pv 1)))), ?_⟩
  refine ⟨_, rfl, _, rfl, a, C, [v], rfl, (by show 1 ≤ 1000; decide), T1, ha, ?_⟩
  exact ⟨_, rfl, _, rfl, a, C, rfl, T1, hno, .inl ⟨ha, q⟩⟩
/-- the four things of a rule -/
structure Rl where
  lo : Int
  hi : Int
  far : Int
  shd : Bool
deriving DecidableEq
def uf (u : Rl) : List (Str × V) := putF "shades" (.bl u.shd) (putF "match" (.int u.far) (putF "most" (.int u.hi) (putF "least" (.int u.lo) [])))
theorem uf_least (u : Rl) : (uf u).lookup ("least" : Str) = some (.int u.lo) := by
  unfold uf
  rw [lookup_putF, if_neg (by decide +kernel), lookup_putF, if_neg (by decide +kernel), lookup_putF, if_neg (by decide +kernel), lookup_putF, if_pos rfl]
theorem uf_most (u : Rl) : (uf u).lookup ("most" : Str) = some (.int u.hi) := by
  unfold uf
  rw [lookup_putF, if_neg (by decide +kernel), lookup_putF, if_neg (by decide +kernel), lookup_putF, if_pos rfl]
theorem uf_match (u : Rl) : (uf u).lookup ("match" : Str) = some (.int u.far) := by
  unfold uf
  rw [lookup_putF, if_neg (by decide +kernel), lookup_putF, if_pos rfl]
theorem uf_shades (u : Rl) : (uf u).lookup ("shades" : Str) = some (.bl u.shd) := by
  unfold uf
  rw [lookup_putF, if_pos rfl]
def GoodRl (u : Rl) : Prop := 0 ≤ u.lo ∧ u.lo ≤ u.hi ∧ 0 ≤ u.far
def RuleAt (C : Addr) (H : Hp) (p : Addr) (u : Rl) : Prop := ∃ dx, H p = some (.ins C dx (uf u))
theorem RuleAt.same {C : Addr} {H H' : Hp} {p : Addr} {u : Rl} (s : NL H H') (h : RuleAt C H p u) : RuleAt C H' p u := by
  obtain ⟨dx, e⟩ := h
  exact ⟨dx, s _ _ (fun _ z => by cases z) e⟩
theorem few0 : ([] : List (Str × V)).length ≤ 0 := Nat.le_refl _
theorem few {f : Str} {v : V} {fs : List (Str × V)} {n : Nat} (h : fs.length ≤ n) : (putF f v fs).length ≤ n + 1 := Nat.le_trans (length_putF _ _ _) (by omega)
/-- four things that make a rule -/
def asRl (a b c d : V) : Option Rl := match a, b, c, d with
  | .int x, .int y, .int z, .bl t => if 0 ≤ x ∧ x ≤ y ∧ 0 ≤ z then some ⟨x, y, z, t⟩ else none
  | _, _, _, _ => none
theorem asRl_some {a b c d : V} {u : Rl} (h : asRl a b c d = some u) : a = .int u.lo ∧ b = .int u.hi ∧ c = .int u.far ∧ d = .bl u.shd ∧ GoodRl u := by
  unfold asRl at h
  split at h
  · split at h
    · rename_i g
      cases h
      exact ⟨rfl, rfl, rfl, rfl, g⟩
    · cases h
  · cases h
theorem frn_int {v : V} (h : frn v = true) : ∃ i : Int, v = .int i ∧ 0 ≤ i := by
  cases v with
  | int i => exact ⟨i, rfl, of_decide_eq_true h⟩
  | _ => cases h
theorem asRl_a {a b c d : V} (h : frn a = false) : asRl a b c d = none := by
  cases e : asRl a b c d with
  | none => rfl
  | some u =>
    obtain ⟨rfl, _, _, _, g⟩ := asRl_some e
    rw [show frn (.int u.lo) = true from decide_eq_true g.1] at h
    cases h
theorem asRl_b {a b c d : V} (h : frn b = false) : asRl a b c d = none := by
  cases e : asRl a b c d with
  | none => rfl
  | some u =>
    obtain ⟨_, rfl, _, _, g⟩ := asRl_some e
    rw [show frn (.int u.hi) = true from decide_eq_true (Int.le_trans g.1 g.2.1)] at h
    cases h
theorem asRl_c {a b c d : V} (h : frn c = false) : asRl a b c d = none := by
  cases e : asRl a b c d with
  | none => rfl
  | some u =>
    obtain ⟨_, _, rfl, _, g⟩ := asRl_some e
    rw [show frn (.int u.far) = true from decide_eq_true g.2.2] at h
    cases h
theorem notT {b : Bool} (h : (!b) = true) : b = false := by cases b <;> simp_all
theorem notF {b : Bool} (h : ¬ (!b) = true) : b = true := by cases b <;> simp_all
def spRule (K : PySem.W.Frag) (C CB : Addr) : Sp := fun vs H Q E => ∃ (p dx : Addr) (a b c d : V), vs = [.ref p, a, b, c, d] ∧ H p = some (.ins C dx []) ∧ Th K H a ∧ Th K H b ∧ Th K H c ∧ Th K H d ∧
  (∀ u, asRl a b c d = some u → ∀ H' : Hp, RuleAt C H' p u → (∀ b o, H b = some o → b ≠ p → H' b = some o) → Q .non H') ∧
  (asRl a b c d = none → ∀ (H' : Hp) (dd : Addr) (z : Str), Same H H' → H' dd = some (.xd [("why", .str z)]) → E (.ref CB) (some dd) H')
theorem ok_Rule_init (T : Tx K mg) : FnOk P w K mg base (L2.CX P w) 3 T.A_Rule_init T.fd_Rule_init ["self", "least", "most", "match", "shades"] (spRule K T.C_Rule T.C_BadRule) := by
  refine T.F_Rule_init.ok (CX := L2.CX P w) sc_Rule_init (fun vs H Q E h => ?_) (fun cdv A outer s H vs Q E hr h => ?_)
  · obtain ⟨p, dx, a, b, c, d, rfl, hp, ta, tb, tc, td, qy, qn⟩ := h
    rfl
  obtain ⟨p, dx, a, b, c, d, rfl, hp, ta, tb, tc, td, qy, qn⟩ := h
  refine ⟨_, (pss_cons (ps_if (PW.pt (pw_or (pt_not (pt_val (pe_call (ok_is_from_nought T) (hr.mono (by decide)) (by rfl) T.g_is_from_nought T.F_is_from_nought.kp T.b_is_from_nought .nil pass0 (pa_cons (pv 1) pa_nil)))) (pw_or (pt_not (pt_val (pe_call (ok_is_from_nought T) (hr.mono (by decide)) (by rfl) T.g_is_from_nought T.F_is_from_nought.kp T.b_is_from_nought .nil pass0 (pa_cons (pv 2) pa_nil)))) (pw_or1 (pt_not (pt_val (pe_call (ok_is_from_nought T) (hr.mono (by decide)) (by rfl) T.g_is_from_nought T.F_is_from_nought.kp T.b_is_from_nought .nil pass0 (pa_cons (pv 3) pa_nil)))))))) (pss_one (ps_raise rfl (takes_of rfl rfl rfl rfl) (pmk_oex T.ox_BadRule T.in_BadRule T.ti_BadRule (ok_PearlError_init T) (hr.mono (by decide)) T.b_PearlError_init .nil pass0 (by rfl) T.g_BadRule (pa_cons pe_str pa_nil)))) pss_nil)
      (pss_cons (ps_if (pt_cmpR op_lt (pv 2) (pv 1) (nomark _)) (pss_one (ps_raise rfl (takes_of rfl rfl rfl rfl) (pmk_oex T.ox_BadRule T.in_BadRule T.ti_BadRule (ok_PearlError_init T) (hr.mono (by decide)) T.b_PearlError_init .nil pass0 (by rfl) T.g_BadRule (pa_cons pe_str pa_nil)))) pss_nil)
      (pss_cons (ps_if (pt_not (pt_val (pe_callB call_isi (by rfl) T.z_isinstance (by decide +kernel) (pa_cons (pv 4) (pa_cons (pe_bltn (v := .ty "bool") (by rfl) T.z_bool (by decide +kernel) rfl) pa_nil))))) (pss_one (ps_raise rfl (takes_of rfl rfl rfl rfl) (pmk_oex T.ox_BadRule T.in_BadRule T.ti_BadRule (ok_PearlError_init T) (hr.mono (by decide)) T.b_PearlError_init .nil pass0 (by rfl) T.g_BadRule (pa_cons pe_str pa_nil)))) pss_nil)
      (pss_cons (ps_fld (pv 0) (pv 1) rfl)
      (pss_cons (ps_fld (pv 0) (pv 2) rfl)
      (pss_cons (ps_fld (pv 0) (pv 3) rfl)
      (pss_one (ps_fld (pv 0) (pv 4) rfl)))))))), ?_⟩
  have bad : ∀ z : Str, asRl a b c d = none → [V.str z].length ≤ 1000 ∧ ∀ x, H x = none → spPearl K "why" (.ref x :: ([V.str z] ++ [])) (upd H x (exo x T.C_BadRule none)) (fun v H2 => v = .non ∧ ∃ (d : Addr) (fs : List (Str × V)), H2 x = some (exo x T.C_BadRule (some d)) ∧ H2 d = some (exd d fs) ∧ H d = none ∧ E (.ref T.C_BadRule) (some d) (upd (del H2 x) d (.xd fs))) (fun _ _ _ => False) := fun z hz => by
    refine ⟨(by show 1 ≤ 1000; decide), fun x hx => ⟨x, T.C_BadRule, .str z, rfl, T.ox_BadRule, T.nf_BadRule_why, upd_same, fun dd hd hne => ⟨rfl, dd, [("why", .str z)], upd_same, ?_, ?_, ?_⟩⟩⟩
    · rw [upd_ne hne]
      exact upd_same
    · rw [upd_ne hne] at hd
      exact hd
    · rw [upd_ne hne] at hd
      exact qn hz _ dd z (pearl_same hx hd) upd_same
  refine ⟨_, rfl, a, rfl, ta, _, rfl, ite2 (fun e => bad _ (asRl_a (notT e))) (fun ea => ?_)⟩
  refine ⟨_, rfl, b, rfl, tb, _, rfl, ite2 (fun e => bad _ (asRl_b (notT e))) (fun eb => ?_)⟩
  refine ⟨_, rfl, c, rfl, tc, _, rfl, ite2 (fun e => bad _ (asRl_c (notT e))) (fun ec => ?_)⟩
  obtain ⟨x, rfl, hx⟩ := frn_int (notF ea)
  obtain ⟨y, rfl, hy⟩ := frn_int (notF eb)
  obtain ⟨z, rfl, hz⟩ := frn_int (notF ec)
  refine ⟨_, rfl, _, rfl, _, _, rfl, rfl, _, rfl, ite2 (fun e => bad _ ?_) (fun e => ?_)⟩
  · have e := of_decide_eq_true e
    cases eq : asRl (.int x) (.int y) (.int z) d with
    | none => rfl
    | some u =>
      obtain ⟨h1, h2, _, _, g⟩ := asRl_some eq
      injection h1 with h1
      injection h2 with h2
      have := g.2.1
      omega
  have hxy : x ≤ y := by
    have : ¬ y < x := fun k => e (decide_eq_true k)
    omega
  obtain ⟨t2, ty2, k2⟩ := isi_bool td
  refine ⟨_, rfl, d, _, t2, _, _, rfl, .ty _, ty2, k2, _, rfl, ite2 (fun e => bad _ ?_) (fun e => ?_)⟩
  · have e := notT e
    cases eq : asRl (.int x) (.int y) (.int z) d with
    | none => rfl
    | some u =>
      obtain ⟨_, _, _, rfl, g⟩ := asRl_some eq
      cases e
  obtain ⟨t, rfl⟩ : ∃ t, d = .bl t := by
    have e := notF e
    cases d with
    | bl t => exact ⟨t, rfl⟩
    | _ => cases e
  have eu : asRl (.int x) (.int y) (.int z) (.bl t) = some ⟨x, y, z, t⟩ := if_pos ⟨hx, hxy, hz⟩
  refine ⟨_, rfl, _, rfl, p, _, dx, _, rfl, hp, T.cl_Rule, T.n_Rule_least, by decide, ?_⟩
  refine ⟨_, rfl, _, rfl, p, _, dx, _, rfl, upd_same, T.cl_Rule, T.n_Rule_most, Nat.lt_of_le_of_lt (few few0) (by decide), ?_⟩
  refine ⟨_, rfl, _, rfl, p, _, dx, _, rfl, upd_same, T.cl_Rule, T.n_Rule_match, Nat.lt_of_le_of_lt (few (few few0)) (by decide), ?_⟩
  refine ⟨_, rfl, _, rfl, p, _, dx, _, rfl, upd_same, T.cl_Rule, T.n_Rule_shades, Nat.lt_of_le_of_lt (few (few (few few0))) (by decide), ?_⟩
  refine qy _ eu _ ⟨dx, upd_same⟩ fun b o e hb => ?_
  rw [upd_ne hb, upd_ne hb, upd_ne hb, upd_ne hb]
  exact e
/-- another thing beside a rule -/
inductive Oth (K : PySem.W.Frag) (H : Hp) : V → Prop
  | int (i : Int) : Oth K H (.int i)
  | bl (b : Bool) : Oth K H (.bl b)
  | str (z : Str) : Oth K H (.str z)
  | non : Oth K H .non
  | lst {a : Addr} (h : TyX K H (.ref a) (.type "list")) : Oth K H (.ref a)
  | tup {a : Addr} (h : TyX K H (.ref a) (.type "tuple")) : Oth K H (.ref a)
theorem oth_ty (T : Tx K mg) {H : Hp} {v : V} (h : Oth K H v) : ∃ t, TyX K H v t ∧ PySem.W.notFirst K T.C_Rule t = true ∧ PySem.W.kitOne K t (.ref T.C_Rule) = some false := by
  cases h with
  | int i => exact ⟨_, .base (.int i), T.nf_int, T.no_int⟩
  | bl b => exact ⟨_, .base (.bl b), T.nf_bool, T.no_bool⟩
  | str z => exact ⟨_, .base (.str z), T.nf_str, T.no_str⟩
  | non => exact ⟨_, .base .non, T.nf_NoneType, T.no_NoneType⟩
  | lst h => exact ⟨_, h, T.nf_list, T.no_list⟩
  | tup h => exact ⟨_, h, T.nf_tuple, T.no_tuple⟩
def spREq (K : PySem.W.Frag) (C : Addr) : Sp := fun vs H Q _ => ∃ (a : Addr) (u : Rl) (y : V), vs = [.ref a, y] ∧ RuleAt C H a u ∧ ((∃ (b : Addr) (u' : Rl), y = .ref b ∧ RuleAt C H b u' ∧ Q (.bl (decide (u = u'))) H) ∨ (Oth K H y ∧ Q (.bl false) H))
theorem rl_eq (u v : Rl) : (u = v) ↔ (u.lo = v.lo ∧ u.hi = v.hi ∧ u.far = v.far ∧ u.shd = v.shd) := by
  obtain ⟨a, b, c, d⟩ := u
  obtain ⟨a', b', c', d'⟩ := v
  simp
theorem dec_int (a b : Int) : decide (V.int a = V.int b) = decide (a = b) := by
  rw [decide_eq_decide]
  exact ⟨fun e => by injection e, fun e => by rw [e]⟩
theorem dec_bl (a b : Bool) : decide (V.bl a = V.bl b) = decide (a = b) := by
  rw [decide_eq_decide]
  exact ⟨fun e => by injection e, fun e => by rw [e]⟩
theorem ok_Rule_eq (T : Tx K mg) : FnOk P w K mg base CX0 1 T.A_Rule_eq T.fd_Rule_eq ["self", "other"] (spREq K T.C_Rule) := by
  refine T.F_Rule_eq.ok sc_Rule_eq (fun vs H Q E h => ?_) (fun cdv A outer s H vs Q E hr h => ?_)
  · obtain ⟨a, u, y, rfl, ⟨dx, ha⟩, hy⟩ := h
    rfl
  obtain ⟨a, u, y, rfl, ⟨dx, ha⟩, hy⟩ := h
  refine ⟨_, (pss_one (ps_ret (pe_and (pe_callB call_isi (by rfl) T.z_isinstance (by decide +kernel) (pa_cons (pv 1) (pa_cons (pe_glob (v := .ref T.C_Rule) (by rfl) T.g_Rule rfl) pa_nil))) (pe_and (pe_cmpR op_eq (pe_fld (pv 0) rfl) (pe_fld (pv 1) rfl) (nomark _)) (pe_and (pe_cmpR op_eq (pe_fld (pv 0) rfl) (pe_fld (pv 1) rfl) (nomark _)) (pe_and (pe_cmpR op_eq (pe_fld (pv 0) rfl) (pe_fld (pv 1) rfl) (nomark _)) (pe_one (pe_cmpR op_eq (pe_fld (pv 0) rfl) (pe_fld (pv 1) rfl) (nomark _))))))))), ?_⟩
  rcases hy with ⟨b, u', rfl, ⟨dy, hb⟩, q⟩ | ⟨ho, q⟩
  · refine ⟨_, rfl, .ref b, .ref T.C_Rule, .ref T.C_Rule, .ref T.C_Rule, true, rfl, .own _, .base (.ins hb T.cl_Rule T.ir1 T.ir2 T.ir3 T.ir4), T.i_Rule, _, rfl, ?_⟩
    refine iteT ⟨_, rfl, a, _, dx, _, _, rfl, ha, T.cl_Rule, T.n_Rule_least, uf_least u, _, rfl, b, _, dy, _, _, rfl, hb, T.cl_Rule, T.n_Rule_least, uf_least u', rfl, _, rfl, ?_⟩
    rw [dec_int]
    by_cases h1 : u.lo = u'.lo
    · rw [decide_eq_true h1]
      refine iteT ⟨_, rfl, a, _, dx, _, _, rfl, ha, T.cl_Rule, T.n_Rule_most, uf_most u, _, rfl, b, _, dy, _, _, rfl, hb, T.cl_Rule, T.n_Rule_most, uf_most u', rfl, _, rfl, ?_⟩
      rw [dec_int]
      by_cases h2 : u.hi = u'.hi
      · rw [decide_eq_true h2]
        refine iteT ⟨_, rfl, a, _, dx, _, _, rfl, ha, T.cl_Rule, T.n_Rule_match, uf_match u, _, rfl, b, _, dy, _, _, rfl, hb, T.cl_Rule, T.n_Rule_match, uf_match u', rfl, _, rfl, ?_⟩
        rw [dec_int]
        by_cases h3 : u.far = u'.far
        · rw [decide_eq_true h3]
          refine iteT ⟨_, rfl, a, _, dx, _, _, rfl, ha, T.cl_Rule, T.n_Rule_shades, uf_shades u, _, rfl, b, _, dy, _, _, rfl, hb, T.cl_Rule, T.n_Rule_shades, uf_shades u', rfl, ?_⟩
          rw [dec_bl]
          have : decide (u = u') = decide (u.shd = u'.shd) := by
            rw [decide_eq_decide, rl_eq]
            exact ⟨fun h => h.2.2.2, fun h => ⟨h1, h2, h3, h⟩⟩
          rw [this] at q
          exact q
        · rw [decide_eq_false h3]
          rw [decide_eq_false (show ¬ u = u' from fun e => h3 (by rw [e]))] at q
          exact iteF q
      · rw [decide_eq_false h2]
        rw [decide_eq_false (show ¬ u = u' from fun e => h2 (by rw [e]))] at q
        exact iteF q
    · rw [decide_eq_false h1]
      rw [decide_eq_false (show ¬ u = u' from fun e => h1 (by rw [e]))] at q
      exact iteF q
  · obtain ⟨t, ty, _, k⟩ := oth_ty T ho
    exact ⟨_, rfl, y, _, t, _, false, rfl, .own _, ty, k, _, rfl, iteF q⟩
/-- how a rule is shown -/
def shB (b : Bool) : Str := if b then "True" else "False"
def ruleText (u : Rl) : Str := Str.empty ++ "Rule(least=" ++ Str.ofString (toString u.lo) ++ ", most=" ++ Str.ofString (toString u.hi) ++ ", match=" ++ Str.ofString (toString u.far) ++ ", shades=" ++ shB u.shd ++ ")"
def SmallRl (u : Rl) : Prop := GoodRl u ∧ u.hi < 10 ^ 59 ∧ u.far < 10 ^ 59
theorem app_le {x y : Str} {m n : Nat} (hx : x.length ≤ m) (hy : y.length ≤ n) : (x ++ y).length ≤ m + n := by
  rw [Str.length_append]
  omega
theorem fit {x : Str} {m : Nat} (h : x.length ≤ m) (hm : m ≤ 100000 := by decide) : x.length ≤ sizeLine := sz _ (Nat.le_trans h hm)
theorem num_le {n : Int} (h0 : 0 ≤ n) (h1 : n < 10 ^ 59) : (Str.ofString (toString n)).length ≤ 59 := toString_length_le h0 (by decide) h1
theorem num_log {n : Int} (h0 : 0 ≤ n) (h1 : n < 10 ^ 59) : n.natAbs.log2 < 1920 := by
  rcases Nat.eq_zero_or_pos n.natAbs with z | z
  · rw [z]; decide
  · exact Nat.lt_of_lt_of_le (PySem.Flt.log2_lt_of (k := 200) (by omega) (by
      have e : (10 : Int) ^ 59 = 100000000000000000000000000000000000000000000000000000000000 := by decide
      have e2 : (2 : Nat) ^ 200 = 1606938044258990275541962092341162602522202993782792835301376 := by decide
      rw [e] at h1
      rw [e2]
      omega)) (by decide)
theorem shB_le (b : Bool) : (shB b).length ≤ 5 := by cases b <;> decide +kernel
def spRRepr (C : Addr) : Sp := fun vs H Q _ => ∃ (a : Addr) (u : Rl), vs = [.ref a] ∧ RuleAt C H a u ∧ SmallRl u ∧ ∀ H', Same H H' → Q (.str (ruleText u)) H'
theorem ok_Rule_repr (T : Tx K mg) : FnOk P w K mg base CX0 2 T.A_Rule_repr T.fd_Rule_repr ["self"] (spRRepr T.C_Rule) := by
  refine T.F_Rule_repr.ok sc_Rule_repr (fun vs H Q E h => ?_) (fun cdv A outer s H vs Q E hr h => ?_)
  · obtain ⟨a, u, rfl, ⟨dx, ha⟩, ⟨⟨g1, g2, g3⟩, g4, g5⟩, q⟩ := h
    rfl
  obtain ⟨a, u, rfl, ⟨dx, ha⟩, ⟨⟨g1, g2, g3⟩, g4, g5⟩, q⟩ := h
  refine ⟨_, (pss_cons (ps_set (i := 1) sc_Rule_repr.nd rfl (Or.inl rfl) (pe_lst (pa_cons (pe_call (ok_figures T) (hr.mono (by decide)) (by rfl) T.g_figures T.F_figures.kp T.b_figures .nil pass0 (pa_cons (pe_fld (pv 0) rfl) pa_nil)) (pa_cons (pe_call (ok_figures T) (hr.mono (by decide)) (by rfl) T.g_figures T.F_figures.kp T.b_figures .nil pass0 (pa_cons (pe_fld (pv 0) rfl) pa_nil)) (pa_cons (pe_call (ok_figures T) (hr.mono (by decide)) (by rfl) T.g_figures T.F_figures.kp T.b_figures .nil pass0 (pa_cons (pe_fld (pv 0) rfl) pa_nil)) pa_nil)))))
      (pss_one (ps_ret (pe_joined (PJ.cons pe_str (PJ.cons (pe_fmtB (pe_ix ix_list (pv 1) pe_int (fun _ _ => rfl))) (PJ.cons pe_str (PJ.cons (pe_fmtB (pe_ix ix_list (pv 1) pe_int (fun _ _ => rfl))) (PJ.cons pe_str (PJ.cons (pe_fmtB (pe_ix ix_list (pv 1) pe_int (fun _ _ => rfl))) (PJ.cons pe_str (PJ.cons (pe_fmtB (pe_fld (pv 0) rfl)) (PJ.cons pe_str PJ.nil))))))))))))), ?_⟩
  refine ⟨_, rfl, a, _, dx, _, _, rfl, ha, T.cl_Rule, T.n_Rule_least, uf_least u, u.lo, rfl, g1, by omega, fun H1 s1 => ?_⟩
  refine ⟨_, rfl, a, _, dx, _, _, rfl, s1 _ _ ha, T.cl_Rule, T.n_Rule_most, uf_most u, u.hi, rfl, by omega, by omega, fun H2 s2 => ?_⟩
  refine ⟨_, rfl, a, _, dx, _, _, rfl, s2 _ _ (s1 _ _ ha), T.cl_Rule, T.n_Rule_match, uf_match u, u.far, rfl, g3, g5, fun H3 s3 => ?_⟩
  refine ⟨(by show 3 ≤ sizeLine; decide), fun l hl => ?_⟩
  have n1 := num_le g1 (by omega)
  have n2 := num_le (n := u.hi) (by omega) g4
  have n3 := num_le g3 g5
  have c0 : Str.empty.length ≤ 0 := by decide +kernel
  have c1 := app_le c0 (show ("Rule(least=" : Str).length ≤ 20 by decide +kernel)
  have c2 := app_le c1 n1
  have c3 := app_le c2 (show (", most=" : Str).length ≤ 20 by decide +kernel)
  have c4 := app_le c3 n2
  have c5 := app_le c4 (show (", match=" : Str).length ≤ 20 by decide +kernel)
  have c6 := app_le c5 n3
  have c7 := app_le c6 (show (", shades=" : Str).length ≤ 20 by decide +kernel)
  have c8 := app_le c7 (shB_le u.shd)
  have c9 := app_le c8 (show (")" : Str).length ≤ 20 by decide +kernel)
  have sl := same_upd hl (o := .lst [V.str (Str.ofString (toString u.lo)), V.str (Str.ofString (toString u.hi)), V.str (Str.ofString (toString u.far))])
  have hS : SqL K (upd H3 l (.lst [V.str (Str.ofString (toString u.lo)), V.str (Str.ofString (toString u.hi)), V.str (Str.ofString (toString u.far))])) l [V.str (Str.ofString (toString u.lo)), V.str (Str.ofString (toString u.hi)), V.str (Str.ofString (toString u.far))] := SqL.of upd_same
  refine ⟨_, rfl, fit c1, _, rfl, l, _, _, _, rfl, rfl, hS, atI_nat (j := 0) rfl, .inl ⟨_, rfl, fit n1, _, rfl, fit c2, ?_⟩⟩
  refine ⟨_, rfl, fit c3, _, rfl, l, _, _, _, rfl, rfl, hS, atI_nat (j := 1) rfl, .inl ⟨_, rfl, fit n2, _, rfl, fit c4, ?_⟩⟩
  refine ⟨_, rfl, fit c5, _, rfl, l, _, _, _, rfl, rfl, hS, atI_nat (j := 2) rfl, .inl ⟨_, rfl, fit n3, _, rfl, fit c6, ?_⟩⟩
  refine ⟨_, rfl, fit c7, _, rfl, a, _, dx, _, _, rfl, sl _ _ (s3 _ _ (s2 _ _ (s1 _ _ ha))), T.cl_Rule, T.n_Rule_shades, uf_shades u, .inr (.inr ⟨_, rfl, _, rfl, fit c8, ?_⟩)⟩
  exact ⟨_, rfl, fit c9, q _ (((s1.trans s2).trans s3).trans sl)⟩
end
end KB
namespace KB
open PySem PySem.Spec PyProof.Rows L2 KA
section
variable {P : Program} {w : World} {K : PySem.W.Frag} {mg : Str → Option Value} {base : Heap}
def PT : Int → Prop := fun _ => True
theorem dr_nl {PP : Int → Prop} {d : Addr} {n : Nat} {H H' : Hp} (dr : Dr PP d n H) (b : But d H H') : NL H H' := fun c o hn hc => by
  obtain ⟨_, _, _, e, _⟩ := dr
  exact b c o (fun z => by rw [z, e] at hc; exact hn _ (Option.some.inj hc).symm) hc
def spCell (K : PySem.W.Frag) : Sp := fun vs H Q _ => ∃ (a : Addr) (ns : List Int), vs = [.ref a, .int 0] ∧ SqL K H a (ns.map V.int) ∧ Q (.int (ns.headD 0)) H
theorem ok_cell_at (T : Tx K mg) : FnOk P w K mg base CX0 1 T.A_cell_at T.fd_cell_at ["_law_script", "_law_k"] (spCell K) := by
  refine T.F_cell_at.ok sc_cell_at (fun vs H Q E h => ?_) (fun cdv A outer s H vs Q E hr h => ?_)
  · obtain ⟨a, ns, rfl, hS, q⟩ := h
    rfl
  obtain ⟨a, ns, rfl, hS, q⟩ := h
  refine ⟨_, (pss_cons (ps_if (pt_cmpR op_lt (pv 1) (pe_callB call_len_seq (by rfl) T.z_len PySem.boot_len (pa_cons (pv 0) pa_nil)) (nomark _)) (pss_one (ps_ret (pe_ix ix_list (pv 0) (pv 1) (fun _ _ => rfl)))) pss_nil)
      (pss_one (ps_ret pe_int))), ?_⟩
  refine ⟨_, rfl, _, rfl, a, _, rfl, .inl hS, _, _, rfl, rfl, _, rfl, ?_⟩
  cases ns with
  | nil => exact iteF q
  | cons n r =>
    rw [decide_eq_true (show (0 : Int) < (((n :: r).map V.int).length : Int) by rw [List.length_map, List.length_cons]; omega)]
    exact iteT ⟨_, rfl, _, rfl, a, _, _, _, rfl, rfl, hS, atI_nat (j := 0) rfl, q⟩
def spWell : Sp := fun vs H Q _ => ∃ (n : Int), vs = [.int n] ∧ ∀ (d : Addr) (H' : Hp), H d = none → Same H H' → Dr PT d 0 H' → Q (.ref d) H'
theorem ok_well (T : Tx K mg) : FnOk P w K mg base CX0 1 T.A_well T.fd_well ["_law_cell"] (spWell) := by
  refine T.F_well.ok sc_well (fun vs H Q E h => ?_) (fun cdv A outer s H vs Q E hr h => ?_)
  · obtain ⟨n, rfl, q⟩ := h
    rfl
  obtain ⟨n, rfl, q⟩ := h
  refine ⟨_, (pss_one (ps_ret (pe_lst (pa_cons (pe_ix ix_list (pe_lst (pa_cons pe_int (pa_cons (pv 0) pa_nil))) (pe_callTy call_int1 (by rfl) T.z_int (by decide +kernel) (pa_cons (pe_cmpR op_ge (pv 0) (pe_op op_pow pe_int pe_int) (nomark _)) pa_nil)) (fun _ _ => rfl)) (pa_cons (pv 0) (pa_cons pe_int pa_nil)))))), ?_⟩
  refine ⟨_, rfl, (by show 2 ≤ sizeLine; decide), fun l hl => ?_⟩
  refine ⟨_, rfl, _, _, rfl, rfl, ⟨by decide, by decide, by decide⟩, _, _, rfl, rfl, .inr ⟨_, rfl, ?_⟩⟩
  obtain ⟨a, ha⟩ : ∃ a : Int, atI [V.int 0, V.int n] (if decide (10 ^ (18 : Int).toNat ≤ n) = true then (1 : Int) else 0) = some (.int a) := by
    split
    · exact ⟨n, rfl⟩
    · exact ⟨0, rfl⟩
  refine ⟨l, _, _, _, rfl, rfl, SqL.of upd_same, ha, _, rfl, (by show 3 ≤ sizeLine; decide), fun d hd => ?_⟩
  have s1 : Same H (upd H l (.lst [.int 0, .int n])) := same_upd hl
  exact q d _ (s1.free hd) (s1.trans (same_upd hd)) ⟨_, _, _, upd_same, trivial, Int.le_refl _, Int.le_refl _⟩
def spDraw : Sp := fun vs H Q _ => ∃ (d : Addr) (m : Int) (n : Nat), vs = [.ref d, .int m] ∧ 0 < m ∧ m.natAbs.log2 < 9000 ∧ Dr PT d n H ∧ n ≤ 1000000 ∧
  ∀ (H' : Hp) (r : Int), 0 ≤ r → r < m → But d H H' → Dr PT d (n + 1) H' → Q (.int r) H'
theorem ok_draw (T : Tx K mg) : FnOk P w K mg base CX0 1 T.A_draw T.fd_draw ["_law_well_here", "_law_many"] (spDraw) := by
  refine T.F_draw.ok sc_draw (fun vs H Q E h => ?_) (fun cdv A outer s H vs Q E hr h => ?_)
  · obtain ⟨d, m, n, rfl, hm, hl, ⟨a, b, c, hd, _, hc0, hc1⟩, hn, q⟩ := h
    rfl
  obtain ⟨d, m, n, rfl, hm, hl, ⟨a, b, c, hd, _, hc0, hc1⟩, hn, q⟩ := h
  refine ⟨_, (pss_cons (ps_if (pt_cmpR op_gt (pe_ix ix_list (pv 0) pe_int (fun _ _ => rfl)) pe_int (nomark _)) (pss_cons (ps_set (i := 2) sc_draw.nd rfl (Or.inl rfl) (pe_op op_mod (pe_ix ix_list (pv 0) pe_int (fun _ _ => rfl)) (pv 1)))
      (pss_cons (ps_asg (pe_op op_fdivW (pe_ix ix_list (pv 0) pe_int (fun _ _ => rfl)) (pv 1)) (pg_sub (pv 0) pe_int set_list))
      (pss_one (ps_ret (pv 2))))) pss_nil)
      (pss_cons (ps_asg (pe_op op_add (pe_ix ix_list (pv 0) pe_int (fun _ _ => rfl)) pe_int) (pg_sub (pv 0) pe_int set_list))
      (pss_cons (ps_set (i := 3) sc_draw.nd rfl (Or.inl rfl) (pe_op op_mod (pe_op op_fdivW (pe_ix ix_list (pv 0) pe_int (fun _ _ => rfl)) pe_int) pe_int))
      (pss_cons (ps_set (i := 4) sc_draw.nd rfl (Or.inl rfl) (pe_op op_mod (pe_op op_pow (pe_op op_add (pe_op op_add (pe_op op_add (pe_op op_mod (pe_ix ix_list (pv 0) pe_int (fun _ _ => rfl)) pe_int) (pe_op op_mul pe_int (pe_ix ix_list (pv 0) pe_int (fun _ _ => rfl)))) (pv 3)) pe_int) pe_int) pe_int))
      (pss_cons (ps_set (i := 4) sc_draw.nd rfl (Or.inl rfl) (pe_op op_mod (pe_op op_mul (pv 4) (pe_op op_add (pe_op op_add (pe_op op_fdiv (pv 4) pe_int) pe_int) (pe_ix ix_list (pv 0) pe_int (fun _ _ => rfl)))) pe_int))
      (pss_one (ps_ret (pe_op op_mod (pe_op op_mod (pe_op op_mul (pv 4) (pe_op op_add (pe_op op_fdiv (pv 4) pe_int) pe_int)) pe_int) (pv 1))))))))), ?_⟩
  refine ⟨_, rfl, d, _, _, _, rfl, rfl, SqL.of hd, atI_nat (j := 0) rfl, _, _, rfl, rfl, _, rfl, ite2 (fun e => ?_) (fun e => ?_)⟩
  · refine ⟨_, rfl, d, _, _, _, rfl, rfl, SqL.of hd, atI_nat (j := 0) rfl, _, rfl, _, _, rfl, rfl, hm, ?_⟩
    refine ⟨_, rfl, d, _, _, _, rfl, rfl, SqL.of hd, atI_nat (j := 0) rfl, _, rfl, _, _, rfl, rfl, ⟨hm, hl⟩, ?_⟩
    refine ⟨_, rfl, d, _, _, 0, rfl, rfl, hd, rfl, ?_⟩
    exact ⟨_, rfl, q _ _ (Int.emod_nonneg _ (by omega)) (Int.emod_lt_of_pos _ hm) But.at_ ⟨_, _, _, upd_same, trivial, hc0, by omega⟩⟩
  · refine ⟨_, rfl, d, _, _, _, rfl, rfl, SqL.of hd, atI_nat (j := 2) rfl, _, _, rfl, rfl, ?_⟩
    refine ⟨_, rfl, d, _, _, 2, rfl, rfl, hd, rfl, ?_⟩
    have hd' : (upd H d (.lst [.int a, .int b, .int (c + 1)])) d = some (.lst [.int a, .int b, .int (c + 1)]) := upd_same
    have e64 : (2 : Int) ^ 64 = 18446744073709551616 := by decide
    refine ⟨_, rfl, d, _, _, _, rfl, rfl, SqL.of hd', atI_nat (j := 1) rfl, _, _, rfl, rfl, ⟨by decide, by decide⟩, _, _, rfl, rfl, (by show (0 : Int) < 65521; decide), ?_⟩
    have hz0 : 0 ≤ b / 2147483629 % 65521 := Int.emod_nonneg _ (by decide)
    have hz1 : b / 2147483629 % 65521 < 65521 := Int.emod_lt_of_pos _ (by decide)
    have hb0 : 0 ≤ b % 2147483629 := Int.emod_nonneg _ (by decide)
    have hb1 : b % 2147483629 < 2147483629 := Int.emod_lt_of_pos _ (by decide)
    refine ⟨_, rfl, d, _, _, _, rfl, rfl, SqL.of hd', atI_nat (j := 1) rfl, _, _, rfl, rfl, (by show (0 : Int) < 2147483629; decide), _, rfl, d, _, _, _, rfl, rfl, SqL.of hd', atI_nat (j := 2) rfl, _, _, rfl, rfl, .inl ⟨by decide, by decide⟩, _, _, rfl, rfl, _, rfl, _, _, rfl, rfl, _, _, rfl, rfl, _, _, rfl, rfl, ⟨by decide, by decide, ?_⟩, _, _, rfl, rfl, (by show (0 : Int) < 2147483647; decide), ?_⟩
    · have e64 : (2 : Nat) ^ 64 = 18446744073709551616 := by decide
      rw [e64]
      show (b % 2147483629 + 7919 * (c + 1) + b / 2147483629 % 65521 + 1).natAbs < _
      omega
    · generalize hx : (b % 2147483629 + 7919 * (c + 1) + b / 2147483629 % 65521 + 1) ^ (5 : Int).toNat % 2147483647 = x
      have hx0 : 0 ≤ x := by rw [← hx]; exact Int.emod_nonneg _ (by decide)
      have hx1 : x < 2147483647 := by rw [← hx]; exact Int.emod_lt_of_pos _ (by decide)
      refine ⟨_, rfl, _, rfl, _, _, rfl, rfl, ⟨by decide, by decide⟩, _, _, rfl, rfl, _, rfl, d, _, _, _, rfl, rfl, SqL.of hd', atI_nat (j := 2) rfl, _, _, rfl, rfl, _, _, rfl, rfl, .inl ⟨?_, ?_⟩, _, _, rfl, rfl, (by show (0 : Int) < 2147483629; decide), ?_⟩
      · rw [e64]; omega
      · rw [e64]; omega
      · generalize hy : x * (x / 1009 + 69621 + (c + 1)) % 2147483629 = y
        have hy0 : 0 ≤ y := by rw [← hy]; exact Int.emod_nonneg _ (by decide)
        have hy1 : y < 2147483629 := by rw [← hy]; exact Int.emod_lt_of_pos _ (by decide)
        refine ⟨_, rfl, _, rfl, _, _, rfl, rfl, ⟨by decide, by decide⟩, _, _, rfl, rfl, _, _, rfl, rfl, .inl ⟨?_, ?_⟩, _, _, rfl, rfl, (by show (0 : Int) < 2147483399; decide), _, rfl, _, _, rfl, rfl, hm, ?_⟩
        · rw [e64]; omega
        · rw [e64]; omega
        · exact q _ _ (Int.emod_nonneg _ (by omega)) (Int.emod_lt_of_pos _ hm) But.at_ ⟨_, _, _, upd_same, trivial, by omega, by omega⟩
def spOf (K : PySem.W.Frag) : Sp := fun vs H Q _ => ∃ (d b : Addr) (n : Nat) (xs : List V), vs = [.ref d, .ref b] ∧ b ≠ d ∧ SqL K H b xs ∧ xs ≠ [] ∧ xs.length ≤ 1000 ∧ Dr PT d n H ∧ n ≤ 1000000 ∧
  ∀ (H' : Hp) (v : V), v ∈ xs → But d H H' → Dr PT d (n + 1) H' → Q v H'
theorem ok_one (T : Tx K mg) : FnOk P w K mg base CX0 2 T.A_one T.fd_one ["_law_well_here", "_law_some"] (spOf K) := by
  refine T.F_one.ok sc_one (fun vs H Q E h => ?_) (fun cdv A outer s H vs Q E hr h => ?_)
  · obtain ⟨d, b, n, xs, rfl, hbd, hS, hne, hlen, dr, hn, q⟩ := h
    rfl
  obtain ⟨d, b, n, xs, rfl, hbd, hS, hne, hlen, dr, hn, q⟩ := h
  refine ⟨_, (pss_one (ps_ret (pe_ix ix_list (pv 1) (pe_call (ok_draw T) (hr.mono (by decide)) (by rfl) T.g_draw T.F_draw.kp T.b_draw .nil pass0 (pa_cons (pv 0) (pa_cons (pe_callB call_len_seq (by rfl) T.z_len PySem.boot_len (pa_cons (pv 1) pa_nil)) pa_nil))) (fun _ _ => rfl)))), ?_⟩
  have hl : 0 < (xs.length : Int) := by
    cases xs with
    | nil => exact absurd rfl hne
    | cons x r => rw [List.length_cons]; omega
  refine ⟨_, rfl, _, rfl, _, rfl, b, xs, rfl, .inl hS, d, _, n, rfl, hl, log_tiny hl (by omega), dr, hn, fun H' r h0 h1 bt dr' => ?_⟩
  obtain ⟨j, rfl⟩ : ∃ j : Nat, r = (j : Int) := ⟨r.toNat, by omega⟩
  have hj : j < xs.length := by omega
  exact ⟨b, xs, _, _, rfl, rfl, but_seq bt hbd hS, atI_nat (List.getElem?_eq_getElem hj), q H' _ (List.getElem_mem hj) bt dr'⟩
def spNum : Sp := fun vs H Q _ => ∃ (d : Addr) (n : Nat), vs = [.ref d] ∧ Dr PT d n H ∧ n ≤ 100000 ∧
  ∀ (H' : Hp) (x : Int), 0 ≤ x → x < 10 ^ 40 → But d H H' → Dr PT d (n + 3) H' → Q (.int x) H'
theorem e40 : (10 : Int) ^ 40 = 10000000000000000000000000000000000000000 := by decide
theorem e40n : (10 : Int) ^ (40 : Int).toNat = 10000000000000000000000000000000000000000 := by decide
theorem ok_number (T : Tx K mg) : FnOk P w K mg base CX0 3 T.A_number T.fd_number ["_law_well_here"] (spNum) := by
  refine T.F_number.ok sc_number (fun vs H Q E h => ?_) (fun cdv A outer s H vs Q E hr h => ?_)
  · obtain ⟨d, n, rfl, dr, hn, q⟩ := h
    rfl
  obtain ⟨d, n, rfl, dr, hn, q⟩ := h
  refine ⟨_, (pss_one (ps_ret (pe_call (ok_one T) (hr.mono (by decide)) (by rfl) T.g_one T.F_one.kp T.b_one .nil pass0 (pa_cons (pv 0) (pa_cons (pe_lst (pa_cons pe_int (pa_cons pe_int (pa_cons pe_int (pa_cons pe_int (pa_cons (pe_call (ok_draw T) (hr.mono (by decide)) (by rfl) T.g_draw T.F_draw.kp T.b_draw .nil pass0 (pa_cons (pv 0) (pa_cons pe_int pa_nil))) (pa_cons (pe_call (ok_draw T) (hr.mono (by decide)) (by rfl) T.g_draw T.F_draw.kp T.b_draw .nil pass0 (pa_cons (pv 0) (pa_cons (pe_op op_pow pe_int pe_int) pa_nil))) pa_nil))))))) pa_nil))))), ?_⟩
  refine ⟨_, rfl, _, rfl, d, 60, n, rfl, by decide, log_tiny (by decide) (by decide), dr, by omega, fun H1 r1 a1 c1 b1 dr1 => ?_⟩
  refine ⟨_, rfl, _, _, rfl, rfl, ⟨by decide, by decide, by decide⟩, d, _, n + 1, rfl, by decide, log_small (by decide) (by decide), dr1, by omega, fun H2 r2 a2 c2 b2 dr2 => ?_⟩
  refine ⟨(by show 6 ≤ sizeLine; decide), fun l hl => ?_⟩
  have nl := dr2.ne hl
  refine ⟨d, l, n + 2, _, rfl, nl, SqL.of upd_same, by simp, by show 6 ≤ 1000; decide, dr2.upd nl, by omega, fun H4 v hv b4 dr4 => ?_⟩
  have bt : But d H H4 := (b1.trans b2).trans ((But.new hl).trans b4)
  have fin : ∀ x : Int, 0 ≤ x → x < 10 ^ 40 → v = .int x → Q v H4 := fun x h0 h1 e => by
    rw [e]
    exact q H4 x h0 h1 bt dr4
  rw [e40n] at c2
  rw [e40] at fin
  simp only [List.mem_cons, List.not_mem_nil, or_false] at hv
  rcases hv with e | e | e | e | e | e
  · exact fin _ (by decide) (by decide) e
  · exact fin _ (by decide) (by decide) e
  · exact fin _ (by decide) (by decide) e
  · exact fin _ (by decide) (by decide) e
  · exact fin _ a1 (by omega) e
  · exact fin _ a2 c2 e
def l4 (u : Rl) : List V := [.int u.lo, .int u.hi, .int u.far, .bl u.shd]
def SmF (u : Rl) : Prop := GoodRl u ∧ u.hi < 10 ^ 41 ∧ u.far < 10 ^ 40
def spFour : Sp := fun vs H Q _ => ∃ (d : Addr) (n : Nat), vs = [.ref d] ∧ Dr PT d n H ∧ n ≤ 1000 ∧
  ∀ (H' : Hp) (p : Addr) (u : Rl), H' p = some (.lst (l4 u)) → SmF u → H p = none → But d H H' → Dr PT d (n + 20) H' → Q (.ref p) H'
theorem ok_four (T : Tx K mg) : FnOk P w K mg base CX0 4 T.A_four T.fd_four ["_law_well_here"] (spFour) := by
  refine T.F_four.ok sc_four (fun vs H Q E h => ?_) (fun cdv A outer s H vs Q E hr h => ?_)
  · obtain ⟨d, n, rfl, dr, hn, q⟩ := h
    rfl
  obtain ⟨d, n, rfl, dr, hn, q⟩ := h
  refine ⟨_, (pss_cons (ps_set (i := 1) sc_four.nd rfl (Or.inl rfl) (pe_call (ok_number T) (hr.mono (by decide)) (by rfl) T.g_number T.F_number.kp T.b_number .nil pass0 (pa_cons (pv 0) pa_nil)))
      (pss_one (ps_ret (pe_lst (pa_cons (pv 1) (pa_cons (pe_op op_add (pv 1) (pe_call (ok_number T) (hr.mono (by decide)) (by rfl) T.g_number T.F_number.kp T.b_number .nil pass0 (pa_cons (pv 0) pa_nil))) (pa_cons (pe_call (ok_number T) (hr.mono (by decide)) (by rfl) T.g_number T.F_number.kp T.b_number .nil pass0 (pa_cons (pv 0) pa_nil)) (pa_cons (pe_cmpR op_eq (pe_call (ok_draw T) (hr.mono (by decide)) (by rfl) T.g_draw T.F_draw.kp T.b_draw .nil pass0 (pa_cons (pv 0) (pa_cons pe_int pa_nil))) pe_int (nomark _)) pa_nil)))))))), ?_⟩
  refine ⟨_, rfl, d, n, rfl, dr, by omega, fun H1 x a1 c1 b1 dr1 => ?_⟩
  refine ⟨_, rfl, _, rfl, _, rfl, d, n + 3, rfl, dr1, by omega, fun H2 y a2 c2 b2 dr2 => ⟨_, _, rfl, rfl, ?_⟩⟩
  refine ⟨_, rfl, d, n + 6, rfl, dr2, by omega, fun H3 z a3 c3 b3 dr3 => ?_⟩
  refine ⟨_, rfl, d, 2, n + 9, rfl, by decide, log_tiny (by decide) (by decide), dr3, by omega, fun H4 r a4 c4 b4 dr4 => ?_⟩
  refine ⟨rfl, (by show 4 ≤ sizeLine; decide), fun p hp => ?_⟩
  have bt : But d H H4 := (b1.trans b2).trans (b3.trans b4)
  have np := dr4.ne hp
  refine q _ p ⟨x, x + y, z, decide (V.int r = V.int 0)⟩ upd_same ⟨⟨a1, by show x ≤ x + y; omega, a3⟩, ?_, c3⟩ (bt.free np hp) (bt.trans (But.new hp)) ((dr4.upd np).mono (by omega))
  show x + y < 10 ^ 41
  have e41 : (10 : Int) ^ 41 = 100000000000000000000000000000000000000000 := by decide
  rw [e40] at c1 c2
  rw [e41]
  omega
theorem tyx_but {K : PySem.W.Frag} {H H' : Hp} {d a : Addr} (s : But d H H') (n : a ≠ d) {t : Value} (h : TyX K H (.ref a) t) : TyX K H' (.ref a) t := by
  cases h with
  | base h =>
    cases h with
    | lst e => exact .base (.lst (s _ _ n e))
    | frz e => exact .base (.frz (s _ _ n e))
    | tup e => exact .base (.tup (s _ _ n e))
    | dK e => exact .base (.dK (s _ _ n e))
    | dT e => exact .base (.dT (s _ _ n e))
    | ins e cl ha hn htk hm => exact .base (.ins (s _ _ n e) cl ha hn htk hm)
  | set e => exact .set (s _ _ n e)
  | kList e c => exact .kList e c
  | kTuple e c => exact .kTuple e c
  | kDict e c => exact .kDict e c
  | fTuple e => exact .fTuple (s _ _ n e)
  | fDict e => exact .fDict (s _ _ n e)
/-- a thing that may be handed in -/
structure Tv (K : PySem.W.Frag) (H : Hp) (d : Addr) (v : V) : Prop where
  th : Th K H v
  sm : ∀ i, v = .int i → i < 10 ^ 58
  ne : ∀ a, v = .ref a → a ≠ d
theorem Tv.but {K : PySem.W.Frag} {H H' : Hp} {d : Addr} {v : V} (s : But d H H') (h : Tv K H d v) : Tv K H' d v := by
  refine ⟨?_, h.sm, h.ne⟩
  obtain ⟨th, sm, ne⟩ := h
  cases th with
  | int i => exact .int i
  | bl b => exact .bl b
  | str z => exact .str z
  | non => exact .non
  | lst h => exact .lst (tyx_but s (ne _ rfl) h)
  | tup h => exact .tup (tyx_but s (ne _ rfl) h)
  | dct h => exact .dct (tyx_but s (ne _ rfl) h)
theorem Tv.same {K : PySem.W.Frag} {H H' : Hp} {d : Addr} {v : V} (s : Same H H') (h : Tv K H d v) : Tv K H' d v := h.but (But.of s)
theorem tv_int {K : PySem.W.Frag} {H : Hp} {d : Addr} {i : Int} (h : i < 10 ^ 58) : Tv K H d (.int i) := ⟨.int i, fun j e => by cases e; exact h, fun a e => by cases e⟩
theorem tv_bl {K : PySem.W.Frag} {H : Hp} {d : Addr} {b : Bool} : Tv K H d (.bl b) := ⟨.bl b, fun j e => (by cases e), fun a e => (by cases e)⟩
theorem tv_str {K : PySem.W.Frag} {H : Hp} {d : Addr} {z : Str} : Tv K H d (.str z) := ⟨.str z, fun j e => (by cases e), fun a e => (by cases e)⟩
theorem tv_non {K : PySem.W.Frag} {H : Hp} {d : Addr} : Tv K H d .non := ⟨.non, fun j e => (by cases e), fun a e => (by cases e)⟩
theorem e58 : (10 : Int) ^ 58 = 10000000000000000000000000000000000000000000000000000000000 := by decide
theorem e41 : (10 : Int) ^ 41 = 100000000000000000000000000000000000000000 := by decide
theorem tv_l4 {K : PySem.W.Frag} {H : Hp} {d : Addr} {u : Rl} (h : SmF u) : ∀ v ∈ l4 u, Tv K H d v := fun v hv => by
  obtain ⟨⟨h1, h2, h3⟩, h4, h5⟩ := h
  rw [e41] at h4
  rw [e40] at h5
  unfold l4 at hv
  simp only [List.mem_cons, List.not_mem_nil, or_false] at hv
  rcases hv with rfl | rfl | rfl | rfl
  · exact tv_int (by rw [e58]; omega)
  · exact tv_int (by rw [e58]; omega)
  · exact tv_int (by rw [e58]; omega)
  · exact tv_bl
def spSpoilt (K : PySem.W.Frag) : Sp := fun vs H Q _ => ∃ (d p : Addr) (n : Nat) (u : Rl), vs = [.ref d, .ref p] ∧ p ≠ d ∧ H p = some (.lst (l4 u)) ∧ SmF u ∧ Dr PT d n H ∧ n ≤ 1000 ∧
  ∀ (H' : Hp) (o : Addr) (a b c e : V), H' o = some (.lst [a, b, c, e]) → Tv K H' d a → Tv K H' d b → Tv K H' d c → Tv K H' d e → o ≠ d → But d H H' → Dr PT d (n + 20) H' → Q (.ref o) H'
theorem ok_spoilt (T : Tx K mg) : FnOk P w K mg base CX0 3 T.A_spoilt T.fd_spoilt ["_law_well_here", "_law_four_here"] (spSpoilt K) := by
  refine T.F_spoilt.ok sc_spoilt (fun vs H Q E h => ?_) (fun cdv A outer s H vs Q E hr h => ?_)
  · obtain ⟨d, p, n, u, rfl, npd, hp, hu, dr, hn, q⟩ := h
    rfl
  obtain ⟨d, p, n, u, rfl, npd, hp, hu, dr, hn, q⟩ := h
  refine ⟨_, (pss_cons (ps_set (i := 2) sc_spoilt.nd rfl (Or.inl rfl) (pe_call (ok_draw T) (hr.mono (by decide)) (by rfl) T.g_draw T.F_draw.kp T.b_draw .nil pass0 (pa_cons (pv 0) (pa_cons pe_int pa_nil))))
      (pss_cons (ps_set (i := 3) sc_spoilt.nd rfl (Or.inl rfl) (pe_call (ok_draw T) (hr.mono (by decide)) (by rfl) T.g_draw T.F_draw.kp T.b_draw .nil pass0 (pa_cons (pv 0) (pa_cons (pe_op op_pow pe_int pe_int) pa_nil))))
      (pss_cons (ps_if (pt_cmpR op_eq (pv 2) pe_int (nomark _)) (pss_one (ps_ret (pe_op op_cat (pe_lst (pa_cons (pe_op op_add (pe_op op_add (pe_ix ix_list (pv 1) pe_int (fun _ _ => rfl)) pe_int) (pv 3)) (pa_cons (pe_op op_add (pe_ix ix_list (pv 1) pe_int (fun _ _ => rfl)) (pv 3)) pa_nil))) (pe_slice sl_list (pv 1) (po_some pe_int) po_none)))) pss_nil)
      (pss_cons (ps_set (i := 4) sc_spoilt.nd rfl (Or.inl rfl) (pe_lst (pa_cons (pe_un un_neg pe_int) (pa_cons (pe_op op_sub (pe_op op_sub pe_int pe_int) (pv 3)) (pa_cons pe_bl (pa_cons pe_bl (pa_cons pe_non (pa_cons pe_str (pa_cons (pe_tup (pa_cons pe_int pa_nil)) (pa_cons (pe_lst (pa_cons pe_int pa_nil)) (pa_cons pe_dnewK pa_nil)))))))))))
      (pss_cutJ (ps_if (pt_cmpR op_eq (pv 2) pe_int (nomark _)) (pss_one (ps_set (i := 4) sc_spoilt.nd rfl (Or.inl rfl) (pe_lst (pa_cons pe_int (pa_cons pe_int (pa_cons pe_non (pa_cons pe_str (pa_cons (pe_lst (pa_cons pe_bl pa_nil)) (pa_cons (pe_tup (pa_cons pe_bl pa_nil)) (pa_cons (pv 3) pa_nil)))))))))) pss_nil)
      (pss_one (ps_ret (pe_op op_cat (pe_op op_cat (pe_slice sl_list (pv 1) po_none (po_some (pv 2))) (pe_lst (pa_cons (pe_call (ok_one T) (hr.mono (by decide)) (by rfl) T.g_one T.F_one.kp T.b_one .nil pass0 (pa_cons (pv 0) (pa_cons (pv 4) pa_nil))) pa_nil))) (pe_slice sl_list (pv 1) (po_some (pe_op op_add (pv 2) pe_int)) po_none))))))))), ?_⟩
  obtain ⟨⟨h1, h2, h3⟩, h4, h5⟩ := id hu
  refine ⟨_, rfl, d, 5, n, rfl, by decide, log_tiny (by decide) (by decide), dr, by omega, fun H1 k a1 c1 b1 dr1 => ?_⟩
  refine ⟨_, rfl, _, _, rfl, rfl, ⟨by decide, by decide, by decide⟩, d, _, n + 1, rfl, by decide, log_small (by decide) (by decide), dr1, by omega, fun H2 m a2 c2 b2 dr2 => ?_⟩
  have e12 : (10 : Int) ^ (12 : Int).toNat = 1000000000000 := by decide
  rw [e12] at c2
  have b12 := b1.trans b2
  have hp2 := b12 _ _ npd hp
  rw [e41] at h4
  rw [e40] at h5
  refine ⟨_, rfl, rfl, _, rfl, ite2 (fun e => ?_) (fun e => ?_)⟩
  · refine ⟨_, rfl, p, _, _, _, rfl, rfl, SqL.of hp2, atI_nat (j := 0) rfl, _, _, rfl, rfl, _, rfl, _, _, rfl, rfl, ?_⟩
    refine ⟨_, rfl, p, _, _, _, rfl, rfl, SqL.of hp2, atI_nat (j := 0) rfl, _, rfl, _, _, rfl, rfl, (by show 2 ≤ sizeLine; decide), fun l hl => ?_⟩
    have z1 := same_upd hl (o := .lst [.int (u.lo + 1 + m), .int (u.lo + m)])
    refine ⟨_, rfl, _, rfl, p, _, rfl, SqL.of (z1 _ _ hp2), fun c hc => ?_⟩
    have z2 := same_upd hc (o := .lst [.int u.far, .bl u.shd])
    refine ⟨l, c, _, _, rfl, rfl, z2 _ _ upd_same, upd_same, (by show 4 ≤ sizeLine; decide), fun o ho => ?_⟩
    have z3 := same_upd ho (o := .lst [.int (u.lo + 1 + m), .int (u.lo + m), .int u.far, .bl u.shd])
    have zz := (z1.trans z2).trans z3
    have dr4 := dr2.same (z1.trans z2)
    have no := dr4.ne ho
    exact q _ o _ _ _ _ upd_same (tv_int (by rw [e58]; omega)) (tv_int (by rw [e58]; omega)) (tv_int (by rw [e58]; omega)) tv_bl no (b12.trans (But.of zz)) ((dr2.same zz).mono (by omega))
  · refine ⟨1, rfl, _, _, rfl, rfl, _, rfl, _, _, rfl, rfl, (by show 1 ≤ sizeLine; decide), fun t1 ht1 => ?_⟩
    refine ⟨(by show 1 ≤ sizeLine; decide), fun l1 hl1 => ?_⟩
    intro D1 hD1
    refine ⟨(by show 9 ≤ sizeLine; decide), fun o1 ho1 => ?_⟩
    have y1 := same_upd ht1 (o := .tup [.int 1])
    have y2 := same_upd hl1 (o := .lst [.int 1])
    have y3 := same_upd hD1 (o := .dK [])
    have y4 := same_upd ho1 (o := .lst [V.int (-1), V.int (0 - 1 - m), .bl true, .bl false, .non, .str "1", .ref t1, .ref l1, .ref D1])
    have nt1 := dr2.ne ht1
    have nl1 := (dr2.same y1).ne hl1
    have nD1 := (dr2.same (y1.trans y2)).ne hD1
    have no1 := (dr2.same ((y1.trans y2).trans y3)).ne ho1
    have y := ((y1.trans y2).trans y3).trans y4
    have t1T : TyX K (upd H2 t1 (.tup [.int 1])) (.ref t1) (.type "tuple") := .base (.tup upd_same)
    have l1T : TyX K (upd (upd H2 t1 (.tup [.int 1])) l1 (.lst [.int 1])) (.ref l1) (.type "list") := .base (.lst upd_same)
    have D1T : TyX K (upd (upd (upd H2 t1 (.tup [.int 1])) l1 (.lst [.int 1])) D1 (.dK [])) (.ref D1) (.type "dict") := .base (.dK upd_same)
    have nk4 : k ≠ 4 := fun z => e (decide_eq_true (by rw [z]))
    refine ⟨fun σ' H' => ∃ (o : Addr) (xs : List V), σ' = [some (.ref d), some (.ref p), some (.int k), some (.int m), some (.ref o)] ∧ H' o = some (.lst xs) ∧ (∀ v ∈ xs, Tv K H' d v) ∧ xs ≠ [] ∧ xs.length ≤ 1000 ∧ o ≠ d ∧ Same H2 H', ?_, ?_⟩
    · refine ⟨_, rfl, rfl, _, rfl, ite2 (fun e => ?_) (fun e => ?_)⟩
      · refine ⟨(by show 1 ≤ sizeLine; decide), fun l2 hl2 => ?_⟩
        refine ⟨(by show 1 ≤ sizeLine; decide), fun t2 ht2 => ?_⟩
        refine ⟨_, rfl, (by show 7 ≤ sizeLine; decide), fun o2 ho2 => ?_⟩
        have v1 := same_upd hl2 (o := .lst [.bl true])
        have v2 := same_upd ht2 (o := .tup [.bl false])
        have v3 := same_upd ho2 (o := .lst [.int 0, .int 1, .non, .str "True", .ref l2, .ref t2, .int m])
        have dr5 := dr2.same y
        have nl2 := dr5.ne hl2
        have nt2 := (dr5.same v1).ne ht2
        have no2 := (dr5.same (v1.trans v2)).ne ho2
        refine ⟨o2, _, rfl, upd_same, fun v hv => ?_, by simp, by show 7 ≤ 1000; decide, no2, y.trans ((v1.trans v2).trans v3)⟩
        simp only [List.mem_cons, List.not_mem_nil, or_false] at hv
        rcases hv with rfl | rfl | rfl | rfl | rfl | rfl | rfl
        · exact tv_int (by decide)
        · exact tv_int (by decide)
        · exact tv_non
        · exact tv_str
        · exact ⟨.lst (tyx_same (v2.trans v3) (.base (.lst upd_same))), fun j e => (by cases e), fun a e => by cases e; exact nl2⟩
        · exact ⟨.tup (tyx_same v3 (.base (.tup upd_same))), fun j e => (by cases e), fun a e => by cases e; exact nt2⟩
        · exact tv_int (by rw [e58]; omega)
      · refine ⟨o1, _, rfl, upd_same, fun v hv => ?_, by simp, by show 9 ≤ 1000; decide, no1, y⟩
        simp only [List.mem_cons, List.not_mem_nil, or_false] at hv
        rcases hv with rfl | rfl | rfl | rfl | rfl | rfl | rfl | rfl | rfl
        · exact tv_int (by decide)
        · exact tv_int (by rw [e58]; show 0 - 1 - m < _; omega)
        · exact tv_bl
        · exact tv_bl
        · exact tv_non
        · exact tv_str
        · exact ⟨.tup (tyx_same ((y2.trans y3).trans y4) t1T), fun j e => (by cases e), fun a e => by cases e; exact nt1⟩
        · exact ⟨.lst (tyx_same (y3.trans y4) l1T), fun j e => (by cases e), fun a e => by cases e; exact nl1⟩
        · exact ⟨.dct (tyx_same y4 D1T), fun j e => (by cases e), fun a e => by cases e; exact nD1⟩
    · rintro σ' H3 ⟨o, xs, rfl, eo, hx, hne, hlx, nod, s3⟩
      have hp3 := s3 _ _ hp2
      have dr3 := dr2.same s3
      refine ⟨_, rfl, _, rfl, _, rfl, p, _, rfl, SqL.of hp3, fun c1 hc1 => ?_⟩
      have nc1 := dr3.ne hc1
      have w1 := same_upd hc1 (o := .lst (cutV (l4 u) none (some k)))
      refine ⟨_, rfl, _, rfl, d, o, n + 1 + 1, xs, rfl, nod, SqL.of (w1 _ _ eo), hne, hlx, dr3.upd nc1, by omega, fun H4 v hv b4 dr4 => ?_⟩
      refine ⟨(by show 1 ≤ sizeLine; decide), fun m1 hm1 => ?_⟩
      have w2 := same_upd hm1 (o := .lst [v])
      have ec1 : upd H4 m1 (.lst [v]) c1 = some (.lst (cutV (l4 u) none (some k))) := w2 _ _ (b4 _ _ nc1 upd_same)
      have lc1 : (cutV (l4 u) none (some k)).length ≤ 4 := len_cut _ _ _
      refine ⟨c1, m1, _, _, rfl, rfl, ec1, upd_same, sz _ (by rw [List.length_singleton]; omega), fun m2 hm2 => ?_⟩
      have w3 := same_upd hm2 (o := .lst (cutV (l4 u) none (some k) ++ [v]))
      have b34 : But d H2 _ := ((But.of s3).trans ((But.of w1).trans b4)).trans (But.of (w2.trans w3))
      refine ⟨_, rfl, _, rfl, _, _, rfl, rfl, _, rfl, p, _, rfl, SqL.of (b34 _ _ npd hp2), fun c2 hc2 => ?_⟩
      have w4 := same_upd hc2 (o := .lst (cutV (l4 u) (some (k + 1)) none))
      have lc2 : (cutV (l4 u) (some (k + 1)) none).length ≤ 4 := len_cut _ _ _
      refine ⟨m2, c2, _, _, rfl, rfl, w4 _ _ upd_same, upd_same, sz _ (by rw [List.length_append, List.length_singleton]; omega), fun o2 ho2 => ?_⟩
      have w5 := same_upd ho2 (o := .lst (cutV (l4 u) none (some k) ++ [v] ++ cutV (l4 u) (some (k + 1)) none))
      have dr6 := dr4.same ((w2.trans w3).trans w4)
      have no2 := dr6.ne ho2
      have bfin := (b12.trans b34).trans (But.of (w4.trans w5))
      have tv : ∀ {K' : PySem.W.Frag}, Tv K _ d v := fun {_} => (((hx v hv).but ((But.of w1).trans b4)).same ((w2.trans w3).trans (w4.trans w5)))
      have t4 := tv_l4 (K := K) (H := upd (upd (upd (upd H4 m1 (.lst [v])) m2 (.lst (cutV (l4 u) none (some k) ++ [v]))) c2 (.lst (cutV (l4 u) (some (k + 1)) none))) o2 (.lst (cutV (l4 u) none (some k) ++ [v] ++ cutV (l4 u) (some (k + 1)) none))) (d := d) hu
      have dr7 := (dr6.same w5).mono (m := n + 20) (by omega)
      have hk : k = 0 ∨ k = 1 ∨ k = 2 ∨ k = 3 := by omega
      rcases hk with rfl | rfl | rfl | rfl
      · exact q _ o2 v (.int u.hi) (.int u.far) (.bl u.shd) upd_same (tv (K' := K)) (t4 _ (by simp [l4])) (t4 _ (by simp [l4])) (t4 _ (by simp [l4])) no2 bfin dr7
      · exact q _ o2 (.int u.lo) v (.int u.far) (.bl u.shd) upd_same (t4 _ (by simp [l4])) (tv (K' := K)) (t4 _ (by simp [l4])) (t4 _ (by simp [l4])) no2 bfin dr7
      · exact q _ o2 (.int u.lo) (.int u.hi) v (.bl u.shd) upd_same (t4 _ (by simp [l4])) (t4 _ (by simp [l4])) (tv (K' := K)) (t4 _ (by simp [l4])) no2 bfin dr7
      · exact q _ o2 (.int u.lo) (.int u.hi) (.int u.far) v upd_same (t4 _ (by simp [l4])) (t4 _ (by simp [l4])) (t4 _ (by simp [l4])) (tv (K' := K)) no2 bfin dr7
end
end KB
namespace KB
open PySem PySem.Spec PyProof.Rows L2 KA
section
variable {P : Program} {w : World} {K : PySem.W.Frag} {mg : Str → Option Value} {base : Heap}
def told : Nat → List Nat
  | 0 => [0, 1, 2, 3]
  | 1 => [0, 1, 2, 3]
  | 2 => [0, 1, 2]
  | 3 => [0, 1, 3]
  | 4 => [0]
  | 5 => [1]
  | 6 => [2]
  | 7 => [3]
  | _ => []
def fil (w k : Nat) (v p : V) : V := if (told w).contains k = true then v else p
def fils (w : Nat) (a b c d : V) : List V := [fil w 0 a (.int 0), fil w 1 b (.int 10), fil w 2 c (.int 0), fil w 3 d (.bl true)]
def asW (w : Nat) (a b c d : V) : Option Rl := asRl (fil w 0 a (.int 0)) (fil w 1 b (.int 10)) (fil w 2 c (.int 0)) (fil w 3 d (.bl true))
theorem wayT {w k : Int} {A B : Prop} (e : w = k) (h : A) : (if decide (V.int w = V.int k) = true then A else B) := by
  rw [decide_eq_true (by rw [e])]
  exact iteT h
theorem wayF {w k : Int} {A B : Prop} (e : w ≠ k) (h : B) : (if decide (V.int w = V.int k) = true then A else B) := by
  rw [decide_eq_false (fun z => e (by injection z))]
  exact iteF h
def spMade (K : PySem.W.Frag) (C CB : Addr) : Sp := fun vs H Q E => ∃ (n : Nat) (p : Addr) (a b c d : V), vs = [.int (n : Int), .ref p] ∧ n < 9 ∧ SqL K H p [a, b, c, d] ∧ Th K H a ∧ Th K H b ∧ Th K H c ∧ Th K H d ∧
  (∀ u, asW n a b c d = some u → ∀ (H' : Hp) (r : Addr), Same H H' → RuleAt C H' r u → Q (.ref r) H') ∧
  (asW n a b c d = none → ∀ (H' : Hp) (dd : Addr) (z : Str), Same H H' → H' dd = some (.xd [("why", .str z)]) → E (.ref CB) (some dd) H')
theorem ok_made (T : Tx K mg) : FnOk P w K mg base (L2.CX P w) 5 T.A_made T.fd_made ["_law_way", "_law_four_here"] (spMade K T.C_Rule T.C_BadRule) := by
  refine T.F_made.okX sc_made (fun vs H Q E h => ?_) (fun cdv A outer s H vs Q E hr h => ?_)
  · obtain ⟨n, p, a, b, c, d, rfl, hn, hS, ta, tb, tc, td, qy, qn⟩ := h
    rfl
  obtain ⟨n, p, a, b, c, d, rfl, hn, hS, ta, tb, tc, td, qy, qn⟩ := h
  refine ⟨_, (pss_cons (ps_if (pt_cmpR op_eq (pv 0) pe_int (nomark _)) (pss_one (ps_ret (pe_make T.mk_Rule (ok_Rule_init T) (hr.mono (by decide)) (by rfl) T.g_Rule T.b_Rule_init .nil (passes_call (takes_of rfl rfl rfl rfl) (fun _ _ _ _ h => h)) (pa_cons (pe_ix ix_list (pv 1) pe_int (fun _ _ => rfl)) (pa_cons (pe_ix ix_list (pv 1) pe_int (fun _ _ => rfl)) (pa_cons (pe_ix ix_list (pv 1) pe_int (fun _ _ => rfl)) (pa_cons (pe_ix ix_list (pv 1) pe_int (fun _ _ => rfl)) pa_nil))))))) pss_nil)
      (pss_cons (ps_if (pt_cmpR op_eq (pv 0) pe_int (nomark _)) (pss_one (ps_ret (pe_makeK0 T.mk_Rule (ok_Rule_init T) (hr.mono (by decide)) (by rfl) T.g_Rule T.kb_1 (passes_call (takes_of rfl rfl rfl rfl) (fun _ _ _ _ h => h)) (pk_cons (pe_ix ix_list (pv 1) pe_int (fun _ _ => rfl)) (pk_cons (pe_ix ix_list (pv 1) pe_int (fun _ _ => rfl)) (pk_cons (pe_ix ix_list (pv 1) pe_int (fun _ _ => rfl)) (pk_cons (pe_ix ix_list (pv 1) pe_int (fun _ _ => rfl)) pk_nil))))))) pss_nil)
      (pss_cons (ps_if (pt_cmpR op_eq (pv 0) pe_int (nomark _)) (pss_one (ps_ret (pe_makeN T.mk_Rule (ok_Rule_init T) (hr.mono (by decide)) (by rfl) T.g_Rule T.kb_2 (passes_call (takes_of rfl rfl rfl rfl) (fun _ _ _ _ h => h)) (pa_cons (pe_ix ix_list (pv 1) pe_int (fun _ _ => rfl)) pa_nil) (pk_cons (pe_ix ix_list (pv 1) pe_int (fun _ _ => rfl)) (pk_cons (pe_ix ix_list (pv 1) pe_int (fun _ _ => rfl)) pk_nil))))) pss_nil)
      (pss_cons (ps_if (pt_cmpR op_eq (pv 0) pe_int (nomark _)) (pss_one (ps_ret (pe_makeN T.mk_Rule (ok_Rule_init T) (hr.mono (by decide)) (by rfl) T.g_Rule T.kb_3 (passes_call (takes_of rfl rfl rfl rfl) (fun _ _ _ _ h => h)) (pa_cons (pe_ix ix_list (pv 1) pe_int (fun _ _ => rfl)) (pa_cons (pe_ix ix_list (pv 1) pe_int (fun _ _ => rfl)) pa_nil)) (pk_cons (pe_ix ix_list (pv 1) pe_int (fun _ _ => rfl)) pk_nil)))) pss_nil)
      (pss_cons (ps_if (pt_cmpR op_eq (pv 0) pe_int (nomark _)) (pss_one (ps_ret (pe_make T.mk_Rule (ok_Rule_init T) (hr.mono (by decide)) (by rfl) T.g_Rule T.bd1_Rule T.hd1_Rule (passes_call (takes_of rfl rfl rfl rfl) (fun _ _ _ _ h => h)) (pa_cons (pe_ix ix_list (pv 1) pe_int (fun _ _ => rfl)) pa_nil)))) pss_nil)
      (pss_cons (ps_if (pt_cmpR op_eq (pv 0) pe_int (nomark _)) (pss_one (ps_ret (pe_makeK0 T.mk_Rule (ok_Rule_init T) (hr.mono (by decide)) (by rfl) T.g_Rule T.kb_5 (passes_call (takes_of rfl rfl rfl rfl) (fun _ _ _ _ h => h)) (pk_cons (pe_ix ix_list (pv 1) pe_int (fun _ _ => rfl)) pk_nil)))) pss_nil)
      (pss_cons (ps_if (pt_cmpR op_eq (pv 0) pe_int (nomark _)) (pss_one (ps_ret (pe_makeK0 T.mk_Rule (ok_Rule_init T) (hr.mono (by decide)) (by rfl) T.g_Rule T.kb_6 (passes_call (takes_of rfl rfl rfl rfl) (fun _ _ _ _ h => h)) (pk_cons (pe_ix ix_list (pv 1) pe_int (fun _ _ => rfl)) pk_nil)))) pss_nil)
      (pss_cons (ps_if (pt_cmpR op_eq (pv 0) pe_int (nomark _)) (pss_one (ps_ret (pe_makeK0 T.mk_Rule (ok_Rule_init T) (hr.mono (by decide)) (by rfl) T.g_Rule T.kb_7 (passes_call (takes_of rfl rfl rfl rfl) (fun _ _ _ _ h => h)) (pk_cons (pe_ix ix_list (pv 1) pe_int (fun _ _ => rfl)) pk_nil)))) pss_nil)
      (pss_one (ps_ret (pe_make0 T.mk_Rule (ok_Rule_init T) (hr.mono (by decide)) (by rfl) T.g_Rule T.bd0_Rule T.hd0_Rule (passes_call (takes_of rfl rfl rfl rfl) (fun _ _ _ _ h => h))))))))))))), ?_⟩
  have fin : ∀ (x1 x2 x3 x4 : V), Th K H x1 → Th K H x2 → Th K H x3 → Th K H x4 → asRl x1 x2 x3 x4 = asW n a b c d → ∀ (r e : Addr), H r = none → H e = none → e ≠ r →
      spRule K T.C_Rule T.C_BadRule [.ref r, x1, x2, x3, x4] (upd (upd H e (.own r)) r (.ins T.C_Rule e [])) (fun v H' => v = .non ∧ Q (.ref r) H') E := fun x1 x2 x3 x4 t1 t2 t3 t4 eq r e hr' he hne => by
    have s0 : Same H (upd (upd H e (.own r)) r (.ins T.C_Rule e [])) := fun b o z => by rw [upd_ne (ne_of_none z hr'), upd_ne (ne_of_none z he)]; exact z
    refine ⟨r, e, x1, x2, x3, x4, rfl, upd_same, t1.same s0, t2.same s0, t3.same s0, t4.same s0, fun u hu H' hR k => ⟨rfl, ?_⟩, fun hu H' dd z s hdd => ?_⟩
    · exact qy u (by rw [← eq]; exact hu) H' r (fun b o z => k b o (s0 b o z) (ne_of_none z hr')) hR
    · exact qn (by rw [← eq]; exact hu) H' dd z (s0.trans s) hdd
  have i0 : Th K H (.int 0) := .int 0
  have i10 : Th K H (.int 10) := .int 10
  have it : Th K H (.bl true) := .bl true
  have g0 : atI [a, b, c, d] 0 = some a := rfl
  have g1 : atI [a, b, c, d] 1 = some b := rfl
  have g2 : atI [a, b, c, d] 2 = some c := rfl
  have g3 : atI [a, b, c, d] 3 = some d := rfl
  have hw : n = 0 ∨ n = 1 ∨ n = 2 ∨ n = 3 ∨ n = 4 ∨ n = 5 ∨ n = 6 ∨ n = 7 ∨ n = 8 := by omega
  rcases hw with rfl | rfl | rfl | rfl | rfl | rfl | rfl | rfl | rfl
  · refine ⟨_, rfl, rfl, _, rfl, wayT rfl ?_⟩
    refine ⟨_, rfl, p, _, _, _, rfl, rfl, hS, g0, _, rfl, p, _, _, _, rfl, rfl, hS, g1, _, rfl, p, _, _, _, rfl, rfl, hS, g2, _, rfl, p, _, _, _, rfl, rfl, hS, g3, ?_⟩
    exact fun r e h1 h2 h3 => fin a b c d ta tb tc td rfl r e h1 h2 h3
  · refine ⟨_, rfl, rfl, _, rfl, wayF (by decide) ⟨_, rfl, rfl, _, rfl, wayT rfl ?_⟩⟩
    refine ⟨_, rfl, p, _, _, _, rfl, rfl, hS, g3, _, rfl, p, _, _, _, rfl, rfl, hS, g2, _, rfl, p, _, _, _, rfl, rfl, hS, g1, _, rfl, p, _, _, _, rfl, rfl, hS, g0, ?_⟩
    exact ⟨rfl, rfl, fun r e h1 h2 h3 => fin a b c d ta tb tc td rfl r e h1 h2 h3⟩
  · refine ⟨_, rfl, rfl, _, rfl, wayF (by decide) ⟨_, rfl, rfl, _, rfl, wayF (by decide) ⟨_, rfl, rfl, _, rfl, wayT rfl ?_⟩⟩⟩
    refine ⟨_, rfl, p, _, _, _, rfl, rfl, hS, g0, _, rfl, p, _, _, _, rfl, rfl, hS, g2, _, rfl, p, _, _, _, rfl, rfl, hS, g1, ?_⟩
    exact ⟨rfl, rfl, fun r e h1 h2 h3 => fin a b c (.bl true) ta tb tc it rfl r e h1 h2 h3⟩
  · refine ⟨_, rfl, rfl, _, rfl, wayF (by decide) ⟨_, rfl, rfl, _, rfl, wayF (by decide) ⟨_, rfl, rfl, _, rfl, wayF (by decide) ⟨_, rfl, rfl, _, rfl, wayT rfl ?_⟩⟩⟩⟩
    refine ⟨_, rfl, p, _, _, _, rfl, rfl, hS, g0, _, rfl, p, _, _, _, rfl, rfl, hS, g1, _, rfl, p, _, _, _, rfl, rfl, hS, g3, ?_⟩
    exact ⟨rfl, rfl, fun r e h1 h2 h3 => fin a b (.int 0) d ta tb i0 td rfl r e h1 h2 h3⟩
  · refine ⟨_, rfl, rfl, _, rfl, wayF (by decide) ⟨_, rfl, rfl, _, rfl, wayF (by decide) ⟨_, rfl, rfl, _, rfl, wayF (by decide) ⟨_, rfl, rfl, _, rfl, wayF (by decide) ⟨_, rfl, rfl, _, rfl, wayT rfl ?_⟩⟩⟩⟩⟩
    refine ⟨_, rfl, p, _, _, _, rfl, rfl, hS, g0, ?_⟩
    exact fun r e h1 h2 h3 => fin a (.int 10) (.int 0) (.bl true) ta i10 i0 it rfl r e h1 h2 h3
  · refine ⟨_, rfl, rfl, _, rfl, wayF (by decide) ⟨_, rfl, rfl, _, rfl, wayF (by decide) ⟨_, rfl, rfl, _, rfl, wayF (by decide) ⟨_, rfl, rfl, _, rfl, wayF (by decide) ⟨_, rfl, rfl, _, rfl, wayF (by decide) ⟨_, rfl, rfl, _, rfl, wayT rfl ?_⟩⟩⟩⟩⟩⟩
    refine ⟨_, rfl, p, _, _, _, rfl, rfl, hS, g1, ?_⟩
    exact ⟨rfl, rfl, fun r e h1 h2 h3 => fin (.int 0) b (.int 0) (.bl true) i0 tb i0 it rfl r e h1 h2 h3⟩
  · refine ⟨_, rfl, rfl, _, rfl, wayF (by decide) ⟨_, rfl, rfl, _, rfl, wayF (by decide) ⟨_, rfl, rfl, _, rfl, wayF (by decide) ⟨_, rfl, rfl, _, rfl, wayF (by decide) ⟨_, rfl, rfl, _, rfl, wayF (by decide) ⟨_, rfl, rfl, _, rfl, wayF (by decide) ⟨_, rfl, rfl, _, rfl, wayT rfl ?_⟩⟩⟩⟩⟩⟩⟩
    refine ⟨_, rfl, p, _, _, _, rfl, rfl, hS, g2, ?_⟩
    exact ⟨rfl, rfl, fun r e h1 h2 h3 => fin (.int 0) (.int 10) c (.bl true) i0 i10 tc it rfl r e h1 h2 h3⟩
  · refine ⟨_, rfl, rfl, _, rfl, wayF (by decide) ⟨_, rfl, rfl, _, rfl, wayF (by decide) ⟨_, rfl, rfl, _, rfl, wayF (by decide) ⟨_, rfl, rfl, _, rfl, wayF (by decide) ⟨_, rfl, rfl, _, rfl, wayF (by decide) ⟨_, rfl, rfl, _, rfl, wayF (by decide) ⟨_, rfl, rfl, _, rfl, wayF (by decide) ⟨_, rfl, rfl, _, rfl, wayT rfl ?_⟩⟩⟩⟩⟩⟩⟩⟩
    refine ⟨_, rfl, p, _, _, _, rfl, rfl, hS, g3, ?_⟩
    exact ⟨rfl, rfl, fun r e h1 h2 h3 => fin (.int 0) (.int 10) (.int 0) d i0 i10 i0 td rfl r e h1 h2 h3⟩
  · refine ⟨_, rfl, rfl, _, rfl, wayF (by decide) ⟨_, rfl, rfl, _, rfl, wayF (by decide) ⟨_, rfl, rfl, _, rfl, wayF (by decide) ⟨_, rfl, rfl, _, rfl, wayF (by decide) ⟨_, rfl, rfl, _, rfl, wayF (by decide) ⟨_, rfl, rfl, _, rfl, wayF (by decide) ⟨_, rfl, rfl, _, rfl, wayF (by decide) ⟨_, rfl, rfl, _, rfl, wayF (by decide) ?_⟩⟩⟩⟩⟩⟩⟩⟩
    exact fun r e h1 h2 h3 => fin (.int 0) (.int 10) (.int 0) (.bl true) i0 i10 i0 it rfl r e h1 h2 h3
def spFilled (K : PySem.W.Frag) : Sp := fun vs H Q _ => ∃ (n : Nat) (p : Addr) (a b c d : V), vs = [.int (n : Int), .ref p] ∧ n < 9 ∧ SqL K H p [a, b, c, d] ∧
  ∀ (H' : Hp) (o : Addr), H' o = some (.lst (fils n a b c d)) → H o = none → Same H H' → Q (.ref o) H'
theorem ok_filled (T : Tx K mg) : FnOk P w K mg base CX0 1 T.A_filled T.fd_filled ["_law_way", "_law_four_here"] (spFilled K) := by
  refine T.F_filled.ok sc_filled (fun vs H Q E h => ?_) (fun cdv A outer s H vs Q E hr h => ?_)
  · obtain ⟨n, p, a, b, c, d, rfl, hn, hS, q⟩ := h
    rfl
  obtain ⟨n, p, a, b, c, d, rfl, hn, hS, q⟩ := h
  refine ⟨_, (pss_cons (ps_set (i := 2) sc_filled.nd rfl (Or.inr rfl) (pe_lst (pa_cons pe_int (pa_cons pe_int (pa_cons pe_int (pa_cons pe_bl pa_nil))))))
      (pss_cons (ps_set (i := 3) sc_filled.nd rfl (Or.inr rfl) (pe_ix ix_list (pe_lst (pa_cons (pe_lst (pa_cons pe_int (pa_cons pe_int (pa_cons pe_int (pa_cons pe_int pa_nil))))) (pa_cons (pe_lst (pa_cons pe_int (pa_cons pe_int (pa_cons pe_int (pa_cons pe_int pa_nil))))) (pa_cons (pe_lst (pa_cons pe_int (pa_cons pe_int (pa_cons pe_int pa_nil)))) (pa_cons (pe_lst (pa_cons pe_int (pa_cons pe_int (pa_cons pe_int pa_nil)))) (pa_cons (pe_lst (pa_cons pe_int pa_nil)) (pa_cons (pe_lst (pa_cons pe_int pa_nil)) (pa_cons (pe_lst (pa_cons pe_int pa_nil)) (pa_cons (pe_lst (pa_cons pe_int pa_nil)) (pa_cons (pe_lst pa_nil) pa_nil)))))))))) (pv 0) (fun _ _ => rfl)))
      (pss_one (ps_ret (pe_lc (own := [("_law_k", 4)]) (g := gName 4) (tt := tYes) rfl sc_filled.nd (pi_range1 (by rfl) T.z_range (pa_cons pe_int pa_nil)) (blkOk_by (N := ["_law_way", "_law_four_here", "_law_plain", "_law_told", "_law_k"]) (sc := defScope s_filled) (by decide +kernel)) (fun _ _ _ _ _ => (pg_name (i := 4) sc_filled.nd rfl (Or.inl rfl))) (fun _ _ _ _ _ => pts_nil) (fun _ _ _ _ _ => (pe_ix (ix_listK (K' := K) rfl) (pe_lst (pa_cons (pe_ix (ix_listK (K' := K) rfl) (pv 2) (pv 4) (fun _ _ => rfl)) (pa_cons (pe_ix (ix_listK (K' := K) rfl) (pv 1) (pv 4) (fun _ _ => rfl)) pa_nil))) (pe_callTy call_int1 (by rfl) T.z_int (by decide +kernel) (pa_cons (pe_cmpR (op_in_seqK (K' := K) rfl) (pv 4) (pv 3) (by rfl)) pa_nil)) (fun _ _ => rfl)))))))), ?_⟩
  refine ⟨(by show 4 ≤ sizeLine; decide), fun pl hpl => ?_⟩
  have r0 := same_upd hpl (o := .lst [.int 0, .int 10, .int 0, .bl true])
  refine ⟨(by show 4 ≤ sizeLine; decide), fun l0 h0 => ?_⟩
  have m0 := same_upd h0 (o := .lst [.int 0, .int 1, .int 2, .int 3])
  refine ⟨(by show 4 ≤ sizeLine; decide), fun l1 h1 => ?_⟩
  have m1 := same_upd h1 (o := .lst [.int 0, .int 1, .int 2, .int 3])
  refine ⟨(by show 3 ≤ sizeLine; decide), fun l2 h2 => ?_⟩
  have m2 := same_upd h2 (o := .lst [.int 0, .int 1, .int 2])
  refine ⟨(by show 3 ≤ sizeLine; decide), fun l3 h3 => ?_⟩
  have m3 := same_upd h3 (o := .lst [.int 0, .int 1, .int 3])
  refine ⟨(by show 1 ≤ sizeLine; decide), fun l4 h4 => ?_⟩
  have m4 := same_upd h4 (o := .lst [.int 0])
  refine ⟨(by show 1 ≤ sizeLine; decide), fun l5 h5 => ?_⟩
  have m5 := same_upd h5 (o := .lst [.int 1])
  refine ⟨(by show 1 ≤ sizeLine; decide), fun l6 h6 => ?_⟩
  have m6 := same_upd h6 (o := .lst [.int 2])
  refine ⟨(by show 1 ≤ sizeLine; decide), fun l7 h7 => ?_⟩
  have m7 := same_upd h7 (o := .lst [.int 3])
  refine ⟨(by show 0 ≤ sizeLine; decide), fun l8 h8 => ?_⟩
  have m8 := same_upd h8 (o := .lst [])
  refine ⟨(by show 9 ≤ sizeLine; decide), fun o ho => ?_⟩
  have mo := same_upd ho (o := .lst [.ref l0, .ref l1, .ref l2, .ref l3, .ref l4, .ref l5, .ref l6, .ref l7, .ref l8])
  obtain ⟨tl, hat, htl⟩ : ∃ tl, atI [V.ref l0, V.ref l1, V.ref l2, V.ref l3, V.ref l4, V.ref l5, V.ref l6, V.ref l7, V.ref l8] (n : Int) = some (.ref tl) ∧ (upd ((upd (upd (upd (upd (upd (upd (upd (upd (upd (upd H pl (.lst [.int 0, .int 10, .int 0, .bl true])) l0 (.lst [.int 0, .int 1, .int 2, .int 3])) l1 (.lst [.int 0, .int 1, .int 2, .int 3])) l2 (.lst [.int 0, .int 1, .int 2])) l3 (.lst [.int 0, .int 1, .int 3])) l4 (.lst [.int 0])) l5 (.lst [.int 1])) l6 (.lst [.int 2])) l7 (.lst [.int 3])) l8 (.lst []))) o (.lst [.ref l0, .ref l1, .ref l2, .ref l3, .ref l4, .ref l5, .ref l6, .ref l7, .ref l8])) tl = some (.lst ((told n).map fun (j : Nat) => V.int (j : Int))) := by
    have hw : n = 0 ∨ n = 1 ∨ n = 2 ∨ n = 3 ∨ n = 4 ∨ n = 5 ∨ n = 6 ∨ n = 7 ∨ n = 8 := by omega
    rcases hw with rfl | rfl | rfl | rfl | rfl | rfl | rfl | rfl | rfl
    · exact ⟨l0, rfl, (((((((((m1).trans m2).trans m3).trans m4).trans m5).trans m6).trans m7).trans m8).trans mo) _ _ upd_same⟩
    · exact ⟨l1, rfl, ((((((((m2).trans m3).trans m4).trans m5).trans m6).trans m7).trans m8).trans mo) _ _ upd_same⟩
    · exact ⟨l2, rfl, (((((((m3).trans m4).trans m5).trans m6).trans m7).trans m8).trans mo) _ _ upd_same⟩
    · exact ⟨l3, rfl, ((((((m4).trans m5).trans m6).trans m7).trans m8).trans mo) _ _ upd_same⟩
    · exact ⟨l4, rfl, (((((m5).trans m6).trans m7).trans m8).trans mo) _ _ upd_same⟩
    · exact ⟨l5, rfl, ((((m6).trans m7).trans m8).trans mo) _ _ upd_same⟩
    · exact ⟨l6, rfl, (((m7).trans m8).trans mo) _ _ upd_same⟩
    · exact ⟨l7, rfl, ((m8).trans mo) _ _ upd_same⟩
    · exact ⟨l8, rfl, (mo) _ _ upd_same⟩
  refine ⟨_, rfl, o, _, _, _, rfl, rfl, SqL.of upd_same, hat, ?_⟩
  have s0 := ((((((((((r0).trans m0).trans m1).trans m2).trans m3).trans m4).trans m5).trans m6).trans m7).trans m8).trans mo
  have hplx := ((((((((((m0).trans m1).trans m2).trans m3).trans m4).trans m5).trans m6).trans m7).trans m8).trans mo) _ _ (show (upd H pl (.lst [.int 0, .int 10, .int 0, .bl true])) pl = _ from upd_same)
  have hS0 := s0.seq hS
  generalize upd _ o (.lst _) = H0 at *
  refine ⟨_, rfl, by decide, by decide, fun D hD => ?_⟩
  refine lc_genR (n := (4 : Int).toNat) hD (by decide) (fun j v _ => (fils n a b c d)[j]? = some v) (fun j v _ _ _ h => h) ?_ ?_
  · intro i H2 R C hi s2 hR
    have ei : (0 : Int) + (i : Int) = (i : Int) := by omega
    rw [ei]
    have hi : i < 4 := hi
    obtain ⟨x, y, gx, gy, gf⟩ : ∃ x y : V, [V.int 0, V.int 10, V.int 0, V.bl true][i]? = some x ∧ [a, b, c, d][i]? = some y ∧ (fils n a b c d)[i]? = some (fil n i y x) := by
      have : i = 0 ∨ i = 1 ∨ i = 2 ∨ i = 3 := by omega
      rcases this with rfl | rfl | rfl | rfl
      · exact ⟨_, _, rfl, rfl, rfl⟩
      · exact ⟨_, _, rfl, rfl, rfl⟩
      · exact ⟨_, _, rfl, rfl, rfl⟩
      · exact ⟨_, _, rfl, rfl, rfl⟩
    refine ⟨rfl, yesT ⟨_, rfl, _, rfl, pl, _, _, _, rfl, rfl, SqL.of (s2 _ _ hplx), atI_nat gx, _, rfl, _, rfl, p, _, _, _, rfl, rfl, s2.seq hS0, atI_nat gy, (by show 2 ≤ sizeLine; decide), fun l hl => ?_⟩⟩
    have s3 := same_upd hl (o := .lst [x, y])
    refine ⟨_, rfl, _, rfl, tl, _, rfl, .inl (SqL.of (s3 _ _ (s2 _ _ htl))), rfl, flat_ints _, .inr ⟨_, rfl, ?_⟩⟩
    rw [if_neg Bool.false_ne_true, in_ints]
    refine ⟨l, _, _, fil n i y x, rfl, rfl, SqL.of upd_same, ?_, hR _ _ s3 gf⟩
    unfold fil
    by_cases h : i ∈ told n
    · rw [decide_eq_true h, if_pos (List.contains_iff_mem.mpr h)]
      rfl
    · rw [decide_eq_false h, if_neg (fun z => h (List.contains_iff_mem.mp z))]
      rfl
  · intro H' acc s4 e4 l4' g4
    have ea : acc = fils n a b c d := by
      refine List.ext_getElem? fun j => ?_
      by_cases hj : j < acc.length
      · rw [List.getElem?_eq_getElem hj]
        exact (g4 j _ (List.getElem?_eq_getElem hj)).symm
      · rw [List.getElem?_eq_none (by omega), List.getElem?_eq_none]
        show 4 ≤ j
        have : acc.length = 4 := l4'
        omega
    subst ea
    exact q H' D e4 (s0.free hD) (s0.trans s4)
end
end KB
namespace KB
open PySem PySem.Spec PyProof.Rows L2 KA
section
variable {P : Program} {w : World} {K : PySem.W.Frag} {mg : Str → Option Value} {base : Heap}
def spIsRule (K : PySem.W.Frag) : Sp := fun vs H Q _ => ∃ (p : Addr) (a b c d : V), vs = [.ref p] ∧ SqL K H p [a, b, c, d] ∧ Th K H a ∧ Th K H b ∧ Th K H c ∧ Th K H d ∧ ∀ H', Same H H' → Q (.bl (asRl a b c d).isSome) H'
theorem ok_is_rule (T : Tx K mg) : FnOk P w K mg base CX0 1 T.A_is_rule T.fd_is_rule ["_law_four_here"] (spIsRule K) := by
  refine T.F_is_rule.ok sc_is_rule (fun vs H Q E h => ?_) (fun cdv A outer s H vs Q E hr h => ?_)
  · obtain ⟨p, a, b, c, d, rfl, hS, ta, tb, tc, td, q⟩ := h
    rfl
  obtain ⟨p, a, b, c, d, rfl, hS, ta, tb, tc, td, q⟩ := h
  refine ⟨_, (pss_cons (ps_for PassesOwn.never rfl (pi_list (pe_slice sl_list (pv 0) po_none (po_some pe_int))) (pg_name (i := 1) sc_is_rule.nd rfl (Or.inl rfl))
        (pss_one (ps_if (PW.pt (pw_or (pt_not (pt_val (pe_callB call_isi (by rfl) T.z_isinstance (by decide +kernel) (pa_cons (pv 1) (pa_cons (pe_bltn (v := .ty "int") (by rfl) T.z_int (by decide +kernel) rfl) pa_nil))))) (pw_or (pt_val (pe_callB call_isi (by rfl) T.z_isinstance (by decide +kernel) (pa_cons (pv 1) (pa_cons (pe_bltn (v := .ty "bool") (by rfl) T.z_bool (by decide +kernel) rfl) pa_nil)))) (pw_or1 (pt_cmpR op_lt (pv 1) pe_int (nomark _)))))) (pss_one (ps_ret pe_bl)) pss_nil)))
      (pss_one (ps_ret (pe_and (pe_cmpR op_le (pe_ix ix_list (pv 0) pe_int (fun _ _ => rfl)) (pe_ix ix_list (pv 0) pe_int (fun _ _ => rfl)) (nomark _)) (pe_one (pe_callB call_isi (by rfl) T.z_isinstance (by decide +kernel) (pa_cons (pe_ix ix_list (pv 0) pe_int (fun _ _ => rfl)) (pa_cons (pe_bltn (v := .ty "bool") (by rfl) T.z_bool (by decide +kernel) rfl) pa_nil)))))))), ?_⟩
  refine ⟨_, rfl, _, rfl, p, _, rfl, hS, fun c1 hc1 => ?_⟩
  have s1 : Same H (upd H c1 (.lst [a, b, c])) := same_upd hc1
  refine ⟨c1, rfl, ⟨_, SqL.of upd_same⟩, for_list (K := K) (a := c1) (xs := [a, b, c]) (fun i σ H' => ∃ w1, σ = [some (.ref p), w1] ∧ H' = upd H c1 (.lst [a, b, c]) ∧ ∀ j v, j < i → [a, b, c][j]? = some v → frn v = true) ⟨_, rfl, rfl, fun j v hj => absurd hj (Nat.not_lt_zero _)⟩ (fun i σ H' _ h => ?_) ?_ ?_⟩
  · obtain ⟨_, _, rfl, _⟩ := h
    exact SqL.of upd_same
  · rintro i x σ H' hx ⟨w1, rfl, rfl, hv⟩
    have tx : Th K H x := by
      have : i < 3 := (List.getElem?_eq_some_iff.mp hx).1
      have : i = 0 ∨ i = 1 ∨ i = 2 := by omega
      rcases this with rfl | rfl | rfl
      · cases hx; exact ta
      · cases hx; exact tb
      · cases hx; exact tc
    have bad : frn x = false → asRl a b c d = none := fun h => by
      have : i < 3 := (List.getElem?_eq_some_iff.mp hx).1
      have : i = 0 ∨ i = 1 ∨ i = 2 := by omega
      rcases this with rfl | rfl | rfl
      · cases hx; exact asRl_a h
      · cases hx; exact asRl_b h
      · cases hx; exact asRl_c h
    have out : frn x = false → Q (.bl false) (upd H c1 (.lst [a, b, c])) := fun h => by
      have := q _ s1
      rw [bad h] at this
      exact this
    have tx1 := tx.same s1
    obtain ⟨t1, ty1, k1⟩ := isi_int tx1
    obtain ⟨t2, ty2, k2⟩ := isi_bool tx1
    refine ⟨_, rfl, x, _, t1, _, _, rfl, .ty _, ty1, k1, _, rfl, ite2 (fun e => ?_) (fun e => ?_)⟩
    · exact out (by cases x <;> simp_all [isI, isB, frn])
    refine ⟨_, rfl, x, _, t2, _, _, rfl, .ty _, ty2, k2, _, rfl, ite2 (fun e2 => ?_) (fun e2 => ?_)⟩
    · exact out (by cases x <;> simp_all [isI, isB, frn])
    obtain ⟨m, rfl⟩ : ∃ m, x = .int m := by cases x <;> simp_all [isI, isB]
    refine ⟨_, rfl, _, _, rfl, rfl, _, rfl, ite2 (fun e3 => ?_) (fun e3 => ?_)⟩
    · exact out (decide_eq_false (by have := of_decide_eq_true e3; omega))
    · refine ⟨_, rfl, rfl, fun j v hj hjv => ?_⟩
      by_cases z : j = i
      · subst z
        rw [hx] at hjv
        cases hjv
        exact decide_eq_true (by have : ¬ m < 0 := fun k => e3 (decide_eq_true k); omega)
      · exact hv j v (by omega) hjv
  · rintro σ H' ⟨w1, rfl, rfl, hv⟩
    obtain ⟨x, rfl, hx⟩ := frn_int (hv 0 a (by show 0 < 3; decide) rfl)
    obtain ⟨y, rfl, hy⟩ := frn_int (hv 1 b (by show 1 < 3; decide) rfl)
    obtain ⟨z, rfl, hz⟩ := frn_int (hv 2 c (by show 2 < 3; decide) rfl)
    have hS1 := s1.seq hS
    refine ⟨_, rfl, p, _, _, _, rfl, rfl, hS1, atI_nat (j := 0) rfl, _, rfl, p, _, _, _, rfl, rfl, hS1, atI_nat (j := 1) rfl, _, _, rfl, rfl, _, rfl, ite2 (fun e => ?_) (fun e => ?_)⟩
    · have hxy := of_decide_eq_true e
      obtain ⟨t2, ty2, k2⟩ := isi_bool (td.same s1)
      refine ⟨_, rfl, p, _, _, _, rfl, rfl, hS1, atI_nat (j := 3) rfl, d, _, t2, _, _, rfl, .ty _, ty2, k2, ?_⟩
      have := q _ s1
      have ee : (asRl (.int x) (.int y) (.int z) d).isSome = isB d := by
        cases d with
        | bl t => rw [show asRl (.int x) (.int y) (.int z) (.bl t) = some ⟨x, y, z, t⟩ from if_pos ⟨hx, hxy, hz⟩]; rfl
        | _ => rfl
      rw [ee] at this
      exact this
    · have hxy : ¬ x ≤ y := fun k => e (decide_eq_true k)
      have := q _ s1
      have ee : asRl (.int x) (.int y) (.int z) d = none := by
        cases eq : asRl (.int x) (.int y) (.int z) d with
        | none => rfl
        | some u =>
          obtain ⟨h1, h2, _, _, g⟩ := asRl_some eq
          injection h1 with h1
          injection h2 with h2
          have := g.2.1
          omega
      rw [ee] at this
      exact this
def refusedV : List V := [.str "refused", .bl true, .bl true, .bl false, .bl true]
def spDue (K : PySem.W.Frag) : Sp := fun vs H Q _ => ∃ (p : Addr) (a b c d : V), vs = [.ref p] ∧ SqL K H p [a, b, c, d] ∧ Th K H a ∧ Th K H b ∧ Th K H c ∧ Th K H d ∧
  (∀ u, asRl a b c d = some u → SmallRl u ∧ ∀ (H' : Hp) (t : Addr), Same H H' → H' t = some (.tup [.str "made", .ref p, .str (ruleText u)]) → Q (.ref t) H') ∧
  (asRl a b c d = none → ∀ (H' : Hp) (t : Addr), Same H H' → H' t = some (.tup refusedV) → Q (.ref t) H')
theorem ok_due (T : Tx K mg) : FnOk P w K mg base CX0 2 T.A_due T.fd_due ["_law_four_here"] (spDue K) := by
  refine T.F_due.ok sc_due (fun vs H Q E h => ?_) (fun cdv A outer s H vs Q E hr h => ?_)
  · obtain ⟨p, a, b, c, d, rfl, hS, ta, tb, tc, td, qy, qn⟩ := h
    rfl
  obtain ⟨p, a, b, c, d, rfl, hS, ta, tb, tc, td, qy, qn⟩ := h
  refine ⟨_, (pss_cons (ps_if (pt_not (pt_val (pe_call (ok_is_rule T) (hr.mono (by decide)) (by rfl) T.g_is_rule T.F_is_rule.kp T.b_is_rule .nil pass0 (pa_cons (pv 0) pa_nil)))) (pss_one (ps_ret (pe_tup (pa_cons pe_str (pa_cons pe_bl (pa_cons pe_bl (pa_cons pe_bl (pa_cons pe_bl pa_nil)))))))) pss_nil)
      (pss_cons (ps_set (i := 1) sc_due.nd rfl (Or.inl rfl) (pe_joined (PJ.cons pe_str (PJ.cons (pe_fmtB (pe_ix ix_list (pv 0) pe_int (fun _ _ => rfl))) (PJ.cons pe_str (PJ.cons (pe_fmtB (pe_ix ix_list (pv 0) pe_int (fun _ _ => rfl))) (PJ.cons pe_str PJ.nil)))))))
      (pss_one (ps_ret (pe_tup (pa_cons pe_str (pa_cons (pv 0) (pa_cons (pe_op op_add_str (pv 1) (pe_joined (PJ.cons pe_str (PJ.cons (pe_fmtB (pe_ix ix_list (pv 0) pe_int (fun _ _ => rfl))) (PJ.cons pe_str (PJ.cons (pe_fmtB (pe_ix ix_list (pv 0) pe_int (fun _ _ => rfl))) (PJ.cons pe_str PJ.nil))))))) pa_nil)))))))), ?_⟩
  refine ⟨_, rfl, p, a, b, c, d, rfl, hS, ta, tb, tc, td, fun H1 s1 => ⟨_, rfl, ?_⟩⟩
  cases eq : asRl a b c d with
  | none =>
    refine iteT ⟨(by show 5 ≤ sizeLine; decide), fun t ht => ?_⟩
    exact qn eq _ t (s1.trans (same_upd ht)) upd_same
  | some u =>
    obtain ⟨sm, qy'⟩ := qy u eq
    obtain ⟨rfl, rfl, rfl, rfl, g⟩ := asRl_some eq
    refine iteF ?_
    have hS1 := s1.seq hS
    obtain ⟨⟨g1, g2, g3⟩, g4, g5⟩ := sm
    have n1 := num_le g1 (by omega)
    have n2 := num_le (n := u.hi) (by omega) g4
    have n3 := num_le g3 g5
    have c0 : Str.empty.length ≤ 0 := by decide +kernel
    have c1 := app_le c0 (show ("Rule(least=" : Str).length ≤ 20 by decide +kernel)
    have c2 := app_le c1 n1
    have c3 := app_le c2 (show (", most=" : Str).length ≤ 20 by decide +kernel)
    have c4 := app_le c3 n2
    have c5 := app_le c4 (show (", " : Str).length ≤ 20 by decide +kernel)
    have d1 := app_le c0 (show ("match=" : Str).length ≤ 20 by decide +kernel)
    have d2 := app_le d1 n3
    have d3 := app_le d2 (show (", shades=" : Str).length ≤ 20 by decide +kernel)
    have d4 := app_le d3 (shB_le u.shd)
    have d5 := app_le d4 (show (")" : Str).length ≤ 20 by decide +kernel)
    refine ⟨_, rfl, fit c1, _, rfl, p, _, _, _, rfl, rfl, hS1, atI_nat (j := 0) rfl, .inr (.inl ⟨_, rfl, num_log g1 (by omega), _, rfl, fit c2, ?_⟩)⟩
    refine ⟨_, rfl, fit c3, _, rfl, p, _, _, _, rfl, rfl, hS1, atI_nat (j := 1) rfl, .inr (.inl ⟨_, rfl, num_log (by omega) g4, _, rfl, fit c4, ?_⟩)⟩
    refine ⟨_, rfl, fit c5, ?_⟩
    refine ⟨_, rfl, _, rfl, _, rfl, fit d1, _, rfl, p, _, _, _, rfl, rfl, hS1, atI_nat (j := 2) rfl, .inr (.inl ⟨_, rfl, num_log g3 g5, _, rfl, fit d2, ?_⟩)⟩
    refine ⟨_, rfl, fit d3, _, rfl, p, _, _, _, rfl, rfl, hS1, atI_nat (j := 3) rfl, .inr (.inr ⟨_, rfl, _, rfl, fit d4, ?_⟩)⟩
    refine ⟨_, rfl, fit d5, _, _, rfl, rfl, sz _ (Nat.le_trans (Nat.add_le_add c5 d5) (by decide)), (by show 3 ≤ sizeLine; decide), fun t ht => ?_⟩
    refine qy' _ t (s1.trans (same_upd ht)) ?_
    rw [upd_same]
    have e : (Str.empty ++ "Rule(least=" ++ Str.ofString (toString u.lo) ++ ", most=" ++ Str.ofString (toString u.hi) ++ ", ") ++ (Str.empty ++ "match=" ++ Str.ofString (toString u.far) ++ ", shades=" ++ shB u.shd ++ ")") = ruleText u := by
      unfold ruleText
      have ec : (", match=" : Str) = ", " ++ "match=" := by decide +kernel
      rw [ec]
      simp only [Str.append_assoc, Str.empty_append]
    rw [← e]
    rfl
def spOneMade (K : PySem.W.Frag) : Sp := fun vs H Q _ => ∃ (n : Nat) (p : Addr) (a b c d : V), vs = [.int (n : Int), .ref p] ∧ n < 9 ∧ SqL K H p [a, b, c, d] ∧ Th K H a ∧ Th K H b ∧ Th K H c ∧ Th K H d ∧
  (∀ u, asW n a b c d = some u → SmallRl u ∧ ∀ (H' : Hp) (t l : Addr), Same H H' → H' t = some (.tup [.str "made", .ref l, .str (ruleText u)]) → H' l = some (.lst (l4 u)) → Q (.ref t) H') ∧
  (asW n a b c d = none → ∀ (H' : Hp) (t : Addr), Same H H' → H' t = some (.tup refusedV) → Q (.ref t) H')
theorem ok_one_made (T : Tx K mg) : FnOk P w K mg base CX0 8 T.A_one_made T.fd_one_made ["_law_way", "_law_four_here"] (spOneMade K) := by
  refine T.F_one_made.ok sc_one_made (fun vs H Q E h => ?_) (fun cdv A outer s H vs Q E hr h => ?_)
  · obtain ⟨n, p, a, b, c, d, rfl, hn, hS, ta, tb, tc, td, qy, qn⟩ := h
    rfl
  obtain ⟨n, p, a, b, c, d, rfl, hn, hS, ta, tb, tc, td, qy, qn⟩ := h
  refine ⟨_, (pss_cons (ps_try_as (i := 3) rfl rfl sc_one_made.nd rfl rfl ⟨rfl, by decide, .inl T.g_PearlError⟩ takes0 (fun W pn xe tk _ => (pss_one (ps_set (i := 2) sc_one_made.nd rfl (Or.inl rfl) (pe_callS (ok_made T) (hr.mono (by decide)) (by rfl) T.g_made T.F_made.kp T.b_made (fun σ => passAt tk σ) (pa_cons (pv 0) (pa_cons (pv 1) pa_nil))))))
        (fun a oe cls d pn hz hf => (pss_cons (ps_set (i := 4) sc_one_made.nd rfl (Or.inl rfl) (pe_callB (call_isDT hz hf) (by rfl) T.z_isinstance (by decide +kernel) (pa_cons (pv 3) (pa_cons (pe_tup (pa_cons (pe_glob (v := .ref T.C_BadBead) (by rfl) T.g_BadBead rfl) (pa_cons (pe_glob (v := .ref T.C_NotLet) (by rfl) T.g_NotLet rfl) pa_nil))) pa_nil))))
      (pss_one (ps_ret (pe_tup (pa_cons pe_str (pa_cons (pe_callB (call_isD hz hf) (by rfl) T.z_isinstance (by decide +kernel) (pa_cons (pv 3) (pa_cons (pe_glob (v := .ref T.C_BadRule) (by rfl) T.g_BadRule rfl) pa_nil))) (pa_cons (pe_callB (call_isD hz hf) (by rfl) T.z_isinstance (by decide +kernel) (pa_cons (pv 3) (pa_cons (pe_bltn (v := .ty "ValueError") (by rfl) T.z_ValueError (by decide +kernel) rfl) pa_nil))) (pa_cons (pv 4) (pa_cons (pe_callB (call_isiS (K' := K) rfl) (by rfl) T.z_isinstance (by decide +kernel) (pa_cons (pe_xf ⟨T.xc_BadRule.hg, T.xc_BadRule.hk, T.xc_BadRule.hs, T.xc_BadRule.hd⟩ T.nf_BadRule_why hz hf (pv 3)) (pa_cons (pe_bltn (v := .ty "str") (by rfl) T.z_str (by decide +kernel) rfl) pa_nil))) pa_nil)))))))))))
      (pss_one (ps_ret (pe_tup (pa_cons pe_str (pa_cons (pe_lst (pa_cons (pe_fld (pv 2) rfl) (pa_cons (pe_fld (pv 2) rfl) (pa_cons (pe_fld (pv 2) rfl) (pa_cons (pe_fld (pv 2) rfl) pa_nil))))) (pa_cons (pe_callB (call_reprO (E := E0) (ok_Rule_repr T) T.m_Rule_repr.at_ T.m_Rule_repr.fn T.b_Rule_repr pass0 (hr.mono (by decide))) (by rfl) T.z_repr (by decide +kernel) (pa_cons (pv 2) pa_nil)) pa_nil))))))), ?_⟩
  refine ⟨_, rfl, _, rfl, n, p, a, b, c, d, rfl, hn, hS, ta, tb, tc, td, fun u hu H1 r s1 hr1 => ?_, fun hu H1 dd z s1 hdd => ?_⟩
  · obtain ⟨sm, qy⟩ := qy u hu
    obtain ⟨dx, hR⟩ := id hr1
    refine ⟨_, rfl, r, _, dx, _, _, rfl, hR, T.cl_Rule, T.n_Rule_least, uf_least u, _, rfl, r, _, dx, _, _, rfl, hR, T.cl_Rule, T.n_Rule_most, uf_most u, _, rfl, r, _, dx, _, _, rfl, hR, T.cl_Rule, T.n_Rule_match, uf_match u, _, rfl, r, _, dx, _, _, rfl, hR, T.cl_Rule, T.n_Rule_shades, uf_shades u, (by show 4 ≤ sizeLine; decide), fun l hl => ?_⟩
    have s2 := same_upd hl (o := .lst (l4 u))
    refine ⟨_, rfl, r, dx, _, rfl, s2 _ _ hR, r, u, rfl, ⟨dx, s2 _ _ hR⟩, sm, fun H3 s3 => ⟨⟨_, rfl⟩, (by show 3 ≤ sizeLine; decide), fun t ht => ?_⟩⟩
    exact qy _ t l (((s1.trans s2).trans s3).trans (same_upd ht)) upd_same ((same_upd ht) _ _ (s3 _ _ upd_same))
  · refine ⟨true, T.em_BadRule_PearlError, fun _ x hx => ?_, fun z => by cases z⟩
    refine ⟨_, rfl, (by show 2 ≤ sizeLine; decide), fun tp htp => ?_⟩
    have s2 := same_upd htp (o := .tup [.ref T.C_BadBead, .ref T.C_NotLet])
    have hd2 := s2 _ _ hdd
    refine ⟨T.C_BadRule, dd, tp, _, _, [.ref T.C_BadBead, .ref T.C_NotLet], false, rfl, rfl, rfl, hd2, T.xc_BadRule, upd_same, .cons (.own _) (.cons (.own _) .nil), T.ki_no, ?_⟩
    refine ⟨_, rfl, T.C_BadRule, dd, _, _, _, true, rfl, rfl, rfl, hd2, T.xc_BadRule, .own _, T.ki_me, ?_⟩
    refine ⟨_, rfl, T.C_BadRule, dd, _, _, _, true, rfl, rfl, rfl, hd2, T.xc_BadRule, .ty _, T.ki_ve, ?_⟩
    refine ⟨_, rfl, _, rfl, rfl, rfl, dd, _, .str z, rfl, hd2, (by rw [lookup_put, if_pos rfl]), ?_⟩
    refine ⟨_, _, _, _, true, rfl, .ty _, .base (.str z), kit_ty (r := true) (by decide +kernel), (by show 5 ≤ sizeLine; decide), fun t ht => ?_⟩
    exact qn hu _ t ((s1.trans s2).trans (same_upd ht)) upd_same
end
end KB
namespace KB
open PySem PySem.Spec PyProof.Rows L2 KA
section
variable {P : Program} {w : World} {K : PySem.W.Frag} {mg : Str → Option Value} {base : Heap}
/-! data that are compared -/
def d4 (u : Rl) : List PyData := [.int u.lo, .int u.hi, .int u.far, .bool u.shd]
def dMade (u : Rl) : PyData := .tuple [.str "made", .list (d4 u), .str (ruleText u)]
def dRef : PyData := .tuple [.str "refused", .bool true, .bool true, .bool false, .bool true]
theorem dp_l4 {K : PySem.W.Frag} {H : Hp} (u : Rl) : DpAll K H (l4 u) (d4 u) := .cons (.int _) (.cons (.int _) (.cons (.int _) (.cons (.bl _) .nil)))
theorem asc_num {n : Int} (h : 0 ≤ n) : Asc (Str.ofString (toString n)) := fun c hc => by
  obtain ⟨k, rfl⟩ : ∃ k : Nat, n = (k : Int) := ⟨n.toNat, by omega⟩
  have e : (Str.ofString (toString ((k : Nat) : Int))).cps.toList = TL.numL k := TL.tl_num k
  rw [e] at hc
  have := TL.numL_digits k c hc
  omega
theorem asc_shB (b : Bool) : Asc (shB b) := by
  cases b
  · exact asc_of (cs := [70, 97, 108, 115, 101]) (by decide +kernel) (by decide)
  · exact asc_of (cs := [84, 114, 117, 101]) (by decide +kernel) (by decide)
theorem asc_dec {z : Str} (h : (z.cps.toList.all fun c => decide (c < 128)) = true) : Asc z := fun c hc => of_decide_eq_true (List.all_eq_true.mp h c hc)
theorem ok_text {u : Rl} (g : GoodRl u) : PyData.canLay0 (.str (ruleText u)) = true := by
  have h : Asc (ruleText u) := by
    unfold ruleText
    have g2 : 0 ≤ u.hi := Int.le_trans g.1 g.2.1
    exact asc_app (asc_app (asc_app (asc_app (asc_app (asc_app (asc_app (asc_app (asc_app (asc_dec (by decide +kernel)) (asc_dec (by decide +kernel))) (asc_num g.1)) (asc_dec (by decide +kernel))) (asc_num g2)) (asc_dec (by decide +kernel))) (asc_num g.2.2)) (asc_dec (by decide +kernel))) (asc_shB _)) (asc_dec (by decide +kernel))
  show (ruleText u).cps.all (· < 0x110000) = true
  rw [Array.all_eq_true_iff_forall_mem]
  intro c hc
  have := h c (by simpa using hc)
  simp
  omega
theorem lay_made {u : Rl} (g : GoodRl u) : PyData.canLay0 (dMade u) = true := by
  show (PyData.canLay0 (.str "made") && (PyData.canLay0 (.list (d4 u)) && (PyData.canLay0 (.str (ruleText u)) && true))) = true
  rw [ok_text g, show PyData.canLay0 (.str "made") = true by decide +kernel]
  rfl
theorem ifEqF {b : Bool} {A B : Prop} (e : b = false) (h : B) : (if b = true then A else B) := by rw [e]; exact iteF h
theorem shp_made {u : Rl} (g : GoodRl u) : SeqAt.shaped (dMade u) = true := by
  unfold SeqAt.shaped
  rw [lay_made g]
  rfl
theorem eqv_d4 (u v : Rl) : PyData.eqv (.list (d4 u)) (.list (d4 v)) = decide (u = v) := by
  show ((u.lo == v.lo) && ((u.hi == v.hi) && ((u.far == v.far) && ((u.shd == v.shd) && true)))) = _
  rw [Bool.eq_iff_iff, decide_eq_true_eq, rl_eq]
  simp
def nearR (u : Rl) : Nat → Rl
  | 0 => u
  | 1 => { u with hi := u.hi + 1 }
  | 2 => { u with far := u.far + 1 }
  | _ => { u with shd := !u.shd }
theorem near_good {u : Rl} (g : GoodRl u) (k : Nat) : GoodRl (nearR u k) := by
  obtain ⟨g1, g2, g3⟩ := g
  match k with
  | 0 => exact ⟨g1, g2, g3⟩
  | 1 => exact ⟨g1, by show u.lo ≤ u.hi + 1; omega, g3⟩
  | 2 => exact ⟨g1, g2, by show 0 ≤ u.far + 1; omega⟩
  | _ + 3 => exact ⟨g1, g2, g3⟩
theorem as_good {u : Rl} (g : GoodRl u) : asRl (.int u.lo) (.int u.hi) (.int u.far) (.bl u.shd) = some u := if_pos g
theorem e59 : (10 : Int) ^ 59 = 100000000000000000000000000000000000000000000000000000000000 := by decide
theorem fil_tv {K : PySem.W.Frag} {H : Hp} {d : Addr} {n k : Nat} {v p : V} (hv : Tv K H d v) (hp : Tv K H d p) : Tv K H d (fil n k v p) := by
  unfold fil
  split
  · exact hv
  · exact hp
theorem small_of {K : PySem.W.Frag} {H : Hp} {d : Addr} {n : Nat} {a b c e : V} {u : Rl} (ta : Tv K H d a) (tb : Tv K H d b) (tc : Tv K H d c) (te : Tv K H d e) (h : asW n a b c e = some u) : SmallRl u := by
  obtain ⟨_, h2, h3, _, g⟩ := asRl_some h
  have y := (fil_tv (n := n) (k := 1) tb (tv_int (i := 10) (by decide))).sm _ h2
  have z := (fil_tv (n := n) (k := 2) tc (tv_int (i := 0) (by decide))).sm _ h3
  rw [e58] at y z
  exact ⟨g, by rw [e59]; omega, by rw [e59]; omega⟩
def spLaw (K : PySem.W.Frag) : Sp := fun vs H Q _ => ∃ (a : Addr) (ns : List Int), vs = [.ref a] ∧ SqL K H a (ns.map V.int) ∧ ns.length ≤ 63 ∧ ∀ H', Q (.bl true) H'
theorem ok_law {f : Addr} {fd : FuncData} (T : Tx K mg) (F : Fun K "law" "law" s_law f fd) : FnOk P w K mg base CX0 13 f fd ["_law_script"] (spLaw K) := by
  refine F.ok sc_law (fun vs H Q E h => ?_) (fun cdv A outer s H vs Q E hr h => ?_)
  · obtain ⟨a, ns, rfl, hS, hlen, q⟩ := h
    rfl
  obtain ⟨a, ns, rfl, hS, hlen, q⟩ := h
  refine ⟨_, (pss_cons (ps_for PassesOwn.never rfl (pi_list (pe_op op_cat (pe_lst (pa_cons (pe_call (ok_cell_at T) (hr.mono (by decide)) (by rfl) T.g_cell_at T.F_cell_at.kp T.b_cell_at .nil pass0 (pa_cons (pv 0) (pa_cons pe_int pa_nil))) pa_nil)) (pe_slice sl_list (pv 0) (po_some pe_int) (po_some pe_int)))) (pg_name (i := 1) sc_law.nd rfl (Or.inl rfl))
        (pss_cons (ps_set (i := 2) sc_law.nd rfl (Or.inl rfl) (pe_call (ok_well T) (hr.mono (by decide)) (by rfl) T.g_well T.F_well.kp T.b_well .nil pass0 (pa_cons (pv 1) pa_nil)))
      (pss_cons (ps_set (i := 3) sc_law.nd rfl (Or.inl rfl) (pe_call (ok_four T) (hr.mono (by decide)) (by rfl) T.g_four T.F_four.kp T.b_four .nil pass0 (pa_cons (pv 2) pa_nil)))
      (pss_cons (ps_set (i := 4) sc_law.nd rfl (Or.inl rfl) (pe_call (ok_spoilt T) (hr.mono (by decide)) (by rfl) T.g_spoilt T.F_spoilt.kp T.b_spoilt .nil pass0 (pa_cons (pv 2) (pa_cons (pv 3) pa_nil))))
      (pss_cons (ps_for PassesOwn.never rfl (pi_tup (pe_tup (pa_cons (pv 3) (pa_cons (pv 4) pa_nil)))) (pg_name (i := 5) sc_law.nd rfl (Or.inl rfl))
        (pss_cons (ps_set (i := 6) sc_law.nd rfl (Or.inl rfl) (pe_call (ok_draw T) (hr.mono (by decide)) (by rfl) T.g_draw T.F_draw.kp T.b_draw .nil pass0 (pa_cons (pv 2) (pa_cons pe_int pa_nil))))
      (pss_one (ps_if (pt_cmpR (op_neD hr.units) (pe_call (ok_one_made T) (hr.mono (by decide)) (by rfl) T.g_one_made T.F_one_made.kp T.b_one_made .nil pass0 (pa_cons (pv 6) (pa_cons (pv 5) pa_nil))) (pe_call (ok_due T) (hr.mono (by decide)) (by rfl) T.g_due T.F_due.kp T.b_due .nil pass0 (pa_cons (pe_call (ok_filled T) (hr.mono (by decide)) (by rfl) T.g_filled T.F_filled.kp T.b_filled .nil pass0 (pa_cons (pv 6) (pa_cons (pv 5) pa_nil))) pa_nil)) (nomark _)) (pss_one (ps_ret pe_bl)) pss_nil))))
      (pss_cons (ps_set (i := 7) sc_law.nd rfl (Or.inl rfl) (pe_call (E := E0) (ok_made T) (hr.mono (by decide)) (by rfl) T.g_made T.F_made.kp T.b_made .nil passF (pa_cons pe_int (pa_cons (pv 3) pa_nil))))
      (pss_cons (ps_set (i := 8) sc_law.nd rfl (Or.inl rfl) (pe_call (ok_draw T) (hr.mono (by decide)) (by rfl) T.g_draw T.F_draw.kp T.b_draw .nil pass0 (pa_cons (pv 2) (pa_cons pe_int pa_nil))))
      (pss_cons (ps_set (i := 9) sc_law.nd rfl (Or.inl rfl) (pe_callTy call_list_of (by rfl) T.z_list (by decide +kernel) (pa_cons (pv 3) pa_nil)))
      (pss_cons (ps_asg (pe_ix ix_list (pe_lst (pa_cons (pe_ix ix_list (pv 9) pe_int (fun _ _ => rfl)) (pa_cons (pe_op op_add (pe_ix ix_list (pv 9) pe_int (fun _ _ => rfl)) pe_int) (pa_cons (pe_op op_add (pe_ix ix_list (pv 9) pe_int (fun _ _ => rfl)) pe_int) (pa_cons (pe_not (pe_ix ix_list (pv 9) pe_int (fun _ _ => rfl))) pa_nil))))) (pv 8) (fun _ _ => rfl)) (pg_sub (pv 9) (pv 8) set_list))
      (pss_cons (ps_if (PW.pt (pw_or (pt_not (pt_cmpR (op_own (E := E0) (ok_Rule_eq T) T.m_Rule_eq.at_ T.m_Rule_eq.fn T.b_Rule_eq pass0 (hr.mono (by decide))) (pv 7) (pe_call (E := E0) (ok_made T) (hr.mono (by decide)) (by rfl) T.g_made T.F_made.kp T.b_made .nil passF (pa_cons pe_int (pa_cons (pv 3) pa_nil))) (nomark _))) (pw_or1 (pt_cmpR op_ne (pe_cmpR (op_own (E := E0) (ok_Rule_eq T) T.m_Rule_eq.at_ T.m_Rule_eq.fn T.b_Rule_eq pass0 (hr.mono (by decide))) (pv 7) (pe_call (E := E0) (ok_made T) (hr.mono (by decide)) (by rfl) T.g_made T.F_made.kp T.b_made .nil passF (pa_cons pe_int (pa_cons (pv 9) pa_nil))) (nomark _)) (pe_cmpR (op_eqD hr.units) (pv 9) (pv 3) (nomark _)) (nomark _))))) (pss_one (ps_ret pe_bl)) pss_nil)
      (pss_one (ps_for PassesOwn.never rfl (pi_list (pe_lst (pa_cons (pe_callTy call_tuple_of (by rfl) T.z_tuple (by decide +kernel) (pa_cons (pv 3) pa_nil)) (pa_cons (pv 3) (pa_cons pe_non (pa_cons (pe_callB (call_reprO (E := E0) (ok_Rule_repr T) T.m_Rule_repr.at_ T.m_Rule_repr.fn T.b_Rule_repr pass0 (hr.mono (by decide))) (by rfl) T.z_repr (by decide +kernel) (pa_cons (pv 7) pa_nil)) (pa_cons pe_int (pa_cons pe_bl pa_nil)))))))) (pg_name (i := 10) sc_law.nd rfl (Or.inl rfl))
        (pss_one (ps_if (pt_cmpR (op_own (E := E0) (ok_Rule_eq T) T.m_Rule_eq.at_ T.m_Rule_eq.fn T.b_Rule_eq pass0 (hr.mono (by decide))) (pv 7) (pv 10) (nomark _)) (pss_one (ps_ret pe_bl)) pss_nil))))))))))))))
      (pss_one (ps_ret pe_bl))), ?_⟩
  refine ⟨_, rfl, a, ns, rfl, hS, (by show 1 ≤ sizeLine; decide), fun p hp => ?_⟩
  have s1 : Same H (upd H p (.lst [.int (ns.headD 0)])) := same_upd hp
  refine ⟨_, rfl, _, rfl, _, rfl, a, _, rfl, s1.seq hS, fun p2 hp2 => ?_⟩
  have s2 : Same (upd H p (.lst [.int (ns.headD 0)])) (upd (upd H p (.lst [.int (ns.headD 0)])) p2 (.lst (cutV (ns.map V.int) (some 1) (some 16)))) := same_upd hp2
  have hcut : (cutV (ns.map V.int) (some 1) (some 16)).length ≤ 63 := by
    have := len_cut (ns.map V.int) (some 1) (some 16)
    rw [List.length_map] at this
    omega
  refine ⟨p, p2, _, _, rfl, rfl, s2 _ _ upd_same, upd_same, sz _ (by rw [List.length_singleton]; omega), fun p3 hp3 => ?_⟩
  refine ⟨p3, rfl, ⟨_, SqL.of upd_same⟩, for_list (K := K) (a := p3) (xs := [V.int (ns.headD 0)] ++ cutV (ns.map V.int) (some 1) (some 16)) (fun i σ H' => ∃ w1 w2 w3 w4 w5 w6 w7 w8 w9 w10, σ = [some (.ref a), w1, w2, w3, w4, w5, w6, w7, w8, w9, w10] ∧ H' p3 = some (.lst ([V.int (ns.headD 0)] ++ cutV (ns.map V.int) (some 1) (some 16)))) ⟨_, _, _, _, _, _, _, _, _, _, rfl, upd_same⟩ (fun i σ H' _ h => ?_) ?_ ?_⟩
  · obtain ⟨_, _, _, _, _, _, _, _, _, _, _, e⟩ := h
    exact SqL.of e
  · rintro i x σ H0 hi ⟨w1, w2, w3, w4, w5, w6, w7, w8, w9, w10, rfl, e0⟩
    obtain ⟨cell, rfl⟩ := cells_int hi
    refine ⟨_, rfl, cell, rfl, fun d H1 hd t1 dr1 => ?_⟩
    refine ⟨_, rfl, d, 0, rfl, dr1, by omega, fun H2 g u eg hu hg b2 dr2 => ?_⟩
    have ng : g ≠ d := fun z => by
      obtain ⟨_, _, _, e, _⟩ := dr2
      rw [z, e] at eg
      unfold l4 at eg
      cases eg
    refine ⟨_, rfl, _, rfl, d, g, 0 + 20, u, rfl, ng, eg, hu, dr2, by omega, fun H3 o a1 b1 c1 e1 eo ta tb tc te no b3 dr3 => ?_⟩
    have uu3 : Same H0 H3 := (b2.trans b3).same hd t1
    have eg3 := b3 _ _ ng eg
    refine ⟨_, rfl, _, rfl, (by show 2 ≤ sizeLine; decide), fun tp htp => ?_⟩
    have z3 := same_upd htp (o := .tup [.ref g, .ref o])
    have ntp := dr3.ne htp
    have t4 := tv_l4 (K := K) (H := H3) (d := d) hu
    refine ⟨tp, rfl, ⟨_, .inl (.inl upd_same)⟩, for_tup (K := K) (a := tp) (xs := [.ref g, .ref o]) (fun i σ H' => ∃ v5 v6, σ = [some (.ref a), some (.int cell), some (.ref d), some (.ref g), some (.ref o), v5, v6, w7, w8, w9, w10] ∧ But d H3 H' ∧ H' tp = some (.tup [.ref g, .ref o]) ∧ Dr PT d (100 + i) H') ⟨_, _, rfl, But.of z3, upd_same, (dr3.same z3).mono (by omega)⟩ (fun i σ H' _ h => ?_) ?_ ?_⟩
    · obtain ⟨_, _, _, _, e, _⟩ := h
      exact .inl (.inl e)
    · rintro i x σ H4 hx ⟨v5, v6, rfl, b4, e4, dr4⟩
      have hi2 : i < 2 := (List.getElem?_eq_some_iff.mp hx).1
      obtain ⟨f, fa, fb, fc, fd, rfl, nf, ef, qa, qb, qc, qd⟩ : ∃ (f : Addr) (fa fb fc fd : V), x = .ref f ∧ f ≠ d ∧ H4 f = some (.lst [fa, fb, fc, fd]) ∧ Tv K H4 d fa ∧ Tv K H4 d fb ∧ Tv K H4 d fc ∧ Tv K H4 d fd := by
        have : i = 0 ∨ i = 1 := by omega
        rcases this with rfl | rfl
        · cases hx
          exact ⟨g, _, _, _, _, rfl, ng, b4 _ _ ng eg3, (t4 _ (by simp [l4])).but b4, (t4 _ (by simp [l4])).but b4, (t4 _ (by simp [l4])).but b4, (t4 _ (by simp [l4])).but b4⟩
        · cases hx
          exact ⟨o, _, _, _, _, rfl, no, b4 _ _ no eo, ta.but b4, tb.but b4, tc.but b4, te.but b4⟩
      refine ⟨_, rfl, d, 9, 100 + i, rfl, by decide, log_tiny (by decide) (by decide), dr4, by omega, fun H5 r a5 c5 b5 dr5 => ?_⟩
      obtain ⟨n, rfl⟩ : ∃ n : Nat, r = (n : Int) := ⟨r.toNat, by omega⟩
      have hn : n < 9 := by omega
      have ef5 := b5 _ _ nf ef
      have qa := qa.but b5
      have qb := qb.but b5
      have qc := qc.but b5
      have qd := qd.but b5
      have fin : ∀ H8 : Hp, Same H5 H8 → ∃ v5 v6, [some (V.ref a), some (.int cell), some (.ref d), some (.ref g), some (.ref o), some (.ref f), some (.int (n : Int)), w7, w8, w9, w10] = [some (.ref a), some (.int cell), some (.ref d), some (.ref g), some (.ref o), v5, v6, w7, w8, w9, w10] ∧ But d H3 H8 ∧ H8 tp = some (.tup [.ref g, .ref o]) ∧ Dr PT d (100 + (i + 1)) H8 := fun H8 s8 =>
        ⟨_, _, rfl, (b4.trans b5).trans (But.of s8), s8 _ _ (b5 _ _ ntp e4), dr5.same s8⟩
      refine ⟨_, rfl, _, rfl, n, f, fa, fb, fc, fd, rfl, hn, SqL.of ef5, qa.th, qb.th, qc.th, qd.th, fun u' hu' => ⟨small_of qa qb qc qd hu', fun H6 t l s6 et el => ?_⟩, fun hu' H6 t s6 et => ?_⟩
      · have g' := (small_of qa qb qc qd hu').1
        refine ⟨_, rfl, _, rfl, n, f, fa, fb, fc, fd, rfl, hn, SqL.of (s6 _ _ ef5), fun H7 o2 eo2 ho2 s7 => ?_⟩
        have s67 := s6.trans s7
        refine ⟨o2, _, _, _, _, rfl, SqL.of eo2, (fil_tv (qa.same s67) (tv_int (by decide))).th, (fil_tv (qb.same s67) (tv_int (by decide))).th, (fil_tv (qc.same s67) (tv_int (by decide))).th, (fil_tv (qd.same s67) tv_bl).th, fun u2 hu2 => ⟨small_of qa qb qc qd hu2, fun H8 t2 s8 et2 => ?_⟩, fun hu2 => ?_⟩
        · have : u2 = u' := Option.some.inj (hu2.symm.trans hu')
          subst this
          obtain ⟨k1, k2, k3, k4, _⟩ := asRl_some hu2
          have eo8 : H8 o2 = some (.lst (l4 u2)) := by
            have := s8 _ _ eo2
            unfold fils at this
            rw [k1, k2, k3, k4] at this
            exact this
          refine ⟨dMade u2, dMade u2, .tup (.inl (.inl (s8 _ _ (s7 _ _ et)))) (.cons (.str _) (.cons (.lst (SqL.of (s8 _ _ (s7 _ _ el))) (dp_l4 u2)) (.cons (.str _) .nil))), .tup (.inl (.inl et2)) (.cons (.str _) (.cons (.lst (SqL.of eo8) (dp_l4 u2)) (.cons (.str _) .nil))), shp_made g', shp_made g', _, rfl, ?_⟩
          rw [SeqAt.eqv_refl _ (lay_made g')]
          exact iteF (fin _ (s67.trans s8))
        · have : asW n fa fb fc fd = none := hu2
          rw [hu'] at this
          cases this
      · refine ⟨_, rfl, _, rfl, n, f, fa, fb, fc, fd, rfl, hn, SqL.of (s6 _ _ ef5), fun H7 o2 eo2 ho2 s7 => ?_⟩
        have s67 := s6.trans s7
        refine ⟨o2, _, _, _, _, rfl, SqL.of eo2, (fil_tv (qa.same s67) (tv_int (by decide))).th, (fil_tv (qb.same s67) (tv_int (by decide))).th, (fil_tv (qc.same s67) (tv_int (by decide))).th, (fil_tv (qd.same s67) tv_bl).th, fun u2 hu2 => ?_, fun hu2 H8 t2 s8 et2 => ?_⟩
        · have : asW n fa fb fc fd = some u2 := hu2
          rw [hu'] at this
          cases this
        · refine ⟨dRef, dRef, .tup (.inl (.inl (s8 _ _ (s7 _ _ et)))) (.cons (.str _) (.cons (.bl _) (.cons (.bl _) (.cons (.bl _) (.cons (.bl _) .nil))))), .tup (.inl (.inl et2)) (.cons (.str _) (.cons (.bl _) (.cons (.bl _) (.cons (.bl _) (.cons (.bl _) .nil))))), by decide +kernel, by decide +kernel, _, rfl, ?_⟩
          rw [SeqAt.eqv_refl _ (by decide +kernel)]
          exact iteF (fin _ (s67.trans s8))
    · rintro σ H4 ⟨v5, v6, rfl, b4, e4, dr4⟩
      have eg4 := b4 _ _ ng eg3
      have sm : SmallRl u := by
        obtain ⟨g1, g2, g3⟩ := hu
        rw [e41] at g2
        rw [e40] at g3
        exact ⟨g1, by rw [e59]; omega, by rw [e59]; omega⟩
      have mk0 : asW 0 (.int u.lo) (.int u.hi) (.int u.far) (.bl u.shd) = some u := as_good hu.1
      have mk1 : asW 1 (.int u.lo) (.int u.hi) (.int u.far) (.bl u.shd) = some u := as_good hu.1
      refine ⟨_, rfl, 0, g, .int u.lo, .int u.hi, .int u.far, .bl u.shd, rfl, by decide, SqL.of eg4, .int _, .int _, .int _, .bl _, fun u' hu' H5 r s5 hR => ?_, fun hu' => by rw [mk0] at hu'; cases hu'⟩
      have eu : u' = u := Option.some.inj (hu'.symm.trans mk0)
      rw [eu] at hR
      obtain ⟨dx, hR5⟩ := hR
      refine ⟨_, rfl, d, 4, _, rfl, by decide, log_tiny (by decide) (by decide), dr4.same s5, by show 100 + 2 ≤ 1000000; decide, fun H6 r6 a6 c6 b6 dr6 => ?_⟩
      obtain ⟨k, rfl⟩ : ∃ k : Nat, r6 = (k : Int) := ⟨r6.toNat, by omega⟩
      have hk : k = 0 ∨ k = 1 ∨ k = 2 ∨ k = 3 := by omega
      have eg6 := b6 _ _ ng (s5 _ _ eg4)
      have nrd : r ≠ d := fun z => by
        obtain ⟨_, _, _, e, _⟩ := dr4.same s5
        rw [z, e] at hR5
        cases hR5
      have hR6 := b6 _ _ nrd hR5
      refine ⟨_, rfl, g, _, rfl, .inl (SqL.of eg6), fun nr hnr => ?_⟩
      have hnl : SqL K (upd H6 nr (.lst (l4 u))) nr (l4 u) := SqL.of upd_same
      refine ⟨_, rfl, nr, _, _, _, rfl, rfl, hnl, atI_nat (j := 0) rfl, _, rfl, nr, _, _, _, rfl, rfl, hnl, atI_nat (j := 1) rfl, _, _, rfl, rfl, _, rfl, nr, _, _, _, rfl, rfl, hnl, atI_nat (j := 2) rfl, _, _, rfl, rfl, _, rfl, nr, _, _, _, rfl, rfl, hnl, atI_nat (j := 3) rfl, _, rfl, (by show 4 ≤ sizeLine; decide), fun v4 hv4 => ?_⟩
      obtain ⟨x, hat, hset, hix⟩ : ∃ x, atI [V.int u.lo, .int (u.hi + 1), .int (u.far + 1), .bl (!u.shd)] (k : Int) = some x ∧ (l4 u).set k x = l4 (nearR u k) ∧ ixN (l4 u).length (k : Int) = some k := by
        rcases hk with rfl | rfl | rfl | rfl
        · exact ⟨_, rfl, rfl, rfl⟩
        · exact ⟨_, rfl, rfl, rfl⟩
        · exact ⟨_, rfl, rfl, rfl⟩
        · exact ⟨_, rfl, rfl, rfl⟩
      refine ⟨_, rfl, v4, _, _, _, rfl, rfl, SqL.of upd_same, hat, _, rfl, _, rfl, nr, _, _, k, rfl, rfl, (same_upd hv4) _ _ upd_same, hix, ?_⟩
      rw [hset]
      have s68 : Same H6 (upd (upd (upd H6 nr (.lst (l4 u))) v4 (.lst [V.int u.lo, .int (u.hi + 1), .int (u.far + 1), .bl (!u.shd)])) nr (.lst (l4 (nearR u k)))) := fun b o e => by
        rw [upd_ne (ne_of_none e hnr)]
        exact (same_upd hv4) _ _ ((same_upd hnr) _ _ e)
      have enr : (upd (upd (upd H6 nr (.lst (l4 u))) v4 (.lst [V.int u.lo, .int (u.hi + 1), .int (u.far + 1), .bl (!u.shd)])) nr (.lst (l4 (nearR u k)))) nr = some (.lst (l4 (nearR u k))) := upd_same
      have gn := near_good hu.1 k
      have mkn : asW 0 (.int (nearR u k).lo) (.int (nearR u k).hi) (.int (nearR u k).far) (.bl (nearR u k).shd) = some (nearR u k) := as_good gn
      have tyR : ∀ {H : Hp} {b dy : Addr} {v : Rl}, H b = some (.ins T.C_Rule dy (uf v)) → TyX K H (.ref b) (.ref T.C_Rule) := fun h => .base (.ins h T.cl_Rule T.ir1 T.ir2 T.ir3 T.ir4)
      -- both comparisons
      refine ⟨_, rfl, _, rfl, 1, g, .int u.lo, .int u.hi, .int u.far, .bl u.shd, rfl, by decide, SqL.of (s68 _ _ eg6), .int _, .int _, .int _, .bl _, fun u2 hu2 H9 r2 s9 hR2 => ?_, fun hu2 => by rw [mk1] at hu2; cases hu2⟩
      have eu2 : u2 = u := Option.some.inj (hu2.symm.trans mk1)
      rw [eu2] at hR2
      obtain ⟨dy, hR2'⟩ := id hR2
      have s69 := s68.trans s9
      refine ⟨r, dx, _, .ref T.C_Rule, rfl, s69 _ _ hR6, tyR hR2', by simp [PySem.W.notFirst], r, u, _, rfl, ⟨dx, s69 _ _ hR6⟩, .inl ⟨r2, u, rfl, hR2, ⟨_, rfl⟩, _, rfl, ?_⟩⟩
      refine ifEqF (by rw [decide_eq_true rfl]; rfl) ?_
      refine ⟨_, rfl, _, rfl, 0, nr, _, _, _, _, rfl, by decide, SqL.of (s9 _ _ enr), .int _, .int _, .int _, .bl _, fun u3 hu3 H10 r3 s10 hR3 => ?_, fun hu3 => by rw [mkn] at hu3; cases hu3⟩
      have eu3 : u3 = nearR u k := Option.some.inj (hu3.symm.trans mkn)
      rw [eu3] at hR3
      obtain ⟨dz, hR3'⟩ := id hR3
      have s610 := s69.trans s10
      refine ⟨r, dx, _, .ref T.C_Rule, rfl, s610 _ _ hR6, tyR hR3', by simp [PySem.W.notFirst], r, u, _, rfl, ⟨dx, s610 _ _ hR6⟩, .inl ⟨r3, nearR u k, rfl, hR3, ⟨_, rfl⟩, ?_⟩⟩
      refine ⟨_, rfl, _, rfl, .list (d4 (nearR u k)), .list (d4 u), .lst (SqL.of (s10 _ _ (s9 _ _ enr))) (dp_l4 _), .lst (SqL.of (s610 _ _ eg6)) (dp_l4 _), rfl, rfl, rfl, _, rfl, ?_⟩
      refine ifEqF ?_ ?_
      · rw [eqv_d4, decide_eq_true (show V.bl (decide (u = nearR u k)) = V.bl (decide (nearR u k = u)) by rw [decide_eq_decide.mpr eq_comm])]
        rfl
      -- other things
      refine ⟨_, rfl, g, _, rfl, .inl ⟨SqL.of (s610 _ _ eg6), fun tg htg => ?_⟩⟩
      have z1 := same_upd htg (o := .tup (l4 u))
      have s611 := s610.trans z1
      refine ⟨_, rfl, _, rfl, r, dx, _, rfl, s611 _ _ hR6, r, u, rfl, ⟨dx, s611 _ _ hR6⟩, sm, fun H12 s12 => ⟨⟨_, rfl⟩, (by show 6 ≤ sizeLine; decide), fun tl htl => ?_⟩⟩
      have z2 := same_upd htl (o := .lst [.ref tg, .ref g, .non, .str (ruleText u), .int 0, .bl true])
      have s613 := (s611.trans s12).trans z2
      refine ⟨tl, rfl, ⟨_, SqL.of upd_same⟩, for_list (K := K) (a := tl) (xs := [.ref tg, .ref g, .non, .str (ruleText u), .int 0, .bl true]) (fun i σ H' => ∃ v10, σ = [some (.ref a), some (.int cell), some (.ref d), some (.ref g), some (.ref o), v5, v6, some (.ref r), some (.int (k : Int)), some (.ref nr), v10] ∧ H' = upd H12 tl (.lst [.ref tg, .ref g, .non, .str (ruleText u), .int 0, .bl true])) ⟨_, rfl, rfl⟩ (fun i σ H' _ h => ?_) ?_ ?_⟩
      · obtain ⟨_, _, rfl⟩ := h
        exact SqL.of upd_same
      · rintro i x σ H' hx ⟨v10, rfl, rfl⟩
        have oth : Oth K (upd H12 tl (.lst [.ref tg, .ref g, .non, .str (ruleText u), .int 0, .bl true])) x := by
          have hi6 : i < 6 := (List.getElem?_eq_some_iff.mp hx).1
          have : i = 0 ∨ i = 1 ∨ i = 2 ∨ i = 3 ∨ i = 4 ∨ i = 5 := by omega
          rcases this with rfl | rfl | rfl | rfl | rfl | rfl
          · cases hx; exact .tup (.base (.tup (z2 _ _ (s12 _ _ upd_same))))
          · cases hx; exact .lst (.base (.lst (s613 _ _ eg6)))
          · cases hx; exact .non
          · cases hx; exact .str _
          · cases hx; exact .int _
          · cases hx; exact .bl _
        obtain ⟨t, ty, nf, _⟩ := oth_ty T oth
        exact ⟨_, rfl, _, rfl, r, dx, _, t, rfl, s613 _ _ hR6, ty, nf, r, u, _, rfl, ⟨dx, s613 _ _ hR6⟩, .inr ⟨oth, ⟨_, rfl⟩, _, rfl, iteF ⟨_, rfl, rfl⟩⟩⟩
      · rintro σ H' ⟨v10, rfl, rfl⟩
        have np3 : p3 ≠ d := ne_of_none e0 hd
        have bt := ((b4.trans (But.of s5)).trans b6).trans (But.of s613)
        exact ⟨_, _, _, _, _, _, _, _, _, _, rfl, bt _ _ np3 (uu3 _ _ e0)⟩
  · rintro σ H' ⟨w1, w2, w3, w4, w5, w6, w7, w8, w9, w10, rfl, e0⟩
    exact q H'
end
theorem all_mk {l : PySem.W.OpenLaw} {w : World} {K : PySem.W.Frag} {h : Heap} {mg : Str → Option Value} {fa : Addr} (X : K.In h) (G : h.Ns mainGlobals mg) (hfa : mg "law" = some (.ref fa))
    {C_Rule : Addr}
    {C_PearlError : Addr}
    {C_BadBead : Addr}
    {C_NotLet : Addr}
    {C_BadRule : Addr}
    {f0 : Addr} {od0 an0 : Option Addr} {sl0 : Array (Option Value)} {oc0 kV0 dc0 pm0 cd0 ct0 : Value}
    {T0 : Addr} {oT0 : Value} {dT0 : Option Addr} {nT0 : Nat} {sT0 : Array (Option Value)} {td0_0 : Tok}
    {f1 : Addr} {od1 an1 : Option Addr} {sl1 : Array (Option Value)} {oc1 kV1 dc1 pm1 cd1 ct1 : Value}
    {f2 : Addr} {od2 an2 : Option Addr} {sl2 : Array (Option Value)} {oc2 kV2 dc2 pm2 cd2 ct2 : Value}
    {f3 : Addr} {od3 an3 : Option Addr} {sl3 : Array (Option Value)} {oc3 kV3 dc3 pm3 cd3 ct3 : Value}
    {f4 : Addr} {od4 an4 : Option Addr} {sl4 : Array (Option Value)} {oc4 kV4 dc4 pm4 cd4 ct4 : Value}
    {T4 : Addr} {oT4 : Value} {dT4 : Option Addr} {nT4 : Nat} {sT4 : Array (Option Value)} {td4_0 : Tok} {td4_1 : Tok} {td4_2 : Tok}
    {f5 : Addr} {od5 an5 : Option Addr} {sl5 : Array (Option Value)} {oc5 kV5 dc5 pm5 cd5 ct5 : Value}
    {f6 : Addr} {od6 an6 : Option Addr} {sl6 : Array (Option Value)} {oc6 kV6 dc6 pm6 cd6 ct6 : Value}
    {f7 : Addr} {od7 an7 : Option Addr} {sl7 : Array (Option Value)} {oc7 kV7 dc7 pm7 cd7 ct7 : Value}
    {f8 : Addr} {od8 an8 : Option Addr} {sl8 : Array (Option Value)} {oc8 kV8 dc8 pm8 cd8 ct8 : Value}
    {f9 : Addr} {od9 an9 : Option Addr} {sl9 : Array (Option Value)} {oc9 kV9 dc9 pm9 cd9 ct9 : Value}
    {f10 : Addr} {od10 an10 : Option Addr} {sl10 : Array (Option Value)} {oc10 kV10 dc10 pm10 cd10 ct10 : Value}
    {f11 : Addr} {od11 an11 : Option Addr} {sl11 : Array (Option Value)} {oc11 kV11 dc11 pm11 cd11 ct11 : Value}
    {f12 : Addr} {od12 an12 : Option Addr} {sl12 : Array (Option Value)} {oc12 kV12 dc12 pm12 cd12 ct12 : Value}
    {f13 : Addr} {od13 an13 : Option Addr} {sl13 : Array (Option Value)} {oc13 kV13 dc13 pm13 cd13 ct13 : Value}
    {f14 : Addr} {od14 an14 : Option Addr} {sl14 : Array (Option Value)} {oc14 kV14 dc14 pm14 cd14 ct14 : Value}
    {f15 : Addr} {od15 an15 : Option Addr} {sl15 : Array (Option Value)} {oc15 kV15 dc15 pm15 cd15 ct15 : Value}
    {f16 : Addr} {od16 an16 : Option Addr} {sl16 : Array (Option Value)} {oc16 kV16 dc16 pm16 cd16 ct16 : Value}
    {f17 : Addr} {od17 an17 : Option Addr} {sl17 : Array (Option Value)} {oc17 kV17 dc17 pm17 cd17 ct17 : Value}
    {f18 : Addr} {od18 an18 : Option Addr} {sl18 : Array (Option Value)} {oc18 kV18 dc18 pm18 cd18 ct18 : Value}
    {f19 : Addr} {od19 an19 : Option Addr} {sl19 : Array (Option Value)} {oc19 kV19 dc19 pm19 cd19 ct19 : Value}
    {tc1 : Tok}
    {nm_BadRule q_BadRule : Str} {N_BadRule : Addr} {bs_BadRule : List Value} {sn_BadRule : List Str} {sub_BadRule : List Value} {ab_BadRule : Bool} {col_BadRule : Option Bool} {dd_BadRule : Option Addr} {m0_BadRule m1_BadRule m2_BadRule m3_BadRule m5_BadRule : Option Value}
    (aC_Rule : PySem.W.nsIn K mainGlobals "Rule" = some (some (.ref C_Rule)))
    (pg_Rule : PySem.W.plainGet K C_Rule Str.empty = true)
    (hd_Rule : PySem.W.hasDictIn K C_Rule = true)
    (po_Rule : PySem.W.plainOver K C_Rule = true)
    (sa_Rule : PySem.W.findIn K (.ref C_Rule) "__setattr__" = some (some (.builtin "object.__setattr__")))
    (mk_Rule : PySem.W.makesIn K C_Rule = true)
    (kc_Rule : PySem.W.keepIn K (.ref C_Rule) = true)
    (n_Rule_least : PySem.W.findIn K (.ref C_Rule) "least" = some none)
    (n_Rule_most : PySem.W.findIn K (.ref C_Rule) "most" = some none)
    (n_Rule_match : PySem.W.findIn K (.ref C_Rule) "match" = some none)
    (n_Rule_shades : PySem.W.findIn K (.ref C_Rule) "shades" = some none)
    (aC_PearlError : PySem.W.nsIn K mainGlobals "PearlError" = some (some (.ref C_PearlError)))
    (aC_BadBead : PySem.W.nsIn K mainGlobals "BadBead" = some (some (.ref C_BadBead)))
    (aC_NotLet : PySem.W.nsIn K mainGlobals "NotLet" = some (some (.ref C_NotLet)))
    (aC_BadRule : PySem.W.nsIn K mainGlobals "BadRule" = some (some (.ref C_BadRule)))
    (a0 : PySem.W.findIn K (.ref C_PearlError) "__init__" = some (some (.ref f0)))
    (i0 : PySem.W.isFn K (.ref f0) = true)
    (l0 : K.lookup f0 = some ⟨oc0, od0, .func (PySem.W.fnOf "__init__" "PearlError.__init__" (defArgs s_PearlError_init) (defBody s_PearlError_init) (defScope s_PearlError_init) (.ref T0) kV0 dc0 pm0 an0 cd0 ct0), sl0⟩)
    (d0 : K.lookup T0 = some ⟨oT0, dT0, .seq (List.toArray [.str "" td0_0]) nT0, sT0⟩)
    (c0 : PySem.W.codeIn K cd0 "PearlError.__init__" = true)
    (k0 : PySem.W.keepIn K (.ref f0) = true)
    (a1 : PySem.W.nsIn K mainGlobals "is_int" = some (some (.ref f1)))
    (l1 : K.lookup f1 = some ⟨oc1, od1, .func (PySem.W.fnOf "is_int" "is_int" (defArgs s_is_int) (defBody s_is_int) (defScope s_is_int) .none kV1 dc1 pm1 an1 cd1 ct1), sl1⟩)
    (c1 : PySem.W.codeIn K cd1 "is_int" = true)
    (k1 : PySem.W.keepIn K (.ref f1) = true)
    (a2 : PySem.W.nsIn K mainGlobals "is_from_nought" = some (some (.ref f2)))
    (l2 : K.lookup f2 = some ⟨oc2, od2, .func (PySem.W.fnOf "is_from_nought" "is_from_nought" (defArgs s_is_from_nought) (defBody s_is_from_nought) (defScope s_is_from_nought) .none kV2 dc2 pm2 an2 cd2 ct2), sl2⟩)
    (c2 : PySem.W.codeIn K cd2 "is_from_nought" = true)
    (k2 : PySem.W.keepIn K (.ref f2) = true)
    (a3 : PySem.W.nsIn K mainGlobals "figures" = some (some (.ref f3)))
    (l3 : K.lookup f3 = some ⟨oc3, od3, .func (PySem.W.fnOf "figures" "figures" (defArgs s_figures) (defBody s_figures) (defScope s_figures) .none kV3 dc3 pm3 an3 cd3 ct3), sl3⟩)
    (c3 : PySem.W.codeIn K cd3 "figures" = true)
    (k3 : PySem.W.keepIn K (.ref f3) = true)
    (a4 : PySem.W.findIn K (.ref C_Rule) "__init__" = some (some (.ref f4)))
    (i4 : PySem.W.isFn K (.ref f4) = true)
    (l4 : K.lookup f4 = some ⟨oc4, od4, .func (PySem.W.fnOf "__init__" "Rule.__init__" (defArgs s_Rule_init) (defBody s_Rule_init) (defScope s_Rule_init) (.ref T4) kV4 dc4 pm4 an4 cd4 ct4), sl4⟩)
    (d4 : K.lookup T4 = some ⟨oT4, dT4, .seq (List.toArray [.int 0 td4_0, .int 10 td4_1, .int 0 td4_2, .bool true]) nT4, sT4⟩)
    (c4 : PySem.W.codeIn K cd4 "Rule.__init__" = true)
    (k4 : PySem.W.keepIn K (.ref f4) = true)
    (a5 : PySem.W.findIn K (.ref C_Rule) "__eq__" = some (some (.ref f5)))
    (i5 : PySem.W.isFn K (.ref f5) = true)
    (l5 : K.lookup f5 = some ⟨oc5, od5, .func (PySem.W.fnOf "__eq__" "Rule.__eq__" (defArgs s_Rule_eq) (defBody s_Rule_eq) (defScope s_Rule_eq) .none kV5 dc5 pm5 an5 cd5 ct5), sl5⟩)
    (c5 : PySem.W.codeIn K cd5 "Rule.__eq__" = true)
    (k5 : PySem.W.keepIn K (.ref f5) = true)
    (a6 : PySem.W.findIn K (.ref C_Rule) "__repr__" = some (some (.ref f6)))
    (i6 : PySem.W.isFn K (.ref f6) = true)
    (l6 : K.lookup f6 = some ⟨oc6, od6, .func (PySem.W.fnOf "__repr__" "Rule.__repr__" (defArgs s_Rule_repr) (defBody s_Rule_repr) (defScope s_Rule_repr) .none kV6 dc6 pm6 an6 cd6 ct6), sl6⟩)
    (c6 : PySem.W.codeIn K cd6 "Rule.__repr__" = true)
    (k6 : PySem.W.keepIn K (.ref f6) = true)
    (a7 : PySem.W.nsIn K mainGlobals "_law_cell_at" = some (some (.ref f7)))
    (l7 : K.lookup f7 = some ⟨oc7, od7, .func (PySem.W.fnOf "_law_cell_at" "_law_cell_at" (defArgs s_cell_at) (defBody s_cell_at) (defScope s_cell_at) .none kV7 dc7 pm7 an7 cd7 ct7), sl7⟩)
    (c7 : PySem.W.codeIn K cd7 "_law_cell_at" = true)
    (k7 : PySem.W.keepIn K (.ref f7) = true)
    (a8 : PySem.W.nsIn K mainGlobals "_law_well" = some (some (.ref f8)))
    (l8 : K.lookup f8 = some ⟨oc8, od8, .func (PySem.W.fnOf "_law_well" "_law_well" (defArgs s_well) (defBody s_well) (defScope s_well) .none kV8 dc8 pm8 an8 cd8 ct8), sl8⟩)
    (c8 : PySem.W.codeIn K cd8 "_law_well" = true)
    (k8 : PySem.W.keepIn K (.ref f8) = true)
    (a9 : PySem.W.nsIn K mainGlobals "_law_draw" = some (some (.ref f9)))
    (l9 : K.lookup f9 = some ⟨oc9, od9, .func (PySem.W.fnOf "_law_draw" "_law_draw" (defArgs s_draw) (defBody s_draw) (defScope s_draw) .none kV9 dc9 pm9 an9 cd9 ct9), sl9⟩)
    (c9 : PySem.W.codeIn K cd9 "_law_draw" = true)
    (k9 : PySem.W.keepIn K (.ref f9) = true)
    (a10 : PySem.W.nsIn K mainGlobals "_law_one" = some (some (.ref f10)))
    (l10 : K.lookup f10 = some ⟨oc10, od10, .func (PySem.W.fnOf "_law_one" "_law_one" (defArgs s_one) (defBody s_one) (defScope s_one) .none kV10 dc10 pm10 an10 cd10 ct10), sl10⟩)
    (c10 : PySem.W.codeIn K cd10 "_law_one" = true)
    (k10 : PySem.W.keepIn K (.ref f10) = true)
    (a11 : PySem.W.nsIn K mainGlobals "_law_number" = some (some (.ref f11)))
    (l11 : K.lookup f11 = some ⟨oc11, od11, .func (PySem.W.fnOf "_law_number" "_law_number" (defArgs s_number) (defBody s_number) (defScope s_number) .none kV11 dc11 pm11 an11 cd11 ct11), sl11⟩)
    (c11 : PySem.W.codeIn K cd11 "_law_number" = true)
    (k11 : PySem.W.keepIn K (.ref f11) = true)
    (a12 : PySem.W.nsIn K mainGlobals "_law_four" = some (some (.ref f12)))
    (l12 : K.lookup f12 = some ⟨oc12, od12, .func (PySem.W.fnOf "_law_four" "_law_four" (defArgs s_four) (defBody s_four) (defScope s_four) .none kV12 dc12 pm12 an12 cd12 ct12), sl12⟩)
    (c12 : PySem.W.codeIn K cd12 "_law_four" = true)
    (k12 : PySem.W.keepIn K (.ref f12) = true)
    (a13 : PySem.W.nsIn K mainGlobals "_law_spoilt" = some (some (.ref f13)))
    (l13 : K.lookup f13 = some ⟨oc13, od13, .func (PySem.W.fnOf "_law_spoilt" "_law_spoilt" (defArgs s_spoilt) (defBody s_spoilt) (defScope s_spoilt) .none kV13 dc13 pm13 an13 cd13 ct13), sl13⟩)
    (c13 : PySem.W.codeIn K cd13 "_law_spoilt" = true)
    (k13 : PySem.W.keepIn K (.ref f13) = true)
    (a14 : PySem.W.nsIn K mainGlobals "_law_made" = some (some (.ref f14)))
    (l14 : K.lookup f14 = some ⟨oc14, od14, .func (PySem.W.fnOf "_law_made" "_law_made" (defArgs s_made) (defBody s_made) (defScope s_made) .none kV14 dc14 pm14 an14 cd14 ct14), sl14⟩)
    (c14 : PySem.W.codeIn K cd14 "_law_made" = true)
    (k14 : PySem.W.keepIn K (.ref f14) = true)
    (a15 : PySem.W.nsIn K mainGlobals "_law_filled" = some (some (.ref f15)))
    (l15 : K.lookup f15 = some ⟨oc15, od15, .func (PySem.W.fnOf "_law_filled" "_law_filled" (defArgs s_filled) (defBody s_filled) (defScope s_filled) .none kV15 dc15 pm15 an15 cd15 ct15), sl15⟩)
    (c15 : PySem.W.codeIn K cd15 "_law_filled" = true)
    (k15 : PySem.W.keepIn K (.ref f15) = true)
    (a16 : PySem.W.nsIn K mainGlobals "_law_is_rule" = some (some (.ref f16)))
    (l16 : K.lookup f16 = some ⟨oc16, od16, .func (PySem.W.fnOf "_law_is_rule" "_law_is_rule" (defArgs s_is_rule) (defBody s_is_rule) (defScope s_is_rule) .none kV16 dc16 pm16 an16 cd16 ct16), sl16⟩)
    (c16 : PySem.W.codeIn K cd16 "_law_is_rule" = true)
    (k16 : PySem.W.keepIn K (.ref f16) = true)
    (a17 : PySem.W.nsIn K mainGlobals "_law_one_made" = some (some (.ref f17)))
    (l17 : K.lookup f17 = some ⟨oc17, od17, .func (PySem.W.fnOf "_law_one_made" "_law_one_made" (defArgs s_one_made) (defBody s_one_made) (defScope s_one_made) .none kV17 dc17 pm17 an17 cd17 ct17), sl17⟩)
    (c17 : PySem.W.codeIn K cd17 "_law_one_made" = true)
    (k17 : PySem.W.keepIn K (.ref f17) = true)
    (a18 : PySem.W.nsIn K mainGlobals "_law_due" = some (some (.ref f18)))
    (l18 : K.lookup f18 = some ⟨oc18, od18, .func (PySem.W.fnOf "_law_due" "_law_due" (defArgs s_due) (defBody s_due) (defScope s_due) .none kV18 dc18 pm18 an18 cd18 ct18), sl18⟩)
    (c18 : PySem.W.codeIn K cd18 "_law_due" = true)
    (k18 : PySem.W.keepIn K (.ref f18) = true)
    (a19 : PySem.W.nsIn K mainGlobals "law" = some (some (.ref f19)))
    (l19 : K.lookup f19 = some ⟨oc19, od19, .func (PySem.W.fnOf "law" "law" (defArgs s_law) (defBody s_law) (defScope s_law) .none kV19 dc19 pm19 an19 cd19 ct19), sl19⟩)
    (c19 : PySem.W.codeIn K cd19 "law" = true)
    (k19 : PySem.W.keepIn K (.ref f19) = true)
    (q1 : PySem.W.nsIn K mainGlobals "GROUP" = some (some (.int 1000000000000000000000000000000000000000000000000000000000000 tc1)))
    (z0 : PySem.W.nsIn K mainGlobals "ValueError" = some none)
    (z1 : PySem.W.nsIn K mainGlobals "bool" = some none)
    (z2 : PySem.W.nsIn K mainGlobals "isinstance" = some none)
    (z3 : PySem.W.nsIn K mainGlobals "int" = some none)
    (z4 : PySem.W.nsIn K mainGlobals "abs" = some none)
    (z5 : PySem.W.nsIn K mainGlobals "str" = some none)
    (z6 : PySem.W.nsIn K mainGlobals "len" = some none)
    (z7 : PySem.W.nsIn K mainGlobals "range" = some none)
    (z8 : PySem.W.nsIn K mainGlobals "repr" = some none)
    (z9 : PySem.W.nsIn K mainGlobals "list" = some none)
    (z10 : PySem.W.nsIn K mainGlobals "tuple" = some none)
    (xL_BadRule : K.lookup C_BadRule = some (excClassObj nm_BadRule q_BadRule C_BadRule N_BadRule bs_BadRule [.ref C_PearlError, .type "ValueError", .type "Exception", .type "BaseException", .type "object"] true sn_BadRule sub_BadRule ab_BadRule col_BadRule dd_BadRule m0_BadRule m1_BadRule m2_BadRule m3_BadRule m5_BadRule "ValueError.__new__"))
    (xsa_BadRule : PySem.W.findIn K (.ref C_BadRule) "__setattr__" = some (some (.builtin "object.__setattr__")))
    (xe_BadRule : PySem.W.subIn K (.ref C_BadRule) (.type "BaseException") = some true)
    (xt_BadRule : PySem.W.typeIn K (.ref C_BadRule) = some (.type "type"))
    (xk_BadRule : PySem.W.keepIn K (.ref C_BadRule) = true)
    (xi_BadRule : PySem.W.findIn K (.ref C_BadRule) "__init__" = some (some (.ref f0)))
    (xga_BadRule : PySem.W.findIn K (.ref C_BadRule) "__getattribute__" = some (some (.builtin "BaseException.__getattribute__")))
    (xgg_BadRule : PySem.W.findIn K (.ref C_BadRule) "__getattr__" = some none)
    (xhd_BadRule : PySem.W.hasDictIn K C_BadRule = true)
    (xca_BadRule : PySem.W.findIn K (.ref C_BadRule) "__class__" = some (some (.builtin "object.__class__")))
    (xcg_BadRule : PySem.W.specialIn K (.builtin "object.__class__") "__get__" = some (some (.builtin "getset_descriptor.__get__")))
    (xct_BadRule : PySem.W.takesIn K (.builtin "object.__class__") = some true)
    (xmo_BadRule : PySem.W.mroIn K C_BadRule (.type "object") = some true)
    (xn_BadRule_why : PySem.W.findIn K (.ref C_BadRule) "why" = some none)
    (xs_BadRule_PearlError : PySem.W.subIn K (.ref C_BadRule) (.ref C_PearlError) = some true)
    (ye_PearlError : PySem.W.subIn K (.ref C_PearlError) (.type "BaseException") = some true)
    (yh_PearlError : PySem.W.hasDictIn K C_PearlError = true)
    (yt_PearlError : PySem.W.typeIn K (.ref C_PearlError) = some (.type "type"))
    (vV : PySem.W.findCls K (.type "ValueError") (.type "type") "__init__" = some (.val (.builtin "ValueError.__init__")))
    (su_list : PySem.W.subIn K (.type "list") (.ref C_Rule) = some false)
    (no_list : PySem.W.kitOne K (.type "list") (.ref C_Rule) = some false)
    (su_tuple : PySem.W.subIn K (.type "tuple") (.ref C_Rule) = some false)
    (no_tuple : PySem.W.kitOne K (.type "tuple") (.ref C_Rule) = some false)
    (su_NoneType : PySem.W.subIn K (.type "NoneType") (.ref C_Rule) = some false)
    (no_NoneType : PySem.W.kitOne K (.type "NoneType") (.ref C_Rule) = some false)
    (su_str : PySem.W.subIn K (.type "str") (.ref C_Rule) = some false)
    (no_str : PySem.W.kitOne K (.type "str") (.ref C_Rule) = some false)
    (su_int : PySem.W.subIn K (.type "int") (.ref C_Rule) = some false)
    (no_int : PySem.W.kitOne K (.type "int") (.ref C_Rule) = some false)
    (su_bool : PySem.W.subIn K (.type "bool") (.ref C_Rule) = some false)
    (no_bool : PySem.W.kitOne K (.type "bool") (.ref C_Rule) = some false)
    (ir1 : PySem.W.findIn K (.ref C_Rule) "__class__" = some (some (.builtin "object.__class__")))
    (ki_ve : PySem.W.kitOne K (.ref C_BadRule) (.type "ValueError") = some true)
    (ki_no : PySem.W.kitAny K (.ref C_BadRule) [.ref C_BadBead, .ref C_NotLet] = some false)
    (ir2 : PySem.W.specialIn K (.builtin "object.__class__") "__get__" = some (some (.builtin "getset_descriptor.__get__")))
    (ir3 : PySem.W.takesIn K (.builtin "object.__class__") = some true)
    (ir4 : PySem.W.mroIn K C_Rule (.type "object") = some true) :
    ∃ fd : FuncData, (∀ (s : Shared) (v : Value), BindsTo s fd ⟨[v], []⟩ [("_law_script", v)]) ∧ ∀ base : Heap, K.In base → base.Ns mainGlobals mg → FnOk l.prog w K mg base CX0 13 fa fd ["_law_script"] (spLaw K) := by
  have e := hfa.symm.trans (PySem.W.mg_of X G a19)
  cases e
  have F0 : FunD K "__init__" "PearlError.__init__" (defArgs s_PearlError_init) (defBody s_PearlError_init) (defScope s_PearlError_init) [.str ""] [] f0 (PySem.W.fnOf "__init__" "PearlError.__init__" (defArgs s_PearlError_init) (defBody s_PearlError_init) (defScope s_PearlError_init) (.ref T0) kV0 dc0 pm0 an0 cd0 ct0) := ⟨⟨_, _, _, _, _, _, _, _, _, _, rfl, l0, c0, .inr ⟨(fun z => nomatch z), _, _, _, _, rfl, d0, rfl, .cons ⟨_, rfl⟩ (.nil)⟩, .inl rfl⟩, k0⟩
  have F1 := fun_mk (st := s_is_int) l1 c1 k1
  have F2 := fun_mk (st := s_is_from_nought) l2 c2 k2
  have F3 := fun_mk (st := s_figures) l3 c3 k3
  have F4 : FunD K "__init__" "Rule.__init__" (defArgs s_Rule_init) (defBody s_Rule_init) (defScope s_Rule_init) [.int 0, .int 10, .int 0, .bl true] [] f4 (PySem.W.fnOf "__init__" "Rule.__init__" (defArgs s_Rule_init) (defBody s_Rule_init) (defScope s_Rule_init) (.ref T4) kV4 dc4 pm4 an4 cd4 ct4) := ⟨⟨_, _, _, _, _, _, _, _, _, _, rfl, l4, c4, .inr ⟨(fun z => nomatch z), _, _, _, _, rfl, d4, rfl, .cons ⟨_, rfl⟩ (.cons ⟨_, rfl⟩ (.cons ⟨_, rfl⟩ (.cons rfl (.nil))))⟩, .inl rfl⟩, k4⟩
  have F5 := fun_mk (st := s_Rule_eq) l5 c5 k5
  have F6 := fun_mk (st := s_Rule_repr) l6 c6 k6
  have F7 := fun_mk (st := s_cell_at) l7 c7 k7
  have F8 := fun_mk (st := s_well) l8 c8 k8
  have F9 := fun_mk (st := s_draw) l9 c9 k9
  have F10 := fun_mk (st := s_one) l10 c10 k10
  have F11 := fun_mk (st := s_number) l11 c11 k11
  have F12 := fun_mk (st := s_four) l12 c12 k12
  have F13 := fun_mk (st := s_spoilt) l13 c13 k13
  have F14 := fun_mk (st := s_made) l14 c14 k14
  have F15 := fun_mk (st := s_filled) l15 c15 k15
  have F16 := fun_mk (st := s_is_rule) l16 c16 k16
  have F17 := fun_mk (st := s_one_made) l17 c17 k17
  have F18 := fun_mk (st := s_due) l18 c18 k18
  have F19 := fun_mk (st := s_law) l19 c19 k19
  have b0 : Binds K (PySem.W.fnOf "__init__" "PearlError.__init__" (defArgs s_PearlError_init) (defBody s_PearlError_init) (defScope s_PearlError_init) (.ref T0) kV0 dc0 pm0 an0 cd0 ct0) ["self", "why"] [] := by
    obtain ⟨ds, hv, hb⟩ := F0.binds1 (ps := ["self", "why"]) 2 1 (fun z => nomatch z) rfl fun _ _ _ _ _ _ _ us its h1 h2 => match us, its, h1, h2 with | [_, _], [_], _, _ => ⟨_, rfl, rfl⟩
    cases hv
    exact hb
  have b1 := F1.binds (ps := ["thing"]) fun _ _ _ _ _ _ us hl => match us, hl with | [_], _ => rfl
  have b2 := F2.binds (ps := ["thing"]) fun _ _ _ _ _ _ us hl => match us, hl with | [_], _ => rfl
  have b3 := F3.binds (ps := ["number"]) fun _ _ _ _ _ _ us hl => match us, hl with | [_], _ => rfl
  have b4 : Binds K (PySem.W.fnOf "__init__" "Rule.__init__" (defArgs s_Rule_init) (defBody s_Rule_init) (defScope s_Rule_init) (.ref T4) kV4 dc4 pm4 an4 cd4 ct4) ["self", "least", "most", "match", "shades"] [] := by
    obtain ⟨ds, hv, hb⟩ := F4.binds1 (ps := ["self", "least", "most", "match", "shades"]) 5 4 (fun z => nomatch z) rfl fun _ _ _ _ _ _ _ us its h1 h2 => match us, its, h1, h2 with | [_, _, _, _, _], [_, _, _, _], _, _ => ⟨_, rfl, rfl⟩
    cases hv
    exact hb
  have b5 := F5.binds (ps := ["self", "other"]) fun _ _ _ _ _ _ us hl => match us, hl with | [_, _], _ => rfl
  have b6 := F6.binds (ps := ["self"]) fun _ _ _ _ _ _ us hl => match us, hl with | [_], _ => rfl
  have b7 := F7.binds (ps := ["_law_script", "_law_k"]) fun _ _ _ _ _ _ us hl => match us, hl with | [_, _], _ => rfl
  have b8 := F8.binds (ps := ["_law_cell"]) fun _ _ _ _ _ _ us hl => match us, hl with | [_], _ => rfl
  have b9 := F9.binds (ps := ["_law_well_here", "_law_many"]) fun _ _ _ _ _ _ us hl => match us, hl with | [_, _], _ => rfl
  have b10 := F10.binds (ps := ["_law_well_here", "_law_some"]) fun _ _ _ _ _ _ us hl => match us, hl with | [_, _], _ => rfl
  have b11 := F11.binds (ps := ["_law_well_here"]) fun _ _ _ _ _ _ us hl => match us, hl with | [_], _ => rfl
  have b12 := F12.binds (ps := ["_law_well_here"]) fun _ _ _ _ _ _ us hl => match us, hl with | [_], _ => rfl
  have b13 := F13.binds (ps := ["_law_well_here", "_law_four_here"]) fun _ _ _ _ _ _ us hl => match us, hl with | [_, _], _ => rfl
  have b14 := F14.binds (ps := ["_law_way", "_law_four_here"]) fun _ _ _ _ _ _ us hl => match us, hl with | [_, _], _ => rfl
  have b15 := F15.binds (ps := ["_law_way", "_law_four_here"]) fun _ _ _ _ _ _ us hl => match us, hl with | [_, _], _ => rfl
  have b16 := F16.binds (ps := ["_law_four_here"]) fun _ _ _ _ _ _ us hl => match us, hl with | [_], _ => rfl
  have b17 := F17.binds (ps := ["_law_way", "_law_four_here"]) fun _ _ _ _ _ _ us hl => match us, hl with | [_, _], _ => rfl
  have b18 := F18.binds (ps := ["_law_four_here"]) fun _ _ _ _ _ _ us hl => match us, hl with | [_], _ => rfl
  obtain ⟨i_kb_1, h_kb_1⟩ := F4.kbindsD (ps := ["self", "least", "most", "match", "shades"]) 1 ["shades", "match", "most", "least"] (fun us its ws => kw [(0, 0), (2, 3), (2, 2), (2, 1), (2, 0)] us its ws) (fun z => nomatch z) (fun r1 r2 r3 => kw_rel _ r1 r2 r3) (fun _ _ _ _ _ _ _ us its ws h1 h2 h3 => match us, its, ws, h1, h2, h3 with | [_], [_, _, _, _], [_, _, _, _], _, _, _ => ⟨_, rfl, rfl⟩)
  obtain ⟨i_kb_2, h_kb_2⟩ := F4.kbindsD (ps := ["self", "least", "most", "match", "shades"]) 2 ["match", "most"] (fun us its ws => kw [(0, 0), (0, 1), (2, 1), (2, 0), (1, 3)] us its ws) (fun z => nomatch z) (fun r1 r2 r3 => kw_rel _ r1 r2 r3) (fun _ _ _ _ _ _ _ us its ws h1 h2 h3 => match us, its, ws, h1, h2, h3 with | [_, _], [_, _, _, _], [_, _], _, _, _ => ⟨_, rfl, rfl⟩)
  obtain ⟨i_kb_3, h_kb_3⟩ := F4.kbindsD (ps := ["self", "least", "most", "match", "shades"]) 3 ["shades"] (fun us its ws => kw [(0, 0), (0, 1), (0, 2), (1, 2), (2, 0)] us its ws) (fun z => nomatch z) (fun r1 r2 r3 => kw_rel _ r1 r2 r3) (fun _ _ _ _ _ _ _ us its ws h1 h2 h3 => match us, its, ws, h1, h2, h3 with | [_, _, _], [_, _, _, _], [_], _, _, _ => ⟨_, rfl, rfl⟩)
  obtain ⟨i_kb_5, h_kb_5⟩ := F4.kbindsD (ps := ["self", "least", "most", "match", "shades"]) 1 ["most"] (fun us its ws => kw [(0, 0), (1, 0), (2, 0), (1, 2), (1, 3)] us its ws) (fun z => nomatch z) (fun r1 r2 r3 => kw_rel _ r1 r2 r3) (fun _ _ _ _ _ _ _ us its ws h1 h2 h3 => match us, its, ws, h1, h2, h3 with | [_], [_, _, _, _], [_], _, _, _ => ⟨_, rfl, rfl⟩)
  obtain ⟨i_kb_6, h_kb_6⟩ := F4.kbindsD (ps := ["self", "least", "most", "match", "shades"]) 1 ["match"] (fun us its ws => kw [(0, 0), (1, 0), (1, 1), (2, 0), (1, 3)] us its ws) (fun z => nomatch z) (fun r1 r2 r3 => kw_rel _ r1 r2 r3) (fun _ _ _ _ _ _ _ us its ws h1 h2 h3 => match us, its, ws, h1, h2, h3 with | [_], [_, _, _, _], [_], _, _, _ => ⟨_, rfl, rfl⟩)
  obtain ⟨i_kb_7, h_kb_7⟩ := F4.kbindsD (ps := ["self", "least", "most", "match", "shades"]) 1 ["shades"] (fun us its ws => kw [(0, 0), (1, 0), (1, 1), (1, 2), (2, 0)] us its ws) (fun z => nomatch z) (fun r1 r2 r3 => kw_rel _ r1 r2 r3) (fun _ _ _ _ _ _ _ us its ws h1 h2 h3 => match us, its, ws, h1, h2, h3 with | [_], [_, _, _, _], [_], _, _, _ => ⟨_, rfl, rfl⟩)
  obtain ⟨ds0, hd0, bd0⟩ := F4.binds1 (ps := ["self", "least", "most", "match", "shades"]) 1 0 (fun z => nomatch z) rfl fun _ _ _ _ _ _ _ us its h1 h2 => match us, its, h1, h2 with | [_], [_, _, _, _], _, _ => ⟨_, rfl, rfl⟩
  obtain ⟨ds1, hd1, bd1⟩ := F4.binds1 (ps := ["self", "least", "most", "match", "shades"]) 2 1 (fun z => nomatch z) rfl fun _ _ _ _ _ _ _ us its h1 h2 => match us, its, h1, h2 with | [_, _], [_, _, _, _], _, _ => ⟨_, rfl, rfl⟩
  let T : Tx K mg := ⟨C_Rule, ⟨pg_Rule, hd_Rule, po_Rule, sa_Rule⟩, PySem.W.mg_of X G aC_Rule, n_Rule_least, n_Rule_most, n_Rule_match, n_Rule_shades,
    _, _, F0, b0,
    _, _, F1, PySem.W.mg_of X G a1, b1,
    _, _, F2, PySem.W.mg_of X G a2, b2,
    _, _, F3, PySem.W.mg_of X G a3, b3,
    _, _, F4, ⟨mk_Rule, a4, i4, kc_Rule⟩, b4,
    _, _, F5, ⟨a5, i5, k5⟩, b5,
    _, _, F6, ⟨a6, i6, k6⟩, b6,
    _, _, F7, PySem.W.mg_of X G a7, b7,
    _, _, F8, PySem.W.mg_of X G a8, b8,
    _, _, F9, PySem.W.mg_of X G a9, b9,
    _, _, F10, PySem.W.mg_of X G a10, b10,
    _, _, F11, PySem.W.mg_of X G a11, b11,
    _, _, F12, PySem.W.mg_of X G a12, b12,
    _, _, F13, PySem.W.mg_of X G a13, b13,
    _, _, F14, PySem.W.mg_of X G a14, b14,
    _, _, F15, PySem.W.mg_of X G a15, b15,
    _, _, F16, PySem.W.mg_of X G a16, b16,
    _, _, F17, PySem.W.mg_of X G a17, b17,
    _, _, F18, PySem.W.mg_of X G a18, b18,
    C_PearlError, PySem.W.mg_of X G aC_PearlError,
    C_BadBead, PySem.W.mg_of X G aC_BadBead,
    C_NotLet, PySem.W.mg_of X G aC_NotLet,
    C_BadRule, PySem.W.mg_of X G aC_BadRule,
    ⟨⟨nm_BadRule, q_BadRule, N_BadRule, bs_BadRule, _, sn_BadRule, sub_BadRule, ab_BadRule, col_BadRule, dd_BadRule, m0_BadRule, m1_BadRule, m2_BadRule, m3_BadRule, m5_BadRule, xL_BadRule, rfl⟩, xsa_BadRule, xe_BadRule, xt_BadRule, xk_BadRule⟩,
    xi_BadRule, beq_iff_eq.mp i0,
    ⟨xga_BadRule, xgg_BadRule, xe_BadRule, xhd_BadRule, xca_BadRule, xcg_BadRule, xct_BadRule, xmo_BadRule⟩,
    xn_BadRule_why,
    PySem.W.exm_ref ye_PearlError yh_PearlError yt_PearlError xs_BadRule_PearlError,
    vV,
    i_kb_1,
    h_kb_1,
    i_kb_2,
    h_kb_2,
    i_kb_3,
    h_kb_3,
    i_kb_5,
    h_kb_5,
    i_kb_6,
    h_kb_6,
    i_kb_7,
    h_kb_7,
    ds0,
    hd0,
    bd0,
    ds1,
    hd1,
    bd1,
    (by simp [PySem.W.notFirst, su_list]),
    no_list,
    (by simp [PySem.W.notFirst, su_tuple]),
    no_tuple,
    (by simp [PySem.W.notFirst, su_NoneType]),
    no_NoneType,
    (by simp [PySem.W.notFirst, su_str]),
    no_str,
    (by simp [PySem.W.notFirst, su_int]),
    no_int,
    (by simp [PySem.W.notFirst, su_bool]),
    no_bool,
    (if_pos (beq_self_eq_true _)),
    ir1,
    ki_ve,
    ki_no,
    (if_pos (beq_self_eq_true _)),
    ir2,
    ir3,
    ir4,
    _, PySem.W.mg_of X G q1,
    PySem.W.mg_none_of X G z0,
    PySem.W.mg_none_of X G z1,
    PySem.W.mg_none_of X G z2,
    PySem.W.mg_none_of X G z3,
    PySem.W.mg_none_of X G z4,
    PySem.W.mg_none_of X G z5,
    PySem.W.mg_none_of X G z6,
    PySem.W.mg_none_of X G z7,
    PySem.W.mg_none_of X G z8,
    PySem.W.mg_none_of X G z9,
    PySem.W.mg_none_of X G z10⟩
  exact ⟨PySem.W.fnOf "law" "law" (defArgs s_law) (defBody s_law) (defScope s_law) .none kV19 dc19 pm19 an19 cd19 ct19, fun s v => .of_eq rfl, fun base _ _ => ok_law T F19⟩
end KB
open PySem PySem.W PyProof.Rows
set_option maxRecDepth 100000 in
set_option maxHeartbeats 0 in
theorem PySem.Challenge.cw_pearlrise_k21_rules_made_holds : PySem.Challenge.rw_pearlrise_k21_rules_made.Holds := by
  w_on; o_law; k_head; (case hw => w_witness2)
  k_fill
  refine L2.walk_of (l := PySem.Challenge.rw_pearlrise_k21_rules_made) (n := 63) (k := 13) (x := "_law_script") (CX := fun _ => L2.CX0) (sp := fun w => KB.spLaw _) rfl (by decide) rfl ⟨rfl, by decide, by decide⟩ (fun w h Y => PySem.W.kIn_of Y) ?F (fun _ _ a ns hl _ hS => ⟨a, ns, rfl, hS, hl, fun _ => rfl⟩) (fun _ _ _ _ _ h => h)
  case F =>
    intro w mg fa h KX G hmg
    refine' KB.all_mk KX G hmg ?aC_Rule ?pg_Rule ?hd_Rule ?po_Rule ?sa_Rule ?mk_Rule ?kc_Rule ?n_Rule_least ?n_Rule_most ?n_Rule_match ?n_Rule_shades ?aC_PearlError ?aC_BadBead ?aC_NotLet ?aC_BadRule ?a0 ?i0 ?l0 ?d0 ?c0 ?k0 ?a1 ?l1 ?c1 ?k1 ?a2 ?l2 ?c2 ?k2 ?a3 ?l3 ?c3 ?k3 ?a4 ?i4 ?l4 ?d4 ?c4 ?k4 ?a5 ?i5 ?l5 ?c5 ?k5 ?a6 ?i6 ?l6 ?c6 ?k6 ?a7 ?l7 ?c7 ?k7 ?a8 ?l8 ?c8 ?k8 ?a9 ?l9 ?c9 ?k9 ?a10 ?l10 ?c10 ?k10 ?a11 ?l11 ?c11 ?k11 ?a12 ?l12 ?c12 ?k12 ?a13 ?l13 ?c13 ?k13 ?a14 ?l14 ?c14 ?k14 ?a15 ?l15 ?c15 ?k15 ?a16 ?l16 ?c16 ?k16 ?a17 ?l17 ?c17 ?k17 ?a18 ?l18 ?c18 ?k18 ?a19 ?l19 ?c19 ?k19 ?q1 ?z0 ?z1 ?z2 ?z3 ?z4 ?z5 ?z6 ?z7 ?z8 ?z9 ?z10 ?xL_BadRule ?xsa_BadRule ?xe_BadRule ?xt_BadRule ?xk_BadRule ?xi_BadRule ?xga_BadRule ?xgg_BadRule ?xhd_BadRule ?xca_BadRule ?xcg_BadRule ?xct_BadRule ?xmo_BadRule ?xn_BadRule_why ?xs_BadRule_PearlError ?ye_PearlError ?yh_PearlError ?yt_PearlError ?vV ?su_list ?no_list ?su_tuple ?no_tuple ?su_NoneType ?no_NoneType ?su_str ?no_str ?su_int ?no_int ?su_bool ?no_bool ?ir1 ?ki_ve ?ki_no ?ir2 ?ir3 ?ir4
    (case aC_Rule => k_is)
    (case pg_Rule => k_is)
    (case hd_Rule => k_is)
    (case po_Rule => k_is)
    (case sa_Rule => k_is)
    (case mk_Rule => k_is)
    (case kc_Rule => k_is)
    (case n_Rule_least => k_is)
    (case n_Rule_most => k_is)
    (case n_Rule_match => k_is)
    (case n_Rule_shades => k_is)
    (case aC_PearlError => k_is)
    (case aC_BadBead => k_is)
    (case aC_NotLet => k_is)
    (case aC_BadRule => k_is)
    (case a0 => k_is)
    (case i0 => k_is)
    (case l0 => k_is)
    (case d0 => k_is)
    (case c0 => k_is)
    (case k0 => k_is)
    (case a1 => k_is)
    (case l1 => k_is)
    (case c1 => k_is)
    (case k1 => k_is)
    (case a2 => k_is)
    (case l2 => k_is)
    (case c2 => k_is)
    (case k2 => k_is)
    (case a3 => k_is)
    (case l3 => k_is)
    (case c3 => k_is)
    (case k3 => k_is)
    (case a4 => k_is)
    (case i4 => k_is)
    (case l4 => k_is)
    (case d4 => k_is)
    (case c4 => k_is)
    (case k4 => k_is)
    (case a5 => k_is)
    (case i5 => k_is)
    (case l5 => k_is)
    (case c5 => k_is)
    (case k5 => k_is)
    (case a6 => k_is)
    (case i6 => k_is)
    (case l6 => k_is)
    (case c6 => k_is)
    (case k6 => k_is)
    (case a7 => k_is)
    (case l7 => k_is)
    (case c7 => k_is)
    (case k7 => k_is)
    (case a8 => k_is)
    (case l8 => k_is)
    (case c8 => k_is)
    (case k8 => k_is)
    (case a9 => k_is)
    (case l9 => k_is)
    (case c9 => k_is)
    (case k9 => k_is)
    (case a10 => k_is)
    (case l10 => k_is)
    (case c10 => k_is)
    (case k10 => k_is)
    (case a11 => k_is)
    (case l11 => k_is)
    (case c11 => k_is)
    (case k11 => k_is)
    (case a12 => k_is)
    (case l12 => k_is)
    (case c12 => k_is)
    (case k12 => k_is)
    (case a13 => k_is)
    (case l13 => k_is)
    (case c13 => k_is)
    (case k13 => k_is)
    (case a14 => k_is)
    (case l14 => k_is)
    (case c14 => k_is)
    (case k14 => k_is)
    (case a15 => k_is)
    (case l15 => k_is)
    (case c15 => k_is)
    (case k15 => k_is)
    (case a16 => k_is)
    (case l16 => k_is)
    (case c16 => k_is)
    (case k16 => k_is)
    (case a17 => k_is)
    (case l17 => k_is)
    (case c17 => k_is)
    (case k17 => k_is)
    (case a18 => k_is)
    (case l18 => k_is)
    (case c18 => k_is)
    (case k18 => k_is)
    (case a19 => k_is)
    (case l19 => k_is)
    (case c19 => k_is)
    (case k19 => k_is)
    (case q1 => k_is)
    (case z0 => k_is)
    (case z1 => k_is)
    (case z2 => k_is)
    (case z3 => k_is)
    (case z4 => k_is)
    (case z5 => k_is)
    (case z6 => k_is)
    (case z7 => k_is)
    (case z8 => k_is)
    (case z9 => k_is)
    (case z10 => k_is)
    (case xL_BadRule => k_is)
    (case xsa_BadRule => k_is)
    (case xe_BadRule => k_is)
    (case xt_BadRule => k_is)
    (case xk_BadRule => k_is)
    (case xi_BadRule => k_is)
    (case xga_BadRule => k_is)
    (case xgg_BadRule => k_is)
    (case xhd_BadRule => k_is)
    (case xca_BadRule => k_is)
    (case xcg_BadRule => k_is)
    (case xct_BadRule => k_is)
    (case xmo_BadRule => k_is)
    (case xn_BadRule_why => k_is)
    (case xs_BadRule_PearlError => k_is)
    (case ye_PearlError => k_is)
    (case yh_PearlError => k_is)
    (case yt_PearlError => k_is)
    (case vV => k_is)
    (case su_list => k_is)
    (case no_list => kit_is)
    (case su_tuple => k_is)
    (case no_tuple => kit_is)
    (case su_NoneType => k_is)
    (case no_NoneType => kit_is)
    (case su_str => k_is)
    (case no_str => kit_is)
    (case su_int => k_is)
    (case no_int => kit_is)
    (case su_bool => k_is)
    (case no_bool => kit_is)
    (case ir1 => k_is)
    (case ki_ve => kit_is)
    (case ki_no => kit_is)
    (case ir2 => k_is)
    (case ir3 => k_is)
    (case ir4 => k_is)
