import PyProof.Rows.All
import Wide.All
import OpenK.AllK
import Wide.FinOn
import HandS.ForMost
import HandS.IsInst
import HandS.Wide
import HandS.Walk
import HandS.TupAny
import HandS.Style
import HandS.Defaults
import HandS.MakeKw
import KE.IntTextLaws
import HandS.OwnEq
import KE.SortKeyHeap
import HandS.SortKw
import HandS.TupLe
import HandS.Lambda
import HandS.EndTab
import HandS.Text
import HandS.ExcInit
import HandS.ExcField
import HandS.ExcIs
import HandS.ExcOwn
import HandS.WordsExc
import KE.KExcIs
import HandS.MakeKwOnly
import HandS.FStr
import PyProof.InstSpecial
import PyProof.FString2
import KE.KCallOwn
import HandS.FStrTup
import HandS.Flow
import HandS.Strs
import PySem.Challenge.RW_pearlrise_k07_rows_and_order
set_option Elab.async false
set_option linter.all false
set_option maxRecDepth 100000
set_option maxHeartbeats 4000000
namespace KA
open PySem PySem.Spec PyProof.Rows L2
/-! ### heaps -/
theorem same_upd {H : Hp} {p : Addr} {o : HO} (h : H p = none) : Same H (upd H p o) := fun b x e => by
  rw [upd_ne (ne_of_none e h)]
  exact e
/-- all but what stands at d is as it was -/
def But (d : Addr) (H H' : Hp) : Prop := ∀ b o, b ≠ d → H b = some o → H' b = some o
theorem But.refl (d : Addr) (H : Hp) : But d H H := fun _ _ _ h => h
theorem But.trans {d : Addr} {H H1 H2 : Hp} (a : But d H H1) (b : But d H1 H2) : But d H H2 := fun c o n h => b c o n (a c o n h)
theorem But.of {d : Addr} {H H' : Hp} (s : Same H H') : But d H H' := fun b o _ h => s b o h
theorem But.at_ {d : Addr} {H : Hp} {o : HO} : But d H (upd H d o) := fun b x n h => by
  rw [upd_ne n]
  exact h
theorem But.new {d p : Addr} {H : Hp} {o : HO} (h : H p = none) : But d H (upd H p o) := But.of (same_upd h)
theorem But.same {d : Addr} {H0 H H' : Hp} (h0 : H0 d = none) (s : Same H0 H) (b : But d H H') : Same H0 H' := fun c o h => b c o (ne_of_none h h0) (s c o h)
theorem But.mut {d : Addr} {H0 H : Hp} {o : HO} {p : Addr} (b : But d H0 H) (h : H0 p = none) : But d H0 (upd H p o) := fun c x n e => by
  rw [upd_ne (ne_of_none e h)]
  exact b c x n e
theorem But.free {d p : Addr} {H H' : Hp} (b : But d H H') (n : p ≠ d) (h : H' p = none) : H p = none := by
  cases q : H p with
  | none => rfl
  | some o =>
    rw [b p o n q] at h
    cases h
theorem but_seq {K : PySem.W.Frag} {d a : Addr} {H H' : Hp} {xs : List V} (b : But d H H') (n : a ≠ d) (h : SqL K H a xs) : SqL K H' a xs := by
  rcases h with (h | ⟨o, h⟩) | h
  · exact .inl (.inl (b _ _ n h))
  · exact .inl (.inr ⟨o, b _ _ n h⟩)
  · exact .inr h
/-- the draws' list at d, its counter at most n -/
def Dr (P : Int → Prop) (d : Addr) (n : Nat) (H : Hp) : Prop := ∃ a b c : Int, H d = some (.lst [.int a, .int b, .int c]) ∧ P b ∧ 0 ≤ c ∧ c ≤ n
theorem Dr.same {P : Int → Prop} {d : Addr} {n : Nat} {H H' : Hp} (h : Dr P d n H) (s : Same H H') : Dr P d n H' := by
  obtain ⟨a, b, c, e, r⟩ := h
  exact ⟨a, b, c, s _ _ e, r⟩
theorem Dr.ne {P : Int → Prop} {d p : Addr} {n : Nat} {H : Hp} (h : Dr P d n H) (e : H p = none) : p ≠ d := by
  obtain ⟨a, b, c, z, _⟩ := h
  exact (ne_of_none z e).symm
theorem Dr.mono {P : Int → Prop} {d : Addr} {n m : Nat} {H : Hp} (h : Dr P d n H) (e : n ≤ m) : Dr P d m H := by
  obtain ⟨a, b, c, z, h1, h3, h4⟩ := h
  exact ⟨a, b, c, z, h1, h3, by omega⟩
theorem Dr.upd {P : Int → Prop} {d p : Addr} {n : Nat} {H : Hp} {o : HO} (h : Dr P d n H) (e : p ≠ d) : Dr P d n (L2.upd H p o) := by
  obtain ⟨a, b, c, z, r⟩ := h
  exact ⟨a, b, c, by rw [upd_ne e.symm]; exact z, r⟩
theorem yesT {σ : L2.St} {H : Hp} {A B : Hp → Prop} (h : A H) : tYes σ H (fun b H3 => if b = true then A H3 else B H3) := by
  show if true = true then A H else B H
  exact iteT h
/-! ### what is no own object -/
inductive Th (K : PySem.W.Frag) (H : Hp) : V → Prop
  | int (i : Int) : Th K H (.int i)
  | bl (b : Bool) : Th K H (.bl b)
  | str (z : Str) : Th K H (.str z)
  | non : Th K H .non
  | lst {a : Addr} (h : TyX K H (.ref a) (.type "list")) : Th K H (.ref a)
  | tup {a : Addr} (h : TyX K H (.ref a) (.type "tuple")) : Th K H (.ref a)
  | dct {a : Addr} (h : TyX K H (.ref a) (.type "dict")) : Th K H (.ref a)
def isI : V → Bool
  | .int _ => true
  | _ => false
def isB : V → Bool
  | .bl _ => true
  | _ => false
def isS : V → Bool
  | .str _ => true
  | _ => false
theorem isi_int {K : PySem.W.Frag} {H : Hp} {v : V} (h : Th K H v) : ∃ t, TyX K H v t ∧ PySem.W.kitOne K t (.type "int") = some (isI v || isB v) := by
  cases h with
  | int i => exact ⟨_, .base (.int i), kit_ty (r := true) (by decide +kernel)⟩
  | bl b => exact ⟨_, .base (.bl b), kit_ty (r := true) (by decide +kernel)⟩
  | str z => exact ⟨_, .base (.str z), kit_ty (r := false) (by decide +kernel)⟩
  | non => exact ⟨_, .base .non, kit_ty (r := false) (by decide +kernel)⟩
  | lst h => exact ⟨_, h, kit_ty (r := false) (by decide +kernel)⟩
  | tup h => exact ⟨_, h, kit_ty (r := false) (by decide +kernel)⟩
  | dct h => exact ⟨_, h, kit_ty (r := false) (by decide +kernel)⟩
theorem isi_bool {K : PySem.W.Frag} {H : Hp} {v : V} (h : Th K H v) : ∃ t, TyX K H v t ∧ PySem.W.kitOne K t (.type "bool") = some (isB v) := by
  cases h with
  | int i => exact ⟨_, .base (.int i), kit_ty (r := false) (by decide +kernel)⟩
  | bl b => exact ⟨_, .base (.bl b), kit_ty (r := true) (by decide +kernel)⟩
  | str z => exact ⟨_, .base (.str z), kit_ty (r := false) (by decide +kernel)⟩
  | non => exact ⟨_, .base .non, kit_ty (r := false) (by decide +kernel)⟩
  | lst h => exact ⟨_, h, kit_ty (r := false) (by decide +kernel)⟩
  | tup h => exact ⟨_, h, kit_ty (r := false) (by decide +kernel)⟩
  | dct h => exact ⟨_, h, kit_ty (r := false) (by decide +kernel)⟩
theorem isi_str {K : PySem.W.Frag} {H : Hp} {v : V} (h : Th K H v) : ∃ t, TyX K H v t ∧ PySem.W.kitOne K t (.type "str") = some (isS v) := by
  cases h with
  | int i => exact ⟨_, .base (.int i), kit_ty (r := false) (by decide +kernel)⟩
  | bl b => exact ⟨_, .base (.bl b), kit_ty (r := false) (by decide +kernel)⟩
  | str z => exact ⟨_, .base (.str z), kit_ty (r := true) (by decide +kernel)⟩
  | non => exact ⟨_, .base .non, kit_ty (r := false) (by decide +kernel)⟩
  | lst h => exact ⟨_, h, kit_ty (r := false) (by decide +kernel)⟩
  | tup h => exact ⟨_, h, kit_ty (r := false) (by decide +kernel)⟩
  | dct h => exact ⟨_, h, kit_ty (r := false) (by decide +kernel)⟩
/-! ### signs -/
def lower (c : Nat) : Bool := decide (97 ≤ c) && decide (c ≤ 122)
def figure (c : Nat) : Bool := decide (48 ≤ c) && decide (c ≤ 57)
theorem sgl_lt (a b : Nat) : (([a] : List Nat) < [b]) ↔ a < b := by
  rw [List.cons_lt_cons_iff]
  simp
theorem ge_a (c : Nat) : (!decide ((⟨#[c]⟩ : Str).cps.toList < ("a" : Str).cps.toList)) = decide (97 ≤ c) := by
  have e : ("a" : Str).cps.toList = [97] := by decide +kernel
  rw [e]
  show (!decide ([c] < [97])) = _
  rw [decide_eq_decide.mpr (sgl_lt c 97), ← decide_not, decide_eq_decide]
  omega
theorem le_z (c : Nat) : (!decide (("z" : Str).cps.toList < (⟨#[c]⟩ : Str).cps.toList)) = decide (c ≤ 122) := by
  have e : ("z" : Str).cps.toList = [122] := by decide +kernel
  rw [e]
  show (!decide ([122] < [c])) = _
  rw [decide_eq_decide.mpr (sgl_lt 122 c), ← decide_not, decide_eq_decide]
  omega
theorem in_az (c : Nat) : decide (c ∈ ("abcdefghijklmnopqrstuvwxyz" : Str).cps.toList) = lower c := by
  have e : ("abcdefghijklmnopqrstuvwxyz" : Str).cps.toList = (List.range 26).map (· + 97) := by decide +kernel
  unfold lower
  rw [e, ← Bool.decide_and, decide_eq_decide, List.mem_map]
  constructor
  · rintro ⟨a, ha, rfl⟩
    rw [List.mem_range] at ha
    omega
  · intro h
    exact ⟨c - 97, List.mem_range.mpr (by omega), by omega⟩
theorem in_09 (c : Nat) : decide (c ∈ ("0123456789" : Str).cps.toList) = figure c := by
  have e : ("0123456789" : Str).cps.toList = (List.range 10).map (· + 48) := by decide +kernel
  unfold figure
  rw [e, ← Bool.decide_and, decide_eq_decide, List.mem_map]
  constructor
  · rintro ⟨a, ha, rfl⟩
    rw [List.mem_range] at ha
    omega
  · intro h
    exact ⟨c - 48, List.mem_range.mpr (by omega), by omega⟩
/-! ### numbers by figures -/
open NumText TL
theorem fold_lt : ∀ (cs : List Nat) (a : Nat), AllDigits cs → a * 10 ^ cs.length ≤ cs.foldl (fun acc c => acc * 10 + (c - 48)) a ∧ cs.foldl (fun acc c => acc * 10 + (c - 48)) a < (a + 1) * 10 ^ cs.length
  | [], a, _ => by simp
  | c :: cs, a, h => by
    have hc := h.head
    have ih := fold_lt cs (a * 10 + (c - 48)) h.tail
    rw [List.foldl_cons, List.length_cons, Nat.pow_succ]
    have p : 0 < 10 ^ cs.length := Nat.pos_of_ne_zero (by simp)
    generalize 10 ^ cs.length = q at *
    refine ⟨Nat.le_trans ?_ ih.1, Nat.lt_of_lt_of_le ih.2 ?_⟩
    · have : a * (q * 10) = (a * 10) * q := by rw [Nat.mul_comm q 10, ← Nat.mul_assoc]
      rw [this]
      exact Nat.mul_le_mul_right q (by omega)
    · have : (a + 1) * (q * 10) = ((a + 1) * 10) * q := by rw [Nat.mul_comm q 10, ← Nat.mul_assoc]
      rw [this]
      exact Nat.mul_le_mul_right q (by omega)
theorem val_lt {cs : List Nat} (h : AllDigits cs) : digitsVal cs < 10 ^ cs.length := by
  have := (fold_lt cs 0 h).2
  rw [Nat.zero_add, Nat.one_mul] at this
  exact this
theorem val_ge {c : Nat} {cs : List Nat} (h : AllDigits (c :: cs)) (hc : c ≠ 48) : 10 ^ cs.length ≤ digitsVal (c :: cs) := by
  have h1 := h.head
  have := (fold_lt cs (0 * 10 + (c - 48)) h.tail).1
  refine Nat.le_trans ?_ this
  have : 1 * 10 ^ cs.length ≤ (0 * 10 + (c - 48)) * 10 ^ cs.length := Nat.mul_le_mul_right _ (by omega)
  omega
theorem val_zero {cs : List Nat} : digitsVal (48 :: cs) = digitsVal cs := rfl
/-- the figures of a number have as many signs as the word just where it has no nought ahead of others -/
theorem len_canon {c : Nat} {cs : List Nat} (h : AllDigits (c :: cs)) : (numL (digitsVal (c :: cs))).length = (c :: cs).length ↔ ¬ (c = 48 ∧ 1 < (c :: cs).length) := by
  constructor
  · rintro e ⟨rfl, hl⟩
    rw [val_zero] at e
    rw [List.length_cons] at e hl
    have := numL_len (n := digitsVal cs) (k := cs.length) (by omega) (val_lt h.tail)
    omega
  · intro hn
    by_cases hc : c = 48
    · subst hc
      have : cs = [] := by
        cases cs with
        | nil => rfl
        | cons d r =>
          exact absurd ⟨rfl, by rw [List.length_cons, List.length_cons]; omega⟩ hn
      subst this
      rw [val_zero]
      show (numL 0).length = 1
      rw [numL_lt (by decide)]
      rfl
    · have u := numL_len (n := digitsVal (c :: cs)) (k := (c :: cs).length) (by rw [List.length_cons]; omega) (val_lt h)
      have l := val_ge h hc
      have v := val_lt (numL_digits (digitsVal (c :: cs)))
      rw [numL_val] at v
      have w : 10 ^ cs.length < 10 ^ (numL (digitsVal (c :: cs))).length := Nat.lt_of_le_of_lt l v
      have := (Nat.pow_lt_pow_iff_right (by decide : 1 < 10)).mp w
      rw [List.length_cons] at *
      omega
/-- words of figures of one length and one worth are one -/
theorem fold_inj : ∀ (cs ds : List Nat) (a b : Nat), AllDigits cs → AllDigits ds → cs.length = ds.length → cs.foldl (fun acc c => acc * 10 + (c - 48)) a = ds.foldl (fun acc c => acc * 10 + (c - 48)) b → a = b ∧ cs = ds
  | [], [], a, b, _, _, _, e => ⟨e, rfl⟩
  | [], _ :: _, _, _, _, _, l, _ => by simp at l
  | _ :: _, [], _, _, _, _, l, _ => by simp at l
  | c :: cs, d :: ds, a, b, h1, h2, l, e => by
    have q := fold_inj cs ds (a * 10 + (c - 48)) (b * 10 + (d - 48)) h1.tail h2.tail (by simpa using l) e
    have hc := h1.head
    have hd := h2.head
    have e1 := q.1
    have : a = b ∧ c = d := by omega
    exact ⟨this.1, by rw [this.2, q.2]⟩
theorem canon_eq {c : Nat} {cs : List Nat} (h : AllDigits (c :: cs)) (hn : ¬ (c = 48 ∧ 1 < (c :: cs).length)) : numL (digitsVal (c :: cs)) = c :: cs :=
  (fold_inj _ _ 0 0 (numL_digits _) h ((len_canon h).mpr hn) (numL_val _)).2
section
variable {X : Cx}
/-- a text many times -/
def timesS (z : Str) (n : Nat) : Str := ⟨(List.replicate n z.cps).foldl (· ++ ·) #[]⟩
theorem times_fold (c : Nat) : ∀ (n : Nat) (a : Array Nat), ((List.replicate n #[c]).foldl (· ++ ·) a).toList = a.toList ++ List.replicate n c
  | 0, a => by simp
  | n + 1, a => by
    rw [List.replicate_succ, List.foldl_cons, times_fold c n (a ++ #[c]), Array.toList_append, List.append_assoc]
    rfl
theorem times_list {z : Str} {c n : Nat} (h : z.cps = #[c]) : (timesS z n).cps.toList = List.replicate n c := by
  unfold timesS
  show ((List.replicate n z.cps).foldl (· ++ ·) #[]).toList = _
  rw [h, times_fold c n #[]]
  rfl
theorem times_len {z : Str} {c n : Nat} (h : z.cps = #[c]) : (timesS z n).length = n := by
  show (timesS z n).cps.size = n
  rw [← Array.length_toList, times_list h, List.length_replicate]
theorem op_mulS : OpR X (binaryOp .Mult) (fun x y H Q => ∃ (z : Str) (k : Int), x = .str z ∧ y = .int k ∧ 2 ≤ k ∧ k ≤ 100000 ∧ (∃ c, z.cps = #[c]) ∧ Q (.str (timesS z k.toNat)) H) := by
  intro pins s σ H x y v u Q I rx ry h
  obtain ⟨z, k, rfl, rfl, h2, h3, ⟨c, hc⟩, q⟩ := h
  have hz : z.length = 1 := by
    show z.cps.size = 1
    rw [hc]
    rfl
  obtain ⟨t, rfl⟩ := rx
  obtain ⟨t', rfl⟩ := ry
  refine PySem.P.mul_str ?_ ?_ ?_ ?_
  · rw [decide_eq_false (by omega), decide_eq_false (by omega)]
    rfl
  · intro _ _
    rw [hz]
    have : (1 : Int) ≤ (2 ^ 63 - 1) / k := by
      have : (2 ^ 63 - 1 : Int) / k ≥ 1 := (Int.le_ediv_iff_mul_le (by omega)).mpr (by omega)
      exact this
    omega
  · intro _ _
    rw [hz]
    exact decide_eq_false (by
      have : (100000 : Nat) ≤ sizeLine := by decide
      show ¬ _ > _
      omega)
  · have hk1 : (k == 1) = false := by
      rw [beq_eq_false_iff_ne]
      omega
    rw [if_neg (by omega), if_neg (by rw [hk1, hz]; decide)]
    refine ⟨?_, ⟨.str (timesS z k.toNat), H, I.tok _, ⟨_, rfl⟩, q⟩⟩
    have e := times_len (n := k.toNat) hc
    have : (100000 : Nat) ≤ sizeLine := by decide
    show (timesS z k.toNat).length ≤ sizeLine
    omega
end

/-! ### comprehensions over a text -/
/-- [truth of each sign] -/
theorem lc_all {z : Str} {H : Hp} {D : Addr} (hD : H D = none) (hz : z.length ≤ 100000) (f : Nat → Bool) {g : TG} {tt : TT} {te : TE} {vs : List Nat} {σ : L2.St} {Qd : Hp → Prop}
    (turn : ∀ (c : Nat) (H2 : Hp) (R : V → Hp → Prop) (C : Hp → Prop), Same H H2 → R (.bl (f c)) H2 → g (.str ⟨#[c]⟩) (wipe σ vs) H2 fun σ2 H2 => wipe σ2 vs = wipe σ vs ∧ tt σ2 H2 fun b H3 => if b = true then te σ2 H3 R else C H3)
    (fin : ∀ H', Same H H' → H' D = some (.lst ((z.cps.toList.map f).map V.bl)) → Qd H') :
    ∃ W : Nat → Nat → Hp → Prop, (∃ m, W 0 m (upd H D (.lst []))) ∧ ∀ i m H, W i m H →
      ((Its z).stop i H ∧ Qd H) ∨ ((Its z).go i H ∧ ∃ Nx : Hp → Prop, (∀ H', Nx H' → ∃ m', m' < m ∧ W (i + 1) m' H') ∧ ∀ x H', (Its z).yld i H x H' → g x (wipe σ vs) H' fun σ2 H2 => wipe σ2 vs = wipe σ vs ∧ tt σ2 H2 fun b H3 =>
        if b = true then te σ2 H3 fun y H4 => ∃ acc, H4 D = some (.lst acc) ∧ acc.length < sizeLine ∧ Nx (upd H4 D (.lst (acc ++ [y]))) else Nx H3) := by
  have hzl : z.length ≤ sizeLine := Nat.le_trans hz (by decide)
  refine lc_it walk_str (fun i H' => Same H H' ∧ H' D = some (.lst (((z.cps.toList.take i).map f).map V.bl))) ⟨same_upd hD, upd_same⟩ (fun _ _ _ _ => trivial) ?_ ?_
  · rintro i x H1 H2 hi ⟨s1, e1⟩ ⟨rfl, c, hc, rfl⟩
    refine turn c _ _ _ s1 ?_
    have hc' : z.cps.toList[i]? = some c := by rw [Array.getElem?_toList]; exact hc
    refine ⟨_, e1, ?_, fun b o h => ?_, ?_⟩
    · rw [List.length_map, List.length_map, List.length_take]
      exact Nat.lt_of_le_of_lt (Nat.min_le_left _ _) (Nat.lt_of_lt_of_le hi hzl)
    · rw [upd_ne (ne_of_none h hD)]
      exact s1 _ _ h
    · rw [upd_same, List.take_add_one, hc', List.map_append, List.map_append]
      rfl
  · rintro H' ⟨s1, e1⟩
    have ef : z.cps.toList.take z.cps.size = z.cps.toList := List.take_of_length_le (by rw [Array.length_toList]; exact Nat.le_refl _)
    rw [ef] at e1
    exact fin H' s1 e1
def sg (c : Nat) : V := .str ⟨#[c]⟩
/-- [sign for sign in text if ..] -/
theorem lc_filter {z : Str} {H : Hp} {D : Addr} (hD : H D = none) (hz : z.length ≤ 100000) (f : Nat → Bool) {g : TG} {tt : TT} {te : TE} {vs : List Nat} {σ : L2.St} {Qd : Hp → Prop}
    (turn : ∀ (c : Nat) (H2 : Hp) (R : V → Hp → Prop) (C : Hp → Prop), Same H H2 → (f c = true → R (sg c) H2) → (f c = false → C H2) → g (.str ⟨#[c]⟩) (wipe σ vs) H2 fun σ2 H2 => wipe σ2 vs = wipe σ vs ∧ tt σ2 H2 fun b H3 => if b = true then te σ2 H3 R else C H3)
    (fin : ∀ H', Same H H' → H' D = some (.lst ((z.cps.toList.filter f).map sg)) → Qd H') :
    ∃ W : Nat → Nat → Hp → Prop, (∃ m, W 0 m (upd H D (.lst []))) ∧ ∀ i m H, W i m H →
      ((Its z).stop i H ∧ Qd H) ∨ ((Its z).go i H ∧ ∃ Nx : Hp → Prop, (∀ H', Nx H' → ∃ m', m' < m ∧ W (i + 1) m' H') ∧ ∀ x H', (Its z).yld i H x H' → g x (wipe σ vs) H' fun σ2 H2 => wipe σ2 vs = wipe σ vs ∧ tt σ2 H2 fun b H3 =>
        if b = true then te σ2 H3 fun y H4 => ∃ acc, H4 D = some (.lst acc) ∧ acc.length < sizeLine ∧ Nx (upd H4 D (.lst (acc ++ [y]))) else Nx H3) := by
  have hzl : z.length ≤ sizeLine := Nat.le_trans hz (by decide)
  refine lc_it walk_str (fun i H' => Same H H' ∧ H' D = some (.lst (((z.cps.toList.take i).filter f).map sg))) ⟨same_upd hD, upd_same⟩ (fun _ _ _ _ => trivial) ?_ ?_
  · rintro i x H1 H2 hi ⟨s1, e1⟩ ⟨rfl, c, hc, rfl⟩
    have hc' : z.cps.toList[i]? = some c := by rw [Array.getElem?_toList]; exact hc
    refine turn c _ _ _ s1 (fun hf => ?_) (fun hf => ?_)
    · refine ⟨_, e1, ?_, fun b o h => ?_, ?_⟩
      · rw [List.length_map]
        refine Nat.lt_of_le_of_lt (List.length_filter_le _ _) ?_
        rw [List.length_take]
        exact Nat.lt_of_le_of_lt (Nat.min_le_left _ _) (Nat.lt_of_lt_of_le hi hzl)
      · rw [upd_ne (ne_of_none h hD)]
        exact s1 _ _ h
      · rw [upd_same, List.take_add_one, hc', List.filter_append, List.map_append]
        show _ = some (HO.lst (_ ++ List.map sg (List.filter f [c])))
        rw [List.filter_cons_of_pos hf]
        rfl
    · refine ⟨s1, ?_⟩
      rw [e1, List.take_add_one, hc', List.filter_append, List.map_append]
      show _ = some (HO.lst (_ ++ List.map sg (List.filter f [c])))
      rw [List.filter_cons_of_neg (by rw [hf]; exact Bool.false_ne_true)]
      show _ = some (HO.lst (_ ++ []))
      rw [List.append_nil]
  · rintro H' ⟨s1, e1⟩
    have ef : z.cps.toList.take z.cps.size = z.cps.toList := List.take_of_length_le (by rw [Array.length_toList]; exact Nat.le_refl _)
    rw [ef] at e1
    exact fin H' s1 e1
/-- a list of signs beside [] -/
theorem dp_signs {K : PySem.W.Frag} {H : Hp} : ∀ cs : List Nat, DpAll K H (cs.map sg) (cs.map fun c => PyData.str ⟨#[c]⟩)
  | [] => .nil
  | c :: cs => .cons (.str _) (dp_signs cs)
theorem eqv_nil (ds : List PyData) : PyData.eqv (.list ds) (.list []) = ds.isEmpty := by
  cases ds with
  | nil => rfl
  | cons d r => rfl
theorem lay_signs : ∀ cs : List Nat, (∀ c ∈ cs, c < 128) → PyData.canLayAll0 (cs.map fun c => PyData.str ⟨#[c]⟩) = true
  | [], _ => rfl
  | c :: r, h => by
    have h1 := h c (List.mem_cons_self ..)
    have h2 := lay_signs r fun d hd => h d (List.mem_cons_of_mem _ hd)
    show (PyData.canLay0 (.str ⟨#[c]⟩) && PyData.canLayAll0 (r.map fun c => PyData.str ⟨#[c]⟩)) = true
    rw [h2, Bool.and_true]
    show (#[c].all (· < 0x110000)) = true
    simp
    omega
theorem dep_signs : ∀ cs : List Nat, PyData.depthAll (cs.map fun c => PyData.str ⟨#[c]⟩) = 0
  | [] => rfl
  | c :: r => by
    show max 0 (PyData.depthAll (r.map fun c => PyData.str ⟨#[c]⟩)) = 0
    rw [dep_signs r]
    rfl
theorem shp_signs {cs : List Nat} (h : ∀ c ∈ cs, c < 128) : SeqAt.shaped (.list (cs.map fun c => PyData.str ⟨#[c]⟩)) = true := by
  unfold SeqAt.shaped
  have e1 : PyData.canLay0 (.list (cs.map fun c => PyData.str ⟨#[c]⟩)) = true := lay_signs cs h
  have e2 : PyData.depth (.list (cs.map fun c => PyData.str ⟨#[c]⟩)) = 1 := by
    show PyData.depthAll _ + 1 = 1
    rw [dep_signs]
  rw [e1, e2]
  rfl
/-- signs below 128 alone -/
def Asc (z : Str) : Prop := ∀ c ∈ z.cps.toList, c < 128
theorem asc_cut {z : Str} (h : Asc z) (lo hi : Option Int) : Asc (cutS z lo hi) := fun c hc => h c (List.mem_of_mem_drop (List.mem_of_mem_take hc))
theorem asc_app {x y : Str} (hx : Asc x) (hy : Asc y) : Asc (x ++ y) := fun c hc => by
  have hc : c ∈ TL.tl (x ++ y) := hc
  rw [TL.tl_append] at hc
  rcases List.mem_append.mp hc with h | h
  · exact hx c h
  · exact hy c h
theorem asc_upper {z : Str} (h : Asc z) : Asc (Txt.upper z) ∧ (Txt.upper z).length = z.length := by
  rw [PyProof.Rows.upper_ascii h]
  refine ⟨fun c hc => ?_, ?_⟩
  · have hc : c ∈ (z.cps.map PyProof.Rows.up1).toList := hc
    rw [Array.toList_map] at hc
    obtain ⟨a, ha, rfl⟩ := List.mem_map.mp hc
    have := h a ha
    unfold PyProof.Rows.up1
    split <;> omega
  · show (z.cps.map PyProof.Rows.up1).size = z.cps.size
    rw [Array.size_map]
theorem asc_of {z : Str} {cs : List Nat} (h : z.cps.toList = cs) (hl : ∀ c ∈ cs, c < 128) : Asc z := fun c hc => hl c (by rw [← h]; exact hc)
theorem lower_lt {c : Nat} (h : lower c = true) : c < 128 := by
  unfold lower at h
  simp only [Bool.and_eq_true, decide_eq_true_eq] at h
  omega
theorem figure_lt {c : Nat} (h : figure c = true) : c < 128 := by
  unfold figure at h
  simp only [Bool.and_eq_true, decide_eq_true_eq] at h
  omega
theorem filter_none {l : List Nat} {f : Nat → Bool} : (l.filter (fun c => !f c)).isEmpty = l.all f := by
  induction l with
  | nil => rfl
  | cons c r ih =>
    rw [List.filter_cons, List.all_cons]
    cases h : f c with
    | true => simpa using ih
    | false => rfl
theorem str_sign {c d : Nat} {z : Str} (h : z.cps = #[d]) : decide (V.str ⟨#[c]⟩ = V.str z) = decide (c = d) := by
  obtain ⟨z⟩ := z
  rw [decide_eq_decide]
  constructor
  · intro e
    injection e with e
    injection e with e
    rw [show z = #[d] from h] at e
    injection e with e
    injection e
  · rintro rfl
    rw [show z = #[c] from h]
/-! ### a text joined of signs -/
open TL
theorem join_signs : ∀ cs : List Nat, joinL [] ((cs.map fun c => (⟨#[c]⟩ : Str)).map tl) = cs
  | [] => rfl
  | [c] => rfl
  | c :: d :: r => by
    show [c] ++ ([] ++ joinL [] (((d :: r).map fun c => (⟨#[c]⟩ : Str)).map tl)) = c :: d :: r
    rw [join_signs (d :: r)]
    rfl
theorem join_text {y : Str} (hy : tl y = []) (cs : List Nat) : (Txt.join y (cs.map fun c => (⟨#[c]⟩ : Str))).cps.toList = cs := by
  show tl (Txt.join y _) = cs
  rw [join_eq, tl_join, hy, join_signs]
theorem size_signs : ∀ cs : List Nat, ((cs.map fun c => (⟨#[c]⟩ : Str)).map (·.length)).sum = cs.length
  | [] => rfl
  | c :: r => by
    rw [List.map_cons, List.map_cons, List.sum_cons, size_signs r, List.length_cons]
    show 1 + r.length = _
    omega

/-- [.. for _ in range(k)], each a drawn sign -/
theorem lc_draw {P : Int → Prop} {d D : Addr} {n k : Nat} {H1 : Hp} (hD : H1 D = none) (dr : Dr P d n H1) (hk : k ≤ 1000) (p : Nat → Bool) {g : TG} {tt : TT} {te : TE} {vs : List Nat} {σ : L2.St} {Qd : Hp → Prop}
    (turn : ∀ (i : Nat) (H2 : Hp) (R : V → Hp → Prop) (C : Hp → Prop), i < k → Dr P d (n + i) H2 → (∀ H3 c, p c = true → But d H2 H3 → Dr P d (n + i + 1) H3 → R (sg c) H3) → g (.int (0 + i)) (wipe σ vs) H2 fun σ2 H2 => wipe σ2 vs = wipe σ vs ∧ tt σ2 H2 fun b H3 => if b = true then te σ2 H3 R else C H3)
    (fin : ∀ H' (cs : List Nat), cs.length = k → (∀ c ∈ cs, p c = true) → But d H1 H' → Dr P d (n + k) H' → H' D = some (.lst (cs.map sg)) → Qd H') :
    ∃ W : Nat → Nat → Hp → Prop, (∃ m, W 0 m (upd H1 D (.lst []))) ∧ ∀ i m H, W i m H →
      ((Itr 0 k).stop i H ∧ Qd H) ∨ ((Itr 0 k).go i H ∧ ∃ Nx : Hp → Prop, (∀ H', Nx H' → ∃ m', m' < m ∧ W (i + 1) m' H') ∧ ∀ x H', (Itr 0 k).yld i H x H' → g x (wipe σ vs) H' fun σ2 H2 => wipe σ2 vs = wipe σ vs ∧ tt σ2 H2 fun b H3 =>
        if b = true then te σ2 H3 fun y H4 => ∃ acc, H4 D = some (.lst acc) ∧ acc.length < sizeLine ∧ Nx (upd H4 D (.lst (acc ++ [y]))) else Nx H3) := by
  have nD : D ≠ d := dr.ne hD
  refine lc_range (lo := 0) (n := k) (fun i H' => ∃ cs : List Nat, cs.length = i ∧ (∀ c ∈ cs, p c = true) ∧ But d H1 H' ∧ Dr P d (n + i) H' ∧ H' D = some (.lst (cs.map sg))) ⟨[], rfl, (fun _ h => nomatch h), But.new hD, dr.upd nD, upd_same⟩ ?_ ?_
  · rintro i H2 hi ⟨cs, hl, hp, b2, dr2, e2⟩
    refine turn i H2 _ _ hi dr2 fun H3 c hc b3 dr3 => ?_
    refine ⟨_, b3 _ _ nD e2, ?_, cs ++ [c], ?_, ?_, ?_, ?_, ?_⟩
    · rw [List.length_map, hl]
      exact Nat.lt_of_lt_of_le (show i < 1000 by omega) (by decide)
    · rw [List.length_append, hl]
      rfl
    · intro x hx
      rcases List.mem_append.mp hx with h | h
      · exact hp x h
      · rw [List.mem_singleton.mp h]
        exact hc
    · exact (b2.trans b3).mut hD
    · exact (dr3.upd nD).mono (by omega)
    · rw [upd_same, List.map_append]
      rfl
  · rintro H' ⟨cs, hl, hp, b, dr', e⟩
    exact fin H' cs hl hp b dr' e
theorem map_sg (cs : List Nat) : (cs.map fun c => (⟨#[c]⟩ : Str)).map V.str = cs.map sg := by
  rw [List.map_map]
  rfl
theorem join_len {y : Str} (hy : TL.tl y = []) (cs : List Nat) : (Txt.join y (cs.map fun c => (⟨#[c]⟩ : Str))).length = cs.length := by
  have := join_text hy cs
  show (Txt.join y (cs.map fun c => (⟨#[c]⟩ : Str))).cps.size = _
  rw [← Array.length_toList, this]
theorem az_at {r : Int} (h0 : 0 ≤ r) (h1 : r < 26) : ∃ c, atI ("abcdefghijklmnopqrstuvwxyz" : Str).cps.toList r = some c ∧ lower c = true := by
  obtain ⟨j, rfl⟩ : ∃ j : Nat, r = (j : Int) := ⟨r.toNat, by omega⟩
  have e : ("abcdefghijklmnopqrstuvwxyz" : Str).cps.toList = (List.range 26).map (· + 97) := by decide +kernel
  refine ⟨j + 97, atI_nat ?_, ?_⟩
  · rw [e, List.getElem?_map, List.getElem?_range (by omega)]
    rfl
  · unfold lower
    rw [decide_eq_true (by omega), decide_eq_true (by omega)]
    rfl
theorem fig_at {r : Int} (h0 : 0 ≤ r) (h1 : r < 10) : ∃ c, atI ("0123456789" : Str).cps.toList r = some c ∧ figure c = true := by
  obtain ⟨j, rfl⟩ : ∃ j : Nat, r = (j : Int) := ⟨r.toNat, by omega⟩
  have e : ("0123456789" : Str).cps.toList = (List.range 10).map (· + 48) := by decide +kernel
  refine ⟨j + 48, atI_nat ?_, ?_⟩
  · rw [e, List.getElem?_map, List.getElem?_range (by omega)]
    rfl
  · unfold figure
    rw [decide_eq_true (by omega), decide_eq_true (by omega)]
    rfl
theorem log_small {m : Int} (h0 : 0 < m) (h : m < 2 ^ 200) : m.natAbs.log2 < 9000 := by
  refine Nat.lt_of_lt_of_le (PySem.Flt.log2_lt_of (k := 200) (by decide) ?_) (by decide)
  have e : ((2 : Int) ^ 200) = ((2 ^ 200 : Nat) : Int) := by decide
  rw [e] at h
  omega
theorem log_tiny {m : Int} (h0 : 0 < m) (h : m < 1000000000000000000000000000000) : m.natAbs.log2 < 9000 := log_small h0 (Int.lt_trans h (by decide))
theorem at_str {z : Str} {r : Int} (h0 : 0 ≤ r) (h1 : r < (z.length : Int)) : ∃ c, atI z.cps.toList r = some c ∧ c ∈ z.cps.toList := by
  obtain ⟨j, rfl⟩ : ∃ j : Nat, r = (j : Int) := ⟨r.toNat, by omega⟩
  have hj : j < z.cps.toList.length := by
    have : z.cps.toList.length = z.length := Array.length_toList
    omega
  exact ⟨_, atI_nat (List.getElem?_eq_getElem hj), List.getElem_mem hj⟩
theorem sz (n : Nat) (h : n ≤ 100000) : n ≤ sizeLine := Nat.le_trans h (by decide)
theorem tyx_same {K : PySem.W.Frag} {H H' : Hp} (s : Same H H') {v : V} {t : Value} (h : TyX K H v t) : TyX K H' v t := by
  cases h with
  | base h =>
    cases h with
    | non => exact .base .non
    | bl b => exact .base (.bl b)
    | int i => exact .base (.int i)
    | str z => exact .base (.str z)
    | flt x => exact .base (.flt x)
    | lst e => exact .base (.lst (s _ _ e))
    | frz e => exact .base (.frz (s _ _ e))
    | tup e => exact .base (.tup (s _ _ e))
    | dK e => exact .base (.dK (s _ _ e))
    | dT e => exact .base (.dT (s _ _ e))
    | ins e cl ha hn htk hm => exact .base (.ins (s _ _ e) cl ha hn htk hm)
  | byt b => exact .byt b
  | set e => exact .set (s _ _ e)
  | kList e c => exact .kList e c
  | kTuple e c => exact .kTuple e c
  | kDict e c => exact .kDict e c
  | fTuple e => exact .fTuple (s _ _ e)
  | fDict e => exact .fDict (s _ _ e)
theorem Th.same {K : PySem.W.Frag} {H H' : Hp} (s : Same H H') {v : V} (h : Th K H v) : Th K H' v := by
  cases h with
  | int i => exact .int i
  | bl b => exact .bl b
  | str z => exact .str z
  | non => exact .non
  | lst h => exact .lst (tyx_same s h)
  | tup h => exact .tup (tyx_same s h)
  | dct h => exact .dct (tyx_same s h)
theorem cells_int {ns : List Int} {n : Int} {lo hi : Option Int} {i : Nat} {x : V} (h : ([V.int n] ++ cutV (ns.map V.int) lo hi)[i]? = some x) : ∃ k, x = .int k := by
  have hm := List.mem_of_getElem? h
  rcases List.mem_append.mp hm with h | h
  · exact ⟨n, List.mem_singleton.mp h⟩
  · have := List.mem_of_mem_drop (List.mem_of_mem_take h)
    obtain ⟨k, _, rfl⟩ := List.mem_map.mp this
    exact ⟨k, rfl⟩
section
variable {P : Program} {w : World} {K : PySem.W.Frag} {mg : Str → Option Value} {base : Heap} {x qual : Str} {params : Arguments} {body : List Stmt} {scope : Scope} {dvs : List V} {kws : List (Str × V)} {f : Addr} {fd : FuncData}
theorem okD {N ps : List Str} {k : Nat} {sp : Sp} (F : FunD K x qual params body scope dvs kws f fd) (S : FnScope N ps scope) (len : ∀ vs H Q E, sp vs H Q E → vs.length = ps.length)
    (hbody : ∀ (cdv : Value) (A : Around) (outer : List Env) (s : Shared) (H : Hp) (vs : List V) (Q : VK) (E : XK), Room k (A.deeper (envOfC qual scope s.heap.objs.size f cdv)) → sp vs H Q E →
      ∃ t, PSs (cxOf CX0 P w K mg base N qual scope f cdv A outer s H E).nox body t ∧ t { nx := fun _ H' => Q .non H', rt := Q } (start N vs) H) : FnOk P w K mg base CX0 (k + 1) f fd ps sp :=
  F.ok S len fun cdv A outer s H vs Q E hr h => by
    obtain ⟨t, h, q⟩ := hbody cdv A outer s H vs Q E hr h
    exact ⟨t, h.nox, q⟩
end
end KA
namespace KA
open PySem PySem.Spec PyProof.Rows L2
/-- what is no list is as it was -/
def NL (H H' : Hp) : Prop := ∀ b o, (∀ xs, o ≠ .lst xs) → H b = some o → H' b = some o
theorem NL.of {H H' : Hp} (s : Same H H') : NL H H' := fun b o _ h => s b o h
theorem NL.at_ {H : Hp} {D : Addr} {xs : List V} {o : HO} (h : H D = some (.lst xs)) : NL H (upd H D o) := fun b u n e => by
  have : b ≠ D := fun z => by
    rw [z, h] at e
    exact n xs (Option.some.inj e).symm
  rw [upd_ne this]
  exact e
theorem NL.trans {H H1 H2 : Hp} (a : NL H H1) (b : NL H1 H2) : NL H H2 := fun c o n h => b c o n (a c o n h)
/-- a comprehension over a list: what it makes is told by G -/
theorem lc_gen {K : PySem.W.Frag} {a : Addr} {xs : List V} {H : Hp} {D : Addr} (hD : H D = none) (hS : SqL K H a xs) (hl : xs.length ≤ 10000) (G : Nat → V → Hp → Prop) (hG : ∀ j v H1 H2, NL H1 H2 → G j v H1 → G j v H2)
    {g : TG} {tt : TT} {te : TE} {vs : List Nat} {σ : L2.St} {Qd : Hp → Prop}
    (turn : ∀ (i : Nat) (x : V) (H2 : Hp) (R : V → Hp → Prop) (C : Hp → Prop), xs[i]? = some x → Same H H2 → (∀ v H3, Same H2 H3 → G i v H3 → R v H3) → g x (wipe σ vs) H2 fun σ2 H2 => wipe σ2 vs = wipe σ vs ∧ tt σ2 H2 fun b H3 => if b = true then te σ2 H3 R else C H3)
    (fin : ∀ H' acc, Same H H' → H' D = some (.lst acc) → acc.length = xs.length → (∀ j v, acc[j]? = some v → G j v H') → Qd H') :
    ∃ W : Nat → Nat → Hp → Prop, (∃ m, W 0 m (upd H D (.lst []))) ∧ ∀ i m H, W i m H →
      ((Itl K a).stop i H ∧ Qd H) ∨ ((Itl K a).go i H ∧ ∃ Nx : Hp → Prop, (∀ H', Nx H' → ∃ m', m' < m ∧ W (i + 1) m' H') ∧ ∀ x H', (Itl K a).yld i H x H' → g x (wipe σ vs) H' fun σ2 H2 => wipe σ2 vs = wipe σ vs ∧ tt σ2 H2 fun b H3 =>
        if b = true then te σ2 H3 fun y H4 => ∃ acc, H4 D = some (.lst acc) ∧ acc.length < sizeLine ∧ Nx (upd H4 D (.lst (acc ++ [y]))) else Nx H3) := by
  refine lc_list (K := K) (a := a) (xs := xs) (fun i H' => Same H H' ∧ ∃ acc, H' D = some (.lst acc) ∧ acc.length = i ∧ ∀ j v, acc[j]? = some v → G j v H') ⟨same_upd hD, [], upd_same, rfl, fun j v h => by simp at h⟩ (fun i H' _ h => h.1.seq hS) ?_ ?_
  · rintro i x H2 hi ⟨s2, acc, e2, l2, g2⟩
    have hil : i < xs.length := (List.getElem?_eq_some_iff.mp hi).1
    refine turn i x H2 _ _ hi s2 fun v H3 s3 hv => ?_
    have e3 := s3 _ _ e2
    refine ⟨acc, e3, ?_, fun b o h => ?_, acc ++ [v], upd_same, ?_, fun j w hj => ?_⟩
    · rw [l2]
      exact Nat.lt_of_lt_of_le (show i < 10000 by omega) (by decide)
    · rw [upd_ne (ne_of_none h hD)]
      exact s3 _ _ (s2 _ _ h)
    · rw [List.length_append, l2]
      rfl
    · refine hG j w H3 _ (NL.at_ e3) ?_
      by_cases h : j < acc.length
      · rw [List.getElem?_append_left h] at hj
        exact hG j w H2 H3 (NL.of s3) (g2 j w hj)
      · rw [List.getElem?_append_right (by omega)] at hj
        have : j = i := by
          have := (List.getElem?_eq_some_iff.mp hj).1
          rw [List.length_singleton] at this
          omega
        subst this
        rw [l2, Nat.sub_self] at hj
        have : v = w := Option.some.inj hj
        subst this
        exact hv
  · rintro H' ⟨s, acc, e, l, g⟩
    exact fin H' acc s e l g
/-- .. whose values are f of the place -/
theorem lc_vals {K : PySem.W.Frag} {a : Addr} {xs : List V} {H : Hp} {D : Addr} (hD : H D = none) (hS : SqL K H a xs) (hl : xs.length ≤ 10000) (f : Nat → V)
    {g : TG} {tt : TT} {te : TE} {vs : List Nat} {σ : L2.St} {Qd : Hp → Prop}
    (turn : ∀ (i : Nat) (x : V) (H2 : Hp) (R : V → Hp → Prop) (C : Hp → Prop), xs[i]? = some x → Same H H2 → R (f i) H2 → g x (wipe σ vs) H2 fun σ2 H2 => wipe σ2 vs = wipe σ vs ∧ tt σ2 H2 fun b H3 => if b = true then te σ2 H3 R else C H3)
    (fin : ∀ H', Same H H' → H' D = some (.lst ((List.range xs.length).map f)) → Qd H') :
    ∃ W : Nat → Nat → Hp → Prop, (∃ m, W 0 m (upd H D (.lst []))) ∧ ∀ i m H, W i m H →
      ((Itl K a).stop i H ∧ Qd H) ∨ ((Itl K a).go i H ∧ ∃ Nx : Hp → Prop, (∀ H', Nx H' → ∃ m', m' < m ∧ W (i + 1) m' H') ∧ ∀ x H', (Itl K a).yld i H x H' → g x (wipe σ vs) H' fun σ2 H2 => wipe σ2 vs = wipe σ vs ∧ tt σ2 H2 fun b H3 =>
        if b = true then te σ2 H3 fun y H4 => ∃ acc, H4 D = some (.lst acc) ∧ acc.length < sizeLine ∧ Nx (upd H4 D (.lst (acc ++ [y]))) else Nx H3) := by
  refine lc_gen hD hS hl (fun j v _ => v = f j) (fun _ _ _ _ _ h => h) (fun i x H2 R C hi s hR => turn i x H2 R C hi s (hR _ _ (Same.refl _) rfl)) fun H' acc s e l g => fin H' s ?_
  rw [e]
  congr 2
  refine List.ext_getElem? fun j => ?_
  by_cases h : j < xs.length
  · rw [List.getElem?_map, List.getElem?_range h]
    have : j < acc.length := by omega
    rw [List.getElem?_eq_getElem this]
    exact congrArg some (g j _ (List.getElem?_eq_getElem this))
  · rw [List.getElem?_eq_none (by omega), List.getElem?_eq_none (by rw [List.length_map, List.length_range]; omega)]
/-- a comprehension over a list that leaves some out; the heap stays -/
theorem lc_some {K : PySem.W.Frag} {a : Addr} {xs : List V} {H : Hp} {D : Addr} (hD : H D = none) (hS : SqL K H a xs) (hl : xs.length ≤ 10000) (p : V → Bool) (f : V → V)
    {g : TG} {tt : TT} {te : TE} {vs : List Nat} {σ : L2.St} {Qd : Hp → Prop}
    (turn : ∀ (i : Nat) (x : V) (H2 : Hp) (R : V → Hp → Prop) (C : Hp → Prop), xs[i]? = some x → Same H H2 → (p x = true → R (f x) H2) → (p x = false → C H2) → g x (wipe σ vs) H2 fun σ2 H2 => wipe σ2 vs = wipe σ vs ∧ tt σ2 H2 fun b H3 => if b = true then te σ2 H3 R else C H3)
    (fin : ∀ H', Same H H' → H' D = some (.lst ((xs.filter p).map f)) → Qd H') :
    ∃ W : Nat → Nat → Hp → Prop, (∃ m, W 0 m (upd H D (.lst []))) ∧ ∀ i m H, W i m H →
      ((Itl K a).stop i H ∧ Qd H) ∨ ((Itl K a).go i H ∧ ∃ Nx : Hp → Prop, (∀ H', Nx H' → ∃ m', m' < m ∧ W (i + 1) m' H') ∧ ∀ x H', (Itl K a).yld i H x H' → g x (wipe σ vs) H' fun σ2 H2 => wipe σ2 vs = wipe σ vs ∧ tt σ2 H2 fun b H3 =>
        if b = true then te σ2 H3 fun y H4 => ∃ acc, H4 D = some (.lst acc) ∧ acc.length < sizeLine ∧ Nx (upd H4 D (.lst (acc ++ [y]))) else Nx H3) := by
  refine lc_list (K := K) (a := a) (xs := xs) (fun i H' => Same H H' ∧ H' D = some (.lst (((xs.take i).filter p).map f))) ⟨same_upd hD, upd_same⟩ (fun i H' _ h => h.1.seq hS) ?_ ?_
  · rintro i x H2 hi ⟨s2, e2⟩
    have hil : i < xs.length := (List.getElem?_eq_some_iff.mp hi).1
    refine turn i x H2 _ _ hi s2 (fun hp => ?_) (fun hp => ?_)
    · refine ⟨_, e2, ?_, fun b o h => ?_, ?_⟩
      · rw [List.length_map]
        refine Nat.lt_of_le_of_lt (List.length_filter_le _ _) ?_
        rw [List.length_take]
        exact Nat.lt_of_le_of_lt (Nat.min_le_left _ _) (Nat.lt_of_lt_of_le (show i < 10000 by omega) (by decide))
      · rw [upd_ne (ne_of_none h hD)]
        exact s2 _ _ h
      · rw [upd_same, List.take_add_one, hi, List.filter_append, List.map_append]
        show _ = some (HO.lst (_ ++ List.map f (List.filter p [x])))
        rw [List.filter_cons_of_pos hp]
        rfl
    · refine ⟨s2, ?_⟩
      rw [e2, List.take_add_one, hi, List.filter_append, List.map_append]
      show _ = some (HO.lst (_ ++ List.map f (List.filter p [x])))
      rw [List.filter_cons_of_neg (by rw [hp]; exact Bool.false_ne_true)]
      show _ = some (HO.lst (_ ++ []))
      rw [List.append_nil]
  · rintro H' ⟨s, e⟩
    rw [List.take_of_length_le (Nat.le_refl _)] at e
    exact fin H' s e
theorem cut_to (xs : List V) (i : Nat) : cutV xs none (some (i : Int)) = xs.take i := by
  unfold cutV
  rw [HT.sIx_none, show HT.sIx xs.length xs.length (some (i : Int)) = min i xs.length from HT.sIx_nat xs.length xs.length i, Nat.sub_zero, List.drop_zero]
  by_cases h : i ≤ xs.length
  · rw [Nat.min_eq_left h]
  · rw [Nat.min_eq_right (by omega), List.take_of_length_le (Nat.le_refl _), List.take_of_length_le (by omega)]
theorem cut_from (xs : List V) (i : Nat) : cutV xs (some (i : Int)) none = xs.drop i := by
  unfold cutV
  rw [HT.sIx_none, show HT.sIx xs.length 0 (some (i : Int)) = min i xs.length from HT.sIx_nat xs.length 0 i]
  by_cases h : i ≤ xs.length
  · rw [Nat.min_eq_left h, List.take_of_length_le (by rw [List.length_drop]; omega)]
  · rw [Nat.min_eq_right (by omega), List.drop_of_length_le (Nat.le_refl _), List.drop_of_length_le (by omega)]
    exact List.take_nil
section
variable {X : Cx} {K' : PySem.W.Frag}
/-! the rules with the written part by its own name (for blocks) -/
theorem pe_fldK (hK : X.K = K') {e : Expr} {f : Str} {pos : Pos} {ta : TE} (ha : PE X e ta) (hb : attributeBase e f X.env (eval e X.env) = eval e X.env) : PE X (.Attribute e f pos) (tFld K' ta f) := by
  subst hK
  exact pe_fld ha hb
theorem ix_listK (hK : X.K = K') : IxR X (rIxL K') := by
  subst hK
  exact ix_list
theorem ix_tupK (hK : X.K = K') : IxR X (rIxT K') := by
  subst hK
  exact ix_tup
theorem sl_listK (hK : X.K = K') : SlR X (rSlL K') := by
  subst hK
  exact sl_list
theorem sl_tupAK (hK : X.K = K') : SlR X (rSlA K') := by
  subst hK
  exact sl_tupA
theorem op_eqDK (hK : X.K = K') (hu : X.A.units + 64 < cLine) : OpR X (compareOp .Eq) (rEqD K') := by
  subst hK
  exact op_eqD hu
theorem op_neDK (hK : X.K = K') (hu : X.A.units + 64 < cLine) : OpR X (compareOp .NotEq) (rNeD K') := by
  subst hK
  exact op_neD hu
theorem op_in_seqK (hK : X.K = K') : OpR X (compareOp .In) (rIn K' false) := by
  subst hK
  exact op_in_seq
end
section
variable {X : Cx}
/-- a statement and what follows it, with a word between -/
def tCutJ (t u : TS) : TS := fun D σ H => ∃ Mid : L2.St → Hp → Prop, t { D with nx := Mid } σ H ∧ ∀ σ' H', Mid σ' H' → u D σ' H'
theorem pss_cutJ {st : Stmt} {rest : List Stmt} {t u : TS} (h1 : PS X st t) (h2 : PSs X rest u) : PSs X (st :: rest) (tCutJ t u) := by
  refine ⟨fun pins s σ H D I h => ?_⟩
  obtain ⟨Mid, hm, hu⟩ := h
  refine wpAny_execs_cons (thn (h1.run pins s σ H { D with nx := Mid } I hm) fun f s1 q => ?_)
  cases f with
  | next =>
    obtain ⟨σ', H', I', q⟩ := q
    exact h2.run pins s1 σ' H' D I' (hu σ' H' q)
  | ret v => exact q
  | brk => exact q
  | cont => exact q
end
theorem nl_tup {K : PySem.W.Frag} {H H' : Hp} {a : Addr} {xs : List V} (s : NL H H') (h : SqT K H a xs) : SqT K H' a xs := by
  rcases h with (h | ⟨o, h⟩) | h
  · exact .inl (.inl (s _ _ (fun _ z => by cases z) h))
  · exact .inl (.inr ⟨o, s _ _ (fun _ z => by cases z) h⟩)
  · exact .inr h
theorem mem_cut {xs : List V} {lo hi : Option Int} {v : V} (h : v ∈ cutV xs lo hi) : v ∈ xs := List.mem_of_mem_drop (List.mem_of_mem_take h)
theorem len_cut (xs : List V) (lo hi : Option Int) : (cutV xs lo hi).length ≤ xs.length := by
  unfold cutV
  rw [List.length_take, List.length_drop]
  omega
/-- a comprehension over a list that leaves places out; the heap stays -/
theorem lc_someI {K : PySem.W.Frag} {a : Addr} {xs : List V} {H : Hp} {D : Addr} (hD : H D = none) (hS : SqL K H a xs) (hl : xs.length ≤ 10000) (p : Nat → Bool) (f : Nat → V)
    {g : TG} {tt : TT} {te : TE} {vs : List Nat} {σ : L2.St} {Qd : Hp → Prop}
    (turn : ∀ (i : Nat) (x : V) (H2 : Hp) (R : V → Hp → Prop) (C : Hp → Prop), xs[i]? = some x → Same H H2 → (p i = true → R (f i) H2) → (p i = false → C H2) → g x (wipe σ vs) H2 fun σ2 H2 => wipe σ2 vs = wipe σ vs ∧ tt σ2 H2 fun b H3 => if b = true then te σ2 H3 R else C H3)
    (fin : ∀ H', Same H H' → H' D = some (.lst (((List.range xs.length).filter p).map f)) → Qd H') :
    ∃ W : Nat → Nat → Hp → Prop, (∃ m, W 0 m (upd H D (.lst []))) ∧ ∀ i m H, W i m H →
      ((Itl K a).stop i H ∧ Qd H) ∨ ((Itl K a).go i H ∧ ∃ Nx : Hp → Prop, (∀ H', Nx H' → ∃ m', m' < m ∧ W (i + 1) m' H') ∧ ∀ x H', (Itl K a).yld i H x H' → g x (wipe σ vs) H' fun σ2 H2 => wipe σ2 vs = wipe σ vs ∧ tt σ2 H2 fun b H3 =>
        if b = true then te σ2 H3 fun y H4 => ∃ acc, H4 D = some (.lst acc) ∧ acc.length < sizeLine ∧ Nx (upd H4 D (.lst (acc ++ [y]))) else Nx H3) := by
  refine lc_list (K := K) (a := a) (xs := xs) (fun i H' => Same H H' ∧ H' D = some (.lst (((List.range i).filter p).map f))) ⟨same_upd hD, upd_same⟩ (fun i H' _ h => h.1.seq hS) ?_ ?_
  · rintro i x H2 hi ⟨s2, e2⟩
    have hil : i < xs.length := (List.getElem?_eq_some_iff.mp hi).1
    refine turn i x H2 _ _ hi s2 (fun hp => ?_) (fun hp => ?_)
    · refine ⟨_, e2, ?_, fun b o h => ?_, ?_⟩
      · rw [List.length_map]
        refine Nat.lt_of_le_of_lt (List.length_filter_le _ _) ?_
        rw [List.length_range]
        exact Nat.lt_of_lt_of_le (show i < 10000 by omega) (by decide)
      · rw [upd_ne (ne_of_none h hD)]
        exact s2 _ _ h
      · rw [upd_same, List.range_succ, List.filter_append, List.map_append, List.filter_cons_of_pos hp]
        rfl
    · refine ⟨s2, ?_⟩
      rw [e2, List.range_succ, List.filter_append, List.map_append, List.filter_cons_of_neg (by rw [hp]; exact Bool.false_ne_true)]
      show _ = some (HO.lst (_ ++ []))
      rw [List.append_nil]
  · rintro H' ⟨s, e⟩
    exact fin H' s e
section
variable {X : Cx} {CX : CXT} {k : Nat} {f : Addr} {fd : FuncData} {ps ks : List Str} {sp : Sp} {E : XK} {x : Str} {p pos : Pos} {kws : List Keyword} {tk : TA} {g : List Value → List Value → List Value} {gV : List V → List V → List V}
/-- f(k = v, ..) -/
theorem pe_callN0 (F : FnOk X.prog X.w X.K X.mg X.base CX k f fd ps sp) (hr : Room k X.A) (hg : Gl X x) (hm : X.mg x = some (.ref f)) (hk : PySem.W.keepIn X.K (.ref f) = true) (hb : KBn X.K fd ps 0 ks g gV) (hx : Passes CX X E) (hkw : PK X kws tk)
    (hall : (backToKw pos (keywordEach kws X.env)).all (·.1.isSome) = true := by rfl) (hks : (backToKw pos (keywordEach kws X.env)).filterMap (·.1) = ks := by rfl) (hdb : (x == ("__debug__" : Str)) = false := by decide)
    (hpl : ((backTo pos (starEach [] X.env)).any (·.1) || (backToKw pos (keywordEach kws X.env)).any (·.1.isNone)) = false := by rfl) :
    PE X (.Call (.Name x p) [] kws pos) (tCallN 0 ks.length sp gV E tNil tk) := by
  refine ⟨fun pins s σ H Q I h => ?_⟩
  refine wpAny_Call_Name_kw (ld_glob I hg hm ?_ hdb)
  refine PySem.W.callWith_KW0 (h₀ := X.base) I.ok.mod.kin hk hall ?_ hpl
  refine thn (hkw.run pos pins s σ H _ I h) fun ws s2 ⟨zs, H2, I2, rz, l1, l2, q2⟩ => ⟨I2.kIn, ?_⟩
  rw [hks]
  exact run_fnN (us := []) (vs := []) F hr hb hx I2 .nil rz rfl l2 q2
end
/-- keywords of a def without defaults -/
theorem kbn_of {K : PySem.W.Frag} {x qual : Str} {st : Stmt} {f : Addr} {fd : FuncData} {ps : List Str} (F : Fun K x qual st f fd) (n : Nat) (ks : List Str) (g : List Value → List Value → List Value) (gV : List V → List V → List V)
    (hrel : ∀ {vs : List V} {us : List Value} {zs : List V} {ws : List Value}, Vals vs us → Vals zs ws → Vals (gV vs zs) (g us ws))
    (h : ∀ (kV doc pm : Value) (an : Option Addr) (cdv ct : Value) (us ws : List Value), us.length = n → ws.length = ks.length → bindArgs (PySem.W.fnOf x qual (defArgs st) (defBody st) (defScope st) .none kV doc pm an cdv ct) ⟨us, ks.zip ws⟩ = pure (ps.zip (g us ws))) : KBn K fd ps n ks g gV := by
  obtain ⟨oc, od, kV, doc, pm, an, cdv, ct, osl, rfl, lk, hcd⟩ := F.ex
  exact ⟨fun s us ws _ l1 l2 => .of_eq (h kV doc pm an cdv ct us ws l1 l2), hrel⟩
def gsw {α : Type} (l : List α) : List α := match l with
  | [a, b] => [b, a]
  | l => l
theorem gsw_rel {zs : List V} {ws : List Value} (h : Vals zs ws) : Vals (gsw zs) (gsw ws) := by
  cases h with
  | nil => exact .nil
  | cons r1 h =>
    cases h with
    | nil => exact .cons r1 .nil
    | cons r2 h =>
      cases h with
      | nil => exact .cons r2 (.cons r1 .nil)
      | cons r3 h => exact .cons r1 (.cons r2 (.cons r3 h))
/-- a comprehension over range(n): what it makes is told by G -/
theorem lc_genR {n : Nat} {H : Hp} {D : Addr} (hD : H D = none) (hl : n ≤ 10000) (G : Nat → V → Hp → Prop) (hG : ∀ j v H1 H2, NL H1 H2 → G j v H1 → G j v H2)
    {g : TG} {tt : TT} {te : TE} {vs : List Nat} {σ : L2.St} {Qd : Hp → Prop}
    (turn : ∀ (i : Nat) (H2 : Hp) (R : V → Hp → Prop) (C : Hp → Prop), i < n → Same H H2 → (∀ v H3, Same H2 H3 → G i v H3 → R v H3) → g (.int (0 + i)) (wipe σ vs) H2 fun σ2 H2 => wipe σ2 vs = wipe σ vs ∧ tt σ2 H2 fun b H3 => if b = true then te σ2 H3 R else C H3)
    (fin : ∀ H' acc, Same H H' → H' D = some (.lst acc) → acc.length = n → (∀ j v, acc[j]? = some v → G j v H') → Qd H') :
    ∃ W : Nat → Nat → Hp → Prop, (∃ m, W 0 m (upd H D (.lst []))) ∧ ∀ i m H, W i m H →
      ((Itr 0 n).stop i H ∧ Qd H) ∨ ((Itr 0 n).go i H ∧ ∃ Nx : Hp → Prop, (∀ H', Nx H' → ∃ m', m' < m ∧ W (i + 1) m' H') ∧ ∀ x H', (Itr 0 n).yld i H x H' → g x (wipe σ vs) H' fun σ2 H2 => wipe σ2 vs = wipe σ vs ∧ tt σ2 H2 fun b H3 =>
        if b = true then te σ2 H3 fun y H4 => ∃ acc, H4 D = some (.lst acc) ∧ acc.length < sizeLine ∧ Nx (upd H4 D (.lst (acc ++ [y]))) else Nx H3) := by
  refine lc_range (lo := 0) (n := n) (fun i H' => Same H H' ∧ ∃ acc, H' D = some (.lst acc) ∧ acc.length = i ∧ ∀ j v, acc[j]? = some v → G j v H') ⟨same_upd hD, [], upd_same, rfl, fun j v h => by simp at h⟩ ?_ ?_
  · rintro i H2 hi ⟨s2, acc, e2, l2, g2⟩
    refine turn i H2 _ _ hi s2 fun v H3 s3 hv => ?_
    have e3 := s3 _ _ e2
    refine ⟨acc, e3, ?_, fun b o h => ?_, acc ++ [v], upd_same, ?_, fun j w hj => ?_⟩
    · rw [l2]
      exact Nat.lt_of_lt_of_le (show i < 10000 by omega) (by decide)
    · rw [upd_ne (ne_of_none h hD)]
      exact s3 _ _ (s2 _ _ h)
    · rw [List.length_append, l2]
      rfl
    · refine hG j w H3 _ (NL.at_ e3) ?_
      by_cases h : j < acc.length
      · rw [List.getElem?_append_left h] at hj
        exact hG j w H2 H3 (NL.of s3) (g2 j w hj)
      · rw [List.getElem?_append_right (by omega)] at hj
        have : j = i := by
          have := (List.getElem?_eq_some_iff.mp hj).1
          rw [List.length_singleton] at this
          omega
        subst this
        rw [l2, Nat.sub_self] at hj
        have : v = w := Option.some.inj hj
        subst this
        exact hv
  · rintro H' ⟨s, acc, e, l, g⟩
    exact fin H' acc s e l g
/-- [k for k in range(n) if a draw ..] -/
theorem lc_drawK {P : Int → Prop} {d D : Addr} {m n : Nat} {H1 : Hp} (hD : H1 D = none) (dr : Dr P d m H1) (hn : n ≤ 1000) {g : TG} {tt : TT} {te : TE} {vs : List Nat} {σ : L2.St} {Qd : Hp → Prop}
    (turn : ∀ (i : Nat) (H2 : Hp) (R : V → Hp → Prop) (C : Hp → Prop), i < n → Dr P d (m + i) H2 → (∀ H3, But d H2 H3 → Dr P d (m + i + 1) H3 → R (.int (i : Int)) H3 ∧ C H3) → g (.int (0 + i)) (wipe σ vs) H2 fun σ2 H2 => wipe σ2 vs = wipe σ vs ∧ tt σ2 H2 fun b H3 => if b = true then te σ2 H3 R else C H3)
    (fin : ∀ H' (ks : List Nat), (∀ k ∈ ks, k < n) → ks.length ≤ n → But d H1 H' → Dr P d (m + n) H' → H' D = some (.lst (ks.map fun (k : Nat) => V.int (k : Int))) → Qd H') :
    ∃ W : Nat → Nat → Hp → Prop, (∃ m, W 0 m (upd H1 D (.lst []))) ∧ ∀ i m H, W i m H →
      ((Itr 0 n).stop i H ∧ Qd H) ∨ ((Itr 0 n).go i H ∧ ∃ Nx : Hp → Prop, (∀ H', Nx H' → ∃ m', m' < m ∧ W (i + 1) m' H') ∧ ∀ x H', (Itr 0 n).yld i H x H' → g x (wipe σ vs) H' fun σ2 H2 => wipe σ2 vs = wipe σ vs ∧ tt σ2 H2 fun b H3 =>
        if b = true then te σ2 H3 fun y H4 => ∃ acc, H4 D = some (.lst acc) ∧ acc.length < sizeLine ∧ Nx (upd H4 D (.lst (acc ++ [y]))) else Nx H3) := by
  have nD : D ≠ d := dr.ne hD
  refine lc_range (lo := 0) (n := n) (fun i H' => ∃ ks : List Nat, (∀ k ∈ ks, k < n) ∧ ks.length ≤ i ∧ But d H1 H' ∧ Dr P d (m + i) H' ∧ H' D = some (.lst (ks.map fun (k : Nat) => V.int (k : Int)))) ⟨[], (fun _ h => nomatch h), Nat.le_refl _, But.new hD, dr.upd nD, upd_same⟩ ?_ ?_
  · rintro i H2 hi ⟨ks, hk, hl, b2, dr2, e2⟩
    refine turn i H2 _ _ hi dr2 fun H3 b3 dr3 => ⟨?_, ks, hk, by omega, b2.trans b3, dr3, b3 _ _ nD e2⟩
    refine ⟨_, b3 _ _ nD e2, ?_, ks ++ [i], ?_, ?_, ?_, ?_, ?_⟩
    · rw [List.length_map]
      exact Nat.lt_of_lt_of_le (show ks.length < 1001 by omega) (by decide)
    · intro k h
      rcases List.mem_append.mp h with h | h
      · exact hk k h
      · rw [List.mem_singleton.mp h]
        exact hi
    · rw [List.length_append, List.length_singleton]
      omega
    · exact (b2.trans b3).mut hD
    · exact (dr3.upd nD).mono (by omega)
    · rw [upd_same, List.map_append]
      rfl
  · rintro H' ⟨ks, hk, hl, b, dr', e⟩
    exact fin H' ks hk hl b dr' e
theorem in_ints (k : Nat) (S : List Nat) : inV (.int (k : Int)) (S.map fun (j : Nat) => V.int (j : Int)) = decide (k ∈ S) := by
  unfold inV
  rw [List.any_map]
  induction S with
  | nil => rfl
  | cons j S ih =>
    rw [List.any_cons, ih]
    show (((j : Int) == (k : Int)) || decide (k ∈ S)) = _
    rw [Bool.eq_iff_iff, Bool.or_eq_true, beq_iff_eq, decide_eq_true_eq, decide_eq_true_eq, List.mem_cons]
    constructor
    · rintro (h | h)
      · exact .inl (by omega)
      · exact .inr h
    · rintro (h | h)
      · exact .inl (by omega)
      · exact .inr h
theorem flat_ints (S : List Nat) : (S.map fun (j : Nat) => V.int (j : Int)).all flatV = true := by
  rw [List.all_eq_true]
  intro v hv
  obtain ⟨j, _, rfl⟩ := List.mem_map.mp hv
  rfl
end KA
namespace KA
open PySem PySem.SeqAt
open AutoSeq1 (wpAny_loadPart')
open MeetsSeq MeetsSeq2 MeetsSeq3 SeqRoads2
section
variable {prog : Program} {w : World} {A : Around} {R : Result → Shared → Prop}
/-- two lists whose items are equal, turn by turn: != is False -/
theorem ne_turns (p q : Addr) (N : Nat) (J : Nat → Shared → Prop) (hJ : GQ.ListI prog w A (fun e s' => R (.error e) s') p q N J)
    (done : ∀ s, J N s → R (.ok (.ret (.bool false))) s) : ∀ (k i : Nat), N - i = k → i ≤ N → ∀ s, J i s →
      wpAny (model prog w) A.in1 (Builtin.«list.__eq__.loop» ⟨[.ref p, .ref q, rawInt i, rawInt 3], []⟩) (GQ.FinOf prog w A R) (fun e s' => R (.error e) s') s
  | 0, i, hk, hi, s, hs => by
    obtain ⟨xs, ys, m, m2, gp, gq, zp, zq, _⟩ := hJ _ _ hs
    have iN : i = N := by omega
    have last : R (.ok (.ret (.bool false))) s := done s (iN ▸ hs)
    obtain ⟨hh, gg, dd, kk, oo⟩ := s
    wp_walk using wpAny_loadPart' gp, wpAny_loadPart' gq
    have n1 : xs[((i : Nat) : Int).toNat]? = none := by simp; omega
    have n2 : ys[((i : Nat) : Int).toNat]? = none := by simp; omega
    rw [n1, n2]
    wp_walk using wpAny_loadPart' gp, wpAny_loadPart' gq
    show R (.ok (.ret (.bool (xs.size != ys.size)))) _
    rw [zp, zq]
    simpa using last
  | k + 1, i, hk, hi, s, hs => by
    obtain ⟨xs, ys, m, m2, gp, gq, zp, zq, tn⟩ := hJ _ _ hs
    have ip : i < xs.size := by omega
    have iq : i < ys.size := by omega
    have tt := tn ip iq
    obtain ⟨hh, gg, dd, kk, oo⟩ := s
    wp_walk using wpAny_loadPart' gp, wpAny_loadPart' gq
    have n1 : xs[((i : Nat) : Int).toNat]? = some xs[i] := by simp [ip]
    have n2 : ys[((i : Nat) : Int).toNat]? = some ys[i] := by simp [iq]
    have up : ((i : Int) + 1) = ((i + 1 : Nat) : Int) := by omega
    rw [n1, n2]
    refine wpAny_bind (wpAny_mono tt (fun r s2 h2 => ?_) fun _ _ x => x)
    obtain ⟨er, h2⟩ := h2
    subst er
    have next := ne_turns p q N J hJ done k (i + 1) (by omega) (by omega) s2 h2
    obtain ⟨hh2, gg2, dd2, kk2, oo2⟩ := s2
    wp_walk
    rw [up]
    exact ⟨plainId_quiet plain_eq_loop _, codeAny_builtin entry_eq_loop (by rw [Around.under_plainId plain_eq_loop _]; exact next)⟩
theorem ne_lists (p q : Addr) (N : Nat) (J : Nat → Shared → Prop) (hJ : GQ.ListI prog w A (fun e s' => R (.error e) s') p q N J)
    (done : ∀ s, J N s → R (.ok (.ret (.bool false))) s) {s : Shared} (hs : J 0 s) :
    wpAny (model prog w) A.in1 (Builtin.«list.__ne__» ⟨[.ref p, .ref q], []⟩) (GQ.FinOf prog w A R) (fun e s' => R (.error e) s') s := by
  obtain ⟨xs, ys, m, m2, gp, gq, zp, zq, _⟩ := hJ _ _ hs
  have all := ne_turns (A := A) (R := R) p q N J hJ done _ 0 rfl (Nat.zero_le _) s hs
  obtain ⟨hh, gg, dd, kk, oo⟩ := s
  have sub := AutoSeq1.sub_list_list
  have same : ¬ (xs.size != ys.size) = true := by simp [zp, zq]
  wp_walk using wpAny_loadPart' gp, wpAny_loadPart' gq
  exact ⟨plainId_quiet plain_eq_loop _, codeAny_builtin entry_eq_loop (by rw [Around.under_plainId plain_eq_loop _]; exact all)⟩
end
section
variable {prog : Program} {w : World} {A : Around} {E : Value → Shared → Prop} {s : Shared}
theorem rc_ne {p q : Addr} {N : Nat} {Q : Value → Shared → Prop} (hu : A.units < cLine) (J : Nat → Shared → Prop) (hJ : GQ.ListI prog w A E p q N J)
    (done : ∀ s, J N s → Q (.bool false) s) (hs : J 0 s) : wpAny (model prog w) A (richCompare .NotEq (.ref p) (.ref q)) Q E s := by
  obtain ⟨xs, ys, m, m2, gp, gq, _, _, _⟩ := hJ _ _ hs
  refine wpAny_richCompare_same_room (op := .NotEq) ⟨_, gp, rfl⟩ ⟨_, gq, rfl⟩ F.slot_list_ne (GQ.call_here F.slot_list_ne ⟨_, gp, rfl⟩ F.entry_list_ne (F.args_list_ne_2 _ _) ?_) hu
  exact ne_lists (R := wants (fun v s' => v ≠ .notImplemented ∧ Q v s') E) p q N J hJ (fun s' z => ⟨(fun x => nomatch x), done s' z⟩) hs
end
open L2 in
/-- xs != ys, where the items are equal by their own == : False -/
def rNeG (D : Eqv) : R2 := fun x y H Q => DList D x y H ∧ ∀ H', Ext H H' → Q (.bl false) H'
open L2 in
theorem op_neG {X : Cx} {n : Nat} {D : Eqv} (hD : Mon D) (h : EqG X n D) (hr : Room (n + 1) X.A) : OpR X (compareOp .NotEq) (rNeG D) := by
  intro pins s σ H x y v u Q I rx ry hq
  obtain ⟨⟨a, b, xs, ys, rfl, rfl, ha, hb, p⟩, q⟩ := hq
  cases rx
  cases ry
  show wpAny (model X.prog X.w) X.A (richCompare .NotEq (.ref a) (.ref b)) (EP X pins σ Q) X.xe s
  refine rc_ne (N := xs.length) hr.units0 (fun _ s' => LoopI X pins σ H s') (fun i s' z => ?_) (fun s' z => ?_) ⟨H, I, Ext.rfl'⟩
  · obtain ⟨H1, I1, e1⟩ := id z
    obtain ⟨_, its, k, r, e⟩ := I1.hok a _ (e1 _ _ ha)
    obtain ⟨_, its2, k2, r2, e2⟩ := I1.hok b _ (e1 _ _ hb)
    exact ⟨its.toArray, its2.toArray, k, k2, e, e2, by rw [List.size_toArray, ← r.length], by rw [List.size_toArray, ← r2.length, ← p.1], fun g1 g2 => turnG hD h ⟨hr, rfl⟩ p r r2 i g1 g2 s' z⟩
  · obtain ⟨H1, I1, e1⟩ := z
    exact ⟨.bl false, H1, I1, rfl, q H1 e1⟩
end KA
namespace KA
open PySem PySem.Spec PyProof.Rows L2
/-- a comprehension over a list that leaves places out; what it asks may make new things -/
theorem lc_someX {K : PySem.W.Frag} {a : Addr} {xs : List V} {H : Hp} {D : Addr} (hD : H D = none) (hS : SqL K H a xs) (hl : xs.length ≤ 10000) (p : Nat → Bool) (f : Nat → V)
    {g : TG} {tt : TT} {te : TE} {vs : List Nat} {σ : L2.St} {Qd : Hp → Prop}
    (turn : ∀ (i : Nat) (x : V) (H2 : Hp) (R : V → Hp → Prop) (C : Hp → Prop), xs[i]? = some x → Same H H2 → (p i = true → ∀ H3, Same H2 H3 → R (f i) H3) → (p i = false → ∀ H3, Same H2 H3 → C H3) → g x (wipe σ vs) H2 fun σ2 H2 => wipe σ2 vs = wipe σ vs ∧ tt σ2 H2 fun b H3 => if b = true then te σ2 H3 R else C H3)
    (fin : ∀ H', Same H H' → H' D = some (.lst (((List.range xs.length).filter p).map f)) → Qd H') :
    ∃ W : Nat → Nat → Hp → Prop, (∃ m, W 0 m (upd H D (.lst []))) ∧ ∀ i m H, W i m H →
      ((Itl K a).stop i H ∧ Qd H) ∨ ((Itl K a).go i H ∧ ∃ Nx : Hp → Prop, (∀ H', Nx H' → ∃ m', m' < m ∧ W (i + 1) m' H') ∧ ∀ x H', (Itl K a).yld i H x H' → g x (wipe σ vs) H' fun σ2 H2 => wipe σ2 vs = wipe σ vs ∧ tt σ2 H2 fun b H3 =>
        if b = true then te σ2 H3 fun y H4 => ∃ acc, H4 D = some (.lst acc) ∧ acc.length < sizeLine ∧ Nx (upd H4 D (.lst (acc ++ [y]))) else Nx H3) := by
  refine lc_list (K := K) (a := a) (xs := xs) (fun i H' => Same H H' ∧ H' D = some (.lst (((List.range i).filter p).map f))) ⟨same_upd hD, upd_same⟩ (fun i H' _ h => h.1.seq hS) ?_ ?_
  · rintro i x H2 hi ⟨s2, e2⟩
    have hil : i < xs.length := (List.getElem?_eq_some_iff.mp hi).1
    refine turn i x H2 _ _ hi s2 (fun hp H3 s3 => ?_) (fun hp H3 s3 => ?_)
    · refine ⟨_, s3 _ _ e2, ?_, fun b o h => ?_, ?_⟩
      · rw [List.length_map]
        refine Nat.lt_of_le_of_lt (List.length_filter_le _ _) ?_
        rw [List.length_range]
        exact Nat.lt_of_lt_of_le (show i < 10000 by omega) (by decide)
      · rw [upd_ne (ne_of_none h hD)]
        exact s3 _ _ (s2 _ _ h)
      · rw [upd_same, List.range_succ, List.filter_append, List.map_append, List.filter_cons_of_pos hp]
        rfl
    · refine ⟨s2.trans s3, ?_⟩
      rw [s3 _ _ e2, List.range_succ, List.filter_append, List.map_append, List.filter_cons_of_neg (by rw [hp]; exact Bool.false_ne_true)]
      show _ = some (HO.lst (_ ++ []))
      rw [List.append_nil]
  · rintro H' ⟨s, e⟩
    exact fin H' s e
theorem lc_someR {n : Nat} {H : Hp} {D : Addr} (hD : H D = none) (hl : n ≤ 10000) (p : Nat → Bool) (f : Nat → V)
    {g : TG} {tt : TT} {te : TE} {vs : List Nat} {σ : L2.St} {Qd : Hp → Prop}
    (turn : ∀ (i : Nat) (H2 : Hp) (R : V → Hp → Prop) (C : Hp → Prop), i < n → Same H H2 → (p i = true → ∀ H3, Same H2 H3 → R (f i) H3) → (p i = false → ∀ H3, Same H2 H3 → C H3) → g (.int (0 + i)) (wipe σ vs) H2 fun σ2 H2 => wipe σ2 vs = wipe σ vs ∧ tt σ2 H2 fun b H3 => if b = true then te σ2 H3 R else C H3)
    (fin : ∀ H', Same H H' → H' D = some (.lst (((List.range n).filter p).map f)) → Qd H') :
    ∃ W : Nat → Nat → Hp → Prop, (∃ m, W 0 m (upd H D (.lst []))) ∧ ∀ i m H, W i m H →
      ((Itr 0 n).stop i H ∧ Qd H) ∨ ((Itr 0 n).go i H ∧ ∃ Nx : Hp → Prop, (∀ H', Nx H' → ∃ m', m' < m ∧ W (i + 1) m' H') ∧ ∀ x H', (Itr 0 n).yld i H x H' → g x (wipe σ vs) H' fun σ2 H2 => wipe σ2 vs = wipe σ vs ∧ tt σ2 H2 fun b H3 =>
        if b = true then te σ2 H3 fun y H4 => ∃ acc, H4 D = some (.lst acc) ∧ acc.length < sizeLine ∧ Nx (upd H4 D (.lst (acc ++ [y]))) else Nx H3) := by
  refine lc_range (lo := 0) (n := n) (fun i H' => Same H H' ∧ H' D = some (.lst (((List.range i).filter p).map f))) ⟨same_upd hD, upd_same⟩ ?_ ?_
  · rintro i H2 hil ⟨s2, e2⟩
    refine turn i H2 _ _ hil s2 (fun hp H3 s3 => ?_) (fun hp H3 s3 => ?_)
    · refine ⟨_, s3 _ _ e2, ?_, fun b o h => ?_, ?_⟩
      · rw [List.length_map]
        refine Nat.lt_of_le_of_lt (List.length_filter_le _ _) ?_
        rw [List.length_range]
        exact Nat.lt_of_lt_of_le (show i < 10000 by omega) (by decide)
      · rw [upd_ne (ne_of_none h hD)]
        exact s3 _ _ (s2 _ _ h)
      · rw [upd_same, List.range_succ, List.filter_append, List.map_append, List.filter_cons_of_pos hp]
        rfl
    · refine ⟨s2.trans s3, ?_⟩
      rw [s3 _ _ e2, List.range_succ, List.filter_append, List.map_append, List.filter_cons_of_neg (by rw [hp]; exact Bool.false_ne_true)]
      show _ = some (HO.lst (_ ++ []))
      rw [List.append_nil]
  · rintro H' ⟨s, e⟩
    exact fin H' s e
end KA
/-! sorted(xs, key = own def or lambda): the keys may be new things -/
namespace KA
open PySem PySem.Spec PyProof.Rows L2
section
variable {X : Cx} {pins : List (Addr × Obj)} {σ : L2.St} {H : Hp} {s : Shared} {A : Around} {a kS : Addr} {e1 : Nat} {E : Value → Shared → Prop} {P : PySem.Fin → Shared → Prop}
/-- a list of ours that was pinned as it stood is written and known from now on -/
theorem trackL {o : Obj} {f : Obj → Obj} {its' : List Value} {n' : Nat} {ys : List V} (I : L2.Inv X ((a, o) :: pins) σ H s) (h0 : X.s_0.heap.objs.size ≤ a) (hp : ∀ p ∈ X.pn ++ pins, p.1 ≠ a) (hf : f o = seqObj "list" its'.toArray n')
    (r : Vals ys its') (hz : ys.length ≤ sizeLine) (t : Nat) : L2.Inv X pins σ (upd H a (.lst ys)) { s with heap := s.heap.update a f, toks := t } := by
  have pa := I.pin (a, o) (List.mem_append_right _ (List.mem_cons_self ..))
  have ha : s.heap.get? a = some o := pa.1
  have hn : H a = none := pa.2.1
  have I0 : L2.Inv X pins σ H s := I.pins_of fun p hq => I.pin p (List.mem_append_right _ (List.mem_cons_of_mem _ hq))
  have e : (s.heap.update a f).get? a = some (seqObj "list" its'.toArray n') := by
    rw [Heap.get?_update_self f ha (by rw [hf] <;> rfl), hf]
  have oth : ∀ b u, b ≠ a → s.heap.get? b = some u → (s.heap.update a f).get? b = some u := fun b u hb q => (Heap.get?_update_other _ _ (Ne.symm hb)).trans q
  have nt : ∀ b u, H b = some u → b ≠ a := fun b u q => ne_of_none q hn
  refine I0.step (g' := s.gens) (d' := s.drawn) (ch := [a]) (fun b hb => ?_) (fun b o' _ _ hb q _ => oth b o' (fun z => hb (by rw [z]; exact List.mem_singleton_self _)) q) (fun b o' _ _ hb q _ => ⟨o'.slots, oth b o' (fun z => hb (by rw [z]; exact List.mem_singleton_self _)) q⟩)
    (fun b o' hb q n => by rw [upd_ne (fun z => hb (by rw [z]; exact List.mem_singleton_self _))]; exact n) (fun b o' hb q => ⟨o', oth b o' (fun z => hb (by rw [z]; exact List.mem_singleton_self _)) q⟩) (fun b xs q => by rw [upd_ne (nt b _ q)]; exact q)
    (fun b o' u q => by rw [upd_ne (nt b _ q)]; exact q) (fun b ps q => ⟨#[], by rw [upd_ne (nt b _ q), q]; simp⟩) (fun m hm => ?_) (fun b u q => ?_) I0.bare
  · obtain rfl := List.mem_singleton.mp hb
    refine ⟨.inr h0, pa.2.2.1, fun x c hc z => ?_, hp⟩
    subst z
    obtain ⟨v, ob, ho, hd⟩ := I0.cell x _ hc
    rw [ha] at ho
    cases ho
    exact pa.2.2.2.2 v hd
  · obtain ⟨ob, es, ep, ho, rest⟩ := hm
    exact ⟨ob, es, ep, oth _ _ (Ne.symm pa.2.2.1) ho, rest⟩
  · by_cases hb : b = a
    · subst hb
      rw [upd_same] at q
      cases q
      exact ⟨hz, its', n', r, e⟩
    · rw [upd_ne hb] at q
      refine (I0.hok b u q).stay (fun d v hd w' => oth d v (fun z => ?_) w') (fun d w' => by rw [upd_ne (nt d _ w')]; exact w') fun d xs w' => by rw [upd_ne (nt d _ w')]; exact w'
      rcases hd with z2 | z2
      · exact hb (z2.symm.trans z)
      · exact nt d _ z2 z
/-- behind the sorting: the store of keys is emptied, the list gets its items -/
theorem tailJ {st : SortSt} {its out : List Value} {ks ys : List V} {n : Nat} (I : L2.Inv X ((a, seqObj "list" #[] e1) :: pins) σ H s) (h0 : X.s_0.heap.objs.size ≤ a) (hp : ∀ p ∈ X.pn ++ pins, p.1 ≠ a) (hk : H kS = some (.lst ks)) (nk : s.heap.get? kS = some (seqObj "list" its.toArray n))
    (hn : its.length ≤ sizeLine) (ro : Vals ys out) (hz : ys.length ≤ sizeLine) (hfl : failedOf st = none) (ho : (arrOf st).map (·.2) = out.toArray)
    (h : ∀ s', L2.Inv X pins σ (upd (upd H kS (.lst [])) a (.lst ys)) s' → P (.done (.ret .none)) s') : wpAny (model X.prog X.w) A (ksk_tail a false e1 (.ref kS) st) P E s := by
  have I1 := I.lstUpd (f := Obj.mapSeq fun _ => (#[] : Array Value)) (its' := []) hk nk (by rfl) .nil (Nat.zero_le _) s.toks
  have na1 := (I1.pin (a, seqObj "list" #[] e1) (List.mem_append_right _ (List.mem_cons_self ..))).1
  have I2 := trackL (f := Obj.mapSeq fun _ => out.toArray) (its' := out) I1 h0 hp (by rfl) ro hz s.toks
  have zo : out.toArray.size ≤ sizeLine + 1 := by rw [List.size_toArray, ← ro.length]; omega
  have zk : its.toArray.size ≤ sizeLine := by rw [List.size_toArray]; exact hn
  have all : wpAny (model X.prog X.w) A (ksk_tail a false e1 (.ref kS) st) (fun f s' => f = .done (.ret .none) ∧ L2.Inv X pins σ (upd (upd H kS (.lst [])) a (.lst ys)) s') E s := by
    unfold ksk_tail
    dsimp only
    rw [ho, hfl]
    refine wpAny_bind (listUpdate_at nk rfl (wpAny_bind (wpAny_letGo (wpAny_bind (seqEpoch_at na1 rfl (wpAny_bind (listUpdate_at na1 rfl ?_ (Nat.zero_le _) (by simpa using zo))))))) zk (Nat.zero_le _))
    simp only [bne_self_eq_false, Bool.false_eq_true, if_false]
    exact wpAny_pure ⟨rfl, I2⟩
  refine wpAny_mono all (fun f s' q => ?_) fun _ _ e => e
  obtain ⟨rfl, J⟩ := q
  exact h s' J
theorem each_dp : ∀ {ks : List V} {kz : List PyData} {us : List Value}, L2.Inv X pins σ H s → DpAll X.K H ks kz → Vals ks us → PySem.W.EachIs (fun v k => ∃ as, Reads s.heap v k as) us kz
  | [], _, _, I, h, r => by
    cases h
    cases r
    exact .nil
  | k :: ks, _, _, I, h, r => by
    cases h with
    | cons h1 h2 =>
      cases r with
      | cons r1 r2 => exact .cons (Dp.reads I _ _ _ h1 r1) (each_dp I h2 r2)
/-- the items by their keys, rising, those of one key in their order -/
noncomputable def srtV (xs : List V) (kz : List PyData) : List V := ((xs.zip kz).mergeSort (PySem.W.dataLe false fun p : V × PyData => p.2)).map Prod.fst
theorem vals_each : ∀ {us : List Value} {bs : List (V × PyData)}, PySem.W.EachIs (fun v (p : V × PyData) => RelV p.1 v) us bs → Vals (bs.map Prod.fst) us
  | _, _, .nil => .nil
  | _, _, .cons h t => .cons h (vals_each t)
theorem each_vals : ∀ {xs : List V} {us : List Value} {kz : List PyData}, Vals xs us → kz.length = xs.length → PySem.W.EachIs (fun v (p : V × PyData) => RelV p.1 v) us (xs.zip kz)
  | _, _, [], .nil, _ => .nil
  | _, _, k :: kz, .cons h t, e => .cons h (each_vals t (by simpa using e))
theorem endJ {vs its : List Value} {xs ks : List V} {kz : List PyData} {n : Nat} (I : L2.Inv X ((a, seqObj "list" #[] e1) :: pins) σ H s) (h0 : X.s_0.heap.objs.size ≤ a) (hp : ∀ p ∈ X.pn ++ pins, p.1 ≠ a) (hk : H kS = some (.lst ks)) (nk : s.heap.get? kS = some (seqObj "list" its.toArray n))
    (rk : Vals ks its) (rv : Vals xs vs) (hd : DpAll X.K H ks kz) (hlen : ks.length = xs.length) (hlz : kz.length = xs.length) (hZ : xs.length ≤ sizeLine) (hal : PySem.W.AllAlike kz) (hsk : PySem.W.Sortable kz) (hu : ∀ d, d ∈ kz → A.units + d.depth < cLine)
    (h : ∀ s', L2.Inv X pins σ (upd (upd H kS (.lst [])) a (.lst (srtV xs kz))) s' → P (.done (.ret .none)) s') : wpAny (model X.prog X.w) A (ksk_end a false vs.toArray e1 (.ref kS) its.toArray) P E s := by
  have hE := each_dp I hd rk
  have S := PySem.W.SortsAt.data (prog := X.prog) (w := X.w) (A := A) (s := s) hE hal hsk hu
  obtain ⟨kd, h1, h2⟩ := S.kind
  have lv : vs.length = xs.length := rv.length.symm
  have li : its.length = xs.length := rk.length.symm.trans hlen
  have hK : PyProof.Rows.KeysOf (PySem.W.dataKind s.heap kz) (its.toArray.zip vs.toArray) := PySem.W.keysOf_zip (by simpa using S.keys)
  have ms : (xs.zip kz).map (fun p : V × PyData => p.2) = kz := List.map_snd_zip (by omega)
  have ko : PySem.W.KeyedOut false ((xs.zip kz).map fun p : V × PyData => p.2) vs (PySem.W.sortVals (PySem.W.dataKind s.heap kz) false its vs) := by
    rw [ms]
    exact ⟨s.heap, its, hal, rfl, hE⟩
  have ro : Vals (srtV xs kz) (PySem.W.sortVals (PySem.W.dataKind s.heap kz) false its vs) := vals_each (PySem.W.keyedOut_each _ ko (each_vals rv hlz))
  have lo : (srtV xs kz).length ≤ sizeLine := by
    rw [ro.length, PySem.W.sortVals_length false (by omega), lv]
    exact hZ
  have fin : ∀ st' : SortSt, (arrOf st').Perm (its.toArray.zip vs.toArray) → SortedToK (PySem.W.dataKind s.heap kz) (arrOf st') (its.toArray.zip vs.toArray).size → Stable (PySem.W.dataKind s.heap kz) (arrOf st') (its.toArray.zip vs.toArray) →
      (arrOf st').map (·.2) = (PySem.W.sortVals (PySem.W.dataKind s.heap kz) false its vs).toArray := fun st' p1 p2 p3 => by
    have e := PySem.W.sort_out (rev := false) (keys := its.toArray) (items := vs.toArray) (xs := arrOf st') hK p1 p2 p3
    rw [if_neg Bool.false_ne_true] at e
    rw [← Array.toArray_toList (xs := (arrOf st').map _), e]
  have zs : (its.toArray.zip vs.toArray).size = xs.length := by
    rw [Array.size_zip, List.size_toArray, List.size_toArray, li, lv, Nat.min_self]
  unfold ksk_end
  dsimp only
  rw [if_neg Bool.false_ne_true]
  by_cases l2 : vs.toArray.size < 2
  · rw [if_pos l2, if_pos l2]
    refine wpAny_bind (wpAny_pure ?_)
    rw [StateT.run_pure]
    refine wpAny_bind (wpAny_pure (tailJ (st := SortSt.mk' general' (its.toArray.zip vs.toArray) #[] 7 none) I h0 hp hk nk (by omega) ro lo rfl (fin _ (Array.Perm.refl _) (fun i j hij hj => ?_) (Stable.refl _)) h))
    rw [zs] at hj
    rw [List.size_toArray] at l2
    obtain rfl : i = j := by omega
    exact KeyOrd.kle_refl _
  · rw [if_neg l2, if_neg l2]
    rw [List.size_toArray] at l2
    refine wpAny_bind (h2 (by omega) _ (wpAny_bind (wpAny_mono (PyProof.Rows.H.wpS_sortRunsSt (κ := PySem.W.dataKind s.heap kz) (kd := kd) (a₀ := its.toArray.zip vs.toArray) (st := SortSt.mk' kd (its.toArray.zip vs.toArray) #[] 7 none)
      (Q := fun _ st' => failedOf st' = none ∧ (arrOf st').map (·.2) = (PySem.W.sortVals (PySem.W.dataKind s.heap kz) false its vs).toArray) h1 hK ⟨Array.Perm.refl _, rfl, rfl⟩ rfl (Stable.refl _) (by omega) fun st' p1 p2 p3 p4 => ⟨p2, fin st' p1 p3 p4⟩) (fun r s' q => ?_) fun _ _ e => e)))
    obtain ⟨⟨⟩, st'⟩ := r
    obtain ⟨rfl, q1, q2⟩ := q
    exact tailJ I h0 hp hk nk (by omega) ro lo q1 q2 h
/-- what a key is: a whole number, a truth, a text, or a tuple of these -/
inductive KF : V → PyData → Prop
  | int (i : Int) : KF (.int i) (.int i)
  | bl (b : Bool) : KF (.bl b) (.bool b)
  | str (x : Str) : KF (.str x) (.str x)
inductive KFs : List V → List PyData → Prop
  | nil : KFs [] []
  | cons {v : V} {d : PyData} {vs : List V} {ds : List PyData} : KF v d → KFs vs ds → KFs (v :: vs) (d :: ds)
inductive KD (K : PySem.W.Frag) (H : Hp) : V → PyData → Prop
  | flat {v : V} {d : PyData} : KF v d → KD K H v d
  | tup {t : Addr} {xs : List V} {ds : List PyData} : SqT K H t xs → KFs xs ds → KD K H (.ref t) (.tuple ds)
theorem KF.dp {K : PySem.W.Frag} {H : Hp} {v : V} {d : PyData} (h : KF v d) : Dp K H v d := by
  cases h
  · exact .int _
  · exact .bl _
  · exact .str _
theorem KFs.dp {K : PySem.W.Frag} {H : Hp} : ∀ {vs : List V} {ds : List PyData}, KFs vs ds → DpAll K H vs ds
  | _, _, .nil => .nil
  | _, _, .cons h t => .cons h.dp t.dp
theorem KD.dp {K : PySem.W.Frag} {H : Hp} {v : V} {d : PyData} (h : KD K H v d) : Dp K H v d := by
  cases h with
  | flat h => exact h.dp
  | tup h1 h2 => exact .tup h1 h2.dp
inductive KDs (K : PySem.W.Frag) (H : Hp) : List V → List PyData → Prop
  | nil : KDs K H [] []
  | cons {v : V} {d : PyData} {vs : List V} {ds : List PyData} : KD K H v d → KDs K H vs ds → KDs K H (v :: vs) (d :: ds)
theorem KDs.dp {K : PySem.W.Frag} {H : Hp} : ∀ {vs : List V} {ds : List PyData}, KDs K H vs ds → DpAll K H vs ds
  | _, _, .nil => .nil
  | _, _, .cons h t => .cons h.dp t.dp
theorem KDs.snoc {K : PySem.W.Frag} {H : Hp} : ∀ {vs : List V} {ds : List PyData} {v : V} {d : PyData}, KDs K H vs ds → KD K H v d → KDs K H (vs ++ [v]) (ds ++ [d])
  | _, _, _, _, .nil, h => .cons h .nil
  | _, _, _, _, .cons k t, h => .cons k (t.snoc h)
theorem KDs.len {K : PySem.W.Frag} {H : Hp} : ∀ {vs : List V} {ds : List PyData}, KDs K H vs ds → vs.length = ds.length
  | _, _, .nil => rfl
  | _, _, .cons _ t => congrArg Nat.succ t.len
theorem sqT_nl {K : PySem.W.Frag} {H H' : Hp} {t : Addr} {xs : List V} (n : NL H H') (h : SqT K H t xs) : SqT K H' t xs := by
  rcases h with (h | ⟨o, h⟩) | h
  · exact .inl (.inl (n _ _ (fun _ z => by cases z) h))
  · exact .inl (.inr ⟨o, n _ _ (fun _ z => by cases z) h⟩)
  · exact .inr h
theorem KD.nl {K : PySem.W.Frag} {H H' : Hp} {v : V} {d : PyData} (n : NL H H') (h : KD K H v d) : KD K H' v d := by
  cases h with
  | flat h => exact .flat h
  | tup h1 h2 => exact .tup (sqT_nl n h1) h2
theorem KDs.nl {K : PySem.W.Frag} {H H' : Hp} (n : NL H H') : ∀ {vs : List V} {ds : List PyData}, KDs K H vs ds → KDs K H' vs ds
  | _, _, .nil => .nil
  | _, _, .cons h t => .cons (h.nl n) (t.nl n)
/-- f(x) tells the key that D says of x, and only makes things -/
def KeyB (X : Cx) (n : Nat) (f : Value) (D : V → PyData → Hp → Prop) : Prop :=
  ∀ (A : Around) (pins : List (Addr × Obj)) (s : Shared) (σ : L2.St) (H : Hp) (x : V) (u : Value) (k : PyData), Sub X n A → L2.Inv X pins σ H s → RelV x u → D x k H →
    wpAny (model X.prog X.w) A (call f [u]) (fun r s' => ∃ z H', L2.Inv X pins σ H' s' ∧ Ext H H' ∧ RelV z r ∧ KD X.K H' z k) (fun _ _ => False) s
theorem nl_lst {H : Hp} {p : Addr} {xs ys : List V} (h : H p = some (.lst xs)) : NL H (upd H p (.lst ys)) := fun b o n q => by
  rw [upd_ne]
  · exact q
  · rintro rfl
    rw [h] at q
    exact n xs (Option.some.inj q).symm
theorem restJ {H0 : Hp} {f : Value} {m : Nat} {D : V → PyData → Hp → Prop} {vs : List Value} {xs : List V} {kz : List PyData} (kb : KeyB X m f D) (sb : Sub X m A) (I : L2.Inv X ((a, seqObj "list" #[] e1) :: pins) σ H s) (h0 : X.s_0.heap.objs.size ≤ a) (hp : ∀ p ∈ X.pn ++ pins, p.1 ≠ a)
    (x0 : Ext H0 H) (n0 : H0 kS = none) (hk : H kS = some (.lst [])) (rv : Vals xs vs) (hlz : kz.length = xs.length) (hZ : xs.length < sizeLine) (hal : PySem.W.AllAlike kz) (hsk : PySem.W.Sortable kz) (hu : ∀ d, d ∈ kz → A.units + d.depth < cLine)
    (mon : ∀ x k H H', Ext H H' → D x k H → D x k H') (hD : ∀ (i : Nat) x k, xs[i]? = some x → kz[i]? = some k → D x k H0)
    (h : ∀ s' H', Ext H0 (upd H' kS (.lst [])) → H' a = none → L2.Inv X pins σ (upd (upd H' kS (.lst [])) a (.lst (srtV xs kz))) s' → P (.done (.ret .none)) s') : wpAny (model X.prog X.w) A (ksk_rest a f false vs.toArray e1 (.ref kS)) P E s := by
  have lv : vs.length = xs.length := rv.length.symm
  unfold ksk_rest
  refine wpAny_bind (wpAny_rule ?_)
  rw [List.forIn_toArray]
  refine wpAny_bind (ksk_fold (fun i s' => ∃ H' ks, L2.Inv X ((a, seqObj "list" #[] e1) :: pins) σ H' s' ∧ Ext H0 H' ∧ H' kS = some (.lst ks) ∧ KDs X.K H' ks (kz.take i)) vs 0 s ⟨H, [], I, x0, hk, by rw [List.take_zero]; exact .nil⟩ (fun j u s' hu' hJ => ?_) fun s' hJ => ?_)
  · obtain ⟨H', ks, I', x', hk', hd⟩ := hJ
    rw [Nat.zero_add] at hd ⊢
    have hj : j < xs.length := by
      have := (List.getElem?_eq_some_iff.mp hu').1
      omega
    have hx : xs[j]? = some xs[j] := List.getElem?_eq_getElem hj
    have hkj : kz[j]? = some kz[j] := List.getElem?_eq_getElem (by omega)
    have rx : RelV xs[j] u := by
      have := rv.get hx
      obtain ⟨u', q1, q2⟩ := this
      rw [hu'] at q1
      cases q1
      exact q2
    have hlk : ks.length = j := by
      have := hd.len
      rw [List.length_take] at this
      omega
    refine wpAny_bind (wpAny_attempt (wpAny_mono (kb A _ s' σ H' xs[j] u kz[j] sb I' rx (mon _ _ _ _ x' (hD j _ _ hx hkj))) (fun r s2 q => ?_) fun _ _ z => z.elim))
    obtain ⟨z, H2, I2, x2, rz, hz⟩ := q
    dsimp only
    have hk2 := x2 _ _ hk'
    obtain ⟨zz, its, n, ri, li, nk⟩ := I2.lstM hk2
    have ef : Obj.mapSeq (·.push r) (seqObj "list" its.toArray n) = seqObj "list" (its ++ [r]).toArray (if (its.toArray.push r).size == its.toArray.size then n else n + 1) := by
      rw [← List.push_toArray]
      rfl
    have I3 := I2.lstUpd (f := Obj.mapSeq (·.push r)) (its' := its ++ [r]) (ys := ks ++ [z]) hk2 nk ef (ri.append (.cons rz .nil)) (by rw [List.length_append, List.length_singleton]; omega) s2.toks
    have ex : Ext H0 (upd H2 kS (.lst (ks ++ [z]))) := fun b o q => by
      rw [upd_ne (ne_of_none q n0)]
      exact x2 _ _ (x' _ _ q)
    have tk : kz.take (j + 1) = kz.take j ++ [kz[j]] := by
      rw [List.take_add_one, hkj]
      rfl
    refine wpAny_bind (listUpdate_at nk rfl (wpAny_pure ⟨rfl, _, ks ++ [z], I3, ex, upd_same, ?_⟩) (by rw [List.size_toArray]; omega) (by rw [Array.size_push, List.size_toArray]; omega))
    rw [tk]
    exact ((hd.nl (NL.of x2)).nl (nl_lst hk2)).snoc (hz.nl (nl_lst hk2))
  · obtain ⟨H', ks, I', x', hk', hd⟩ := hJ
    rw [show kz.take (0 + vs.length) = kz from List.take_of_length_le (by omega)] at hd
    obtain ⟨zz, its, n, ri, li, nk⟩ := I'.lstM hk'
    have hlk := hd.len
    refine wpAny_bind (listItems_at nk rfl (endJ I' h0 hp hk' nk ri rv hd.dp (by omega) hlz (by omega) hal hsk hu fun s2 J => h s2 H' (fun b o q => ?_) (I'.pin _ (List.mem_append_right _ (List.mem_cons_self ..))).2.1 J))
    rw [upd_ne (ne_of_none q n0)]
    exact x' _ _ q
/-- sorted(l, key = f) -/
theorem sortedJ {f : Addr} {l : Addr} {m : Nat} {D : V → PyData → Hp → Prop} {xs : List V} {kz : List PyData} {Q : VK} (kb : KeyB X m (.ref f) D) (hr : Room (m + 2) X.A) (mon : ∀ x k H H', Ext H H' → D x k H → D x k H') (I : L2.Inv X pins σ H s) (hl : SqL X.K H l xs) (hZ : xs.length < sizeLine)
    (hlz : kz.length = xs.length) (hal : PySem.W.AllAlike kz) (hsk : PySem.W.Sortable kz) (hdep : ∀ d, d ∈ kz → d.depth ≤ 8) (hD : ∀ (i : Nat) x k, xs[i]? = some x → kz[i]? = some k → D x k H)
    (q : ∀ (H' : Hp) (p : Addr), Ext H H' → H' p = some (.lst (srtV xs kz)) → H p = none → Q (.ref p) H') : wpAny (model X.prog X.w) X.A (call (.builtin "sorted") [.ref l] [(Str.ofString "key", .ref f)]) (EP X pins σ Q) X.xe s := by
  obtain ⟨vs, rv, pl, _⟩ := I.list hl
  have lv : vs.length = xs.length := rv.length.symm
  have sb : Sub X m X.A.in1.in1 := Sub.in1 (Sub.in1 ⟨hr, rfl⟩)
  refine PySem.W.sorted_of_sort pl.isList (by omega) (ksk_s1 _ _) (fun _ => ksk_l1 _ _) fun E' => ?_
  rw [ksk_t1]
  have na := PySem.W.copyHeap_at s.heap vs
  have hlt : @LT.lt Nat _ X.env.locals s.heap.objs.size := I.lt
  have above : @LE.le Nat _ X.s_0.heap.objs.size X.env.locals := I.ok.above
  generalize ea : s.heap.objs.size + 1 = a at na ⊢
  have ga : @Eq Nat (s.heap.objs.size + 1) a := ea
  obtain ⟨e1, na1⟩ : ∃ e1, ((PySem.W.copyHeap s.heap vs).update a (Obj.mapSeq fun _ => (#[] : Array Value))).get? a = some (seqObj "list" #[] e1) := ⟨_, get?_update_seq na fun _ => #[]⟩
  have kp : ∀ b u, s.heap.get? b = some u → ((PySem.W.copyHeap s.heap vs).update a (Obj.mapSeq fun _ => (#[] : Array Value))).get? b = some u := fun b u e => by
    have : @LT.lt Nat _ b s.heap.objs.size := Heap.lt_size e
    exact (Heap.get?_update_other _ _ (Nat.ne_of_gt (show @LT.lt Nat _ b a by omega))).trans (PySem.W.copyHeap_old e)
  have sz : ((PySem.W.copyHeap s.heap vs).update a (Obj.mapSeq fun _ => (#[] : Array Value))).objs.size = (PySem.W.copyHeap s.heap vs).objs.size := Heap.size_update ..
  have big : a < (PySem.W.copyHeap s.heap vs).objs.size := Heap.lt_size na
  generalize eh : (PySem.W.copyHeap s.heap vs).update a (Obj.mapSeq fun _ => (#[] : Array Value)) = h1 at na1 kp sz
  generalize ek : (h1.push (seqObj "tuple" vs.toArray 0)).objs.size = kS
  have sk : kS = h1.objs.size + 1 := by rw [← ek, size_push']
  have nk : ((h1.push (seqObj "tuple" vs.toArray 0)).push (seqObj "list" #[] 0)).get? kS = some (seqObj "list" #[] 0) := by
    rw [← ek]
    exact Heap.get?_push_size _ rfl
  have kp2 : ∀ b u, h1.get? b = some u → ((h1.push (seqObj "tuple" vs.toArray 0)).push (seqObj "list" #[] 0)).get? b = some u := fun b u e => Heap.get?_push_of_some _ (Heap.get?_push_of_some _ e)
  have hkn : H kS = none := I.hok.fresh (by omega)
  have I1 := I.laid (t' := s.toks) (a := kS) (o := .lst []) (fun b u e => kp2 b u (kp b u e)) (by omega) ⟨Nat.zero_le _, [], 0, .nil, nk⟩
  have pa : ∀ p ∈ X.pn ++ pins, p.1 ≠ a := fun p hp z => by
    have : @LT.lt Nat _ p.1 s.heap.objs.size := Heap.lt_size (I.pin p hp).1
    rw [z] at this
    omega
  have I2 : L2.Inv X ((a, seqObj "list" #[] e1) :: pins) σ (upd H kS (.lst [])) { s with heap := (h1.push (seqObj "tuple" vs.toArray 0)).push (seqObj "list" #[] 0), toks := s.toks } := I1.pins_of fun p hp => by
    rcases List.mem_cons.mp hp with rfl | hp
    · refine ⟨kp2 _ _ na1, ?_, Nat.ne_of_gt (show @LT.lt Nat _ X.env.locals a by omega), fun z => ?_, fun v z => by cases z⟩
      · rw [upd_ne (show a ≠ kS by omega)]
        exact I.hok.fresh (by show _ ≤ a; omega)
      · exact I.nofs (show s.heap.objs.size ≤ a by omega) z
    · exact I1.pin p (List.mem_append_right _ hp)
  have ru := sb.room.units
  have fin : wpAny (model X.prog X.w) X.A.in1.in1 (ksk_rest a (.ref f) false vs.toArray e1 (.ref kS)) (fun g s' => g = .done (.ret .none) ∧ EP X pins σ Q (.ref a) s') E' { s with heap := (h1.push (seqObj "tuple" vs.toArray 0)).push (seqObj "list" #[] 0), toks := s.toks } :=
    restJ (H0 := H) kb sb I2 (by omega) pa (Ext.upd hkn) hkn upd_same rv hlz hZ hal hsk (fun d hd => by have := hdep d hd; omega) mon hD fun s' H' x hn J => ⟨rfl, .ref a, _, J, rfl, q _ a (fun b o e => ?_) upd_same (I.hok.fresh (by omega))⟩
  · unfold ksk_tree
    refine wpAny_bind (listItems_at na rfl (wpAny_bind (listUpdate_at na rfl ?_ (by rw [List.size_toArray]; omega) (Nat.zero_le _))))
    show wpAny _ _ _ _ _ { s with heap := (PySem.W.copyHeap s.heap vs).update a (Obj.mapSeq fun _ => (#[] : Array Value)) }
    rw [eh]
    refine wpAny_bind (seqEpoch_at na1 rfl (wpAny_bind (wpAny_newTuple (wpAny_bind (wpAny_newList (wpAny_holding ?_) (Nat.zero_le _))) (by show vs.length ≤ _; omega))))
    show wpAny _ _ (ksk_rest a (.ref f) false vs.toArray e1 (.ref (h1.push (seqObj "tuple" vs.toArray 0)).objs.size)) _ _ _
    rw [ek]
    exact fin
  · have : b ≠ a := ne_of_none (x b o e) (by rw [upd_ne (show a ≠ kS by omega)]; exact hn)
    rw [upd_ne this]
    exact x b o e
end
end KA
/-! a lambda with a parameter as a value; sorted by a def or by a lambda -/
namespace KA
open PySem PySem.Spec PyProof.Rows L2 LamX
section
variable {X : Cx} {pins : List (Addr × Obj)} {σ : L2.St} {H : Hp} {s : Shared}
/-- the lambda at f -/
def LamO (f : Addr) (q : Str) (params : Arguments) (body : Expr) (scope : Scope) (c' : Addr) : HO := .ext fun h => ∃ pm ctv, h.get? f = some (PySem.W.kla_obj "<lambda>" q params body scope [] pm c' ctv)
def tLamV (T : List (Addr × Str)) (q : Str) (params : Arguments) (body : Expr) (scope : Scope) : TE := fun σ H Q => Tabs T H ∧ ∀ (H1 : Hp) (f c' : Addr), ExtN H H1 → Tabs T H1 → H1 f = some (LamO f q params body scope c') → H1 c' = some (CodeO c' q) → Q (.ref f) H1
theorem clo_nil {cells : List (Str × Addr)} : ∀ {ns : List (Str × NameKind)} {acc : List (Str × Addr)}, (∀ y ∈ ns, y.2 ≠ .free) → cloFrom cells ns acc = acc
  | [], acc, _ => rfl
  | (n, k) :: ns, acc, h => by
    have hk : k ≠ .free := h _ (List.mem_cons_self ..)
    have := clo_nil (cells := cells) (ns := ns) (acc := acc) fun y hy => h y (List.mem_cons_of_mem _ hy)
    unfold cloFrom
    first
      | (rw [if_neg (by simpa using hk)]; exact this)
      | (simp [hk]; exact this)
theorem pe_lam1 {T : List (Addr × Str)} {c P : Addr} {params : Arguments} {body : Expr} {scope : Scope} {pos : Pos} (TB : TabB X.base X.mg c P) (hcode : X.env.code = .ref c) (hmT : (P, X.env.qual ++ "<lambda>") ∈ T) (hu : ∀ p ∈ T, p.1 = P → p.2 = X.env.qual ++ "<lambda>")
    (hdef : defaultsOf params X.env = ([], [])) (nofree : ∀ y ∈ scope.names, y.2 ≠ .free) : PE X (.Lambda params body scope pos) (tLamV T (X.env.qual ++ "<lambda>") params body scope) := by
  refine ⟨fun pins s σ H Q I h => ?_⟩
  obtain ⟨hT, h⟩ := h
  obtain ⟨ps, hP, tok, among⟩ := hT _ hmT
  have bP : s.heap.BuiltinsAt X.mg P := TB.bm.keeps I.bk
  have hP' : s.heap.get? P = some { cls := .none, data := .fields ps } := I.hok P _ hP
  have cl : closureFor scope X.env = pure [] := by
    have := closure_ok (env := X.env) (scope := scope) fun y hy e => absurd e (nofree y hy)
    rw [clo_nil nofree] at this
    exact this
  have lam : ∀ {H1 : Hp} {s' : Shared} {c' : Addr} {pm ctv : Value} {tk : Nat}, L2.Inv X pins σ H1 s' → ExtN H H1 → Tabs T H1 → H1 c' = some (CodeO c' (X.env.qual ++ "<lambda>")) →
      EP X pins σ Q (.ref s'.heap.objs.size) { s' with heap := s'.heap.push (PySem.W.kla_obj "<lambda>" (X.env.qual ++ "<lambda>") params body scope [] pm c' ctv), toks := tk } := fun {H1 s' c' pm ctv tk} J eN T1 hc => by
    have kp : ∀ b u, s'.heap.get? b = some u → (s'.heap.push (PySem.W.kla_obj "<lambda>" (X.env.qual ++ "<lambda>") params body scope [] pm c' ctv)).get? b = some u := fun b u e => Heap.get?_push_of_some _ e
    have at_ : (s'.heap.push (PySem.W.kla_obj "<lambda>" (X.env.qual ++ "<lambda>") params body scope [] pm c' ctv)).get? s'.heap.objs.size = some (PySem.W.kla_obj "<lambda>" (X.env.qual ++ "<lambda>") params body scope [] pm c' ctv) := Heap.get?_push_size _ rfl
    have hn : H1 s'.heap.objs.size = none := J.hok.fresh (Nat.le_refl _)
    have ex : Ext H1 (upd H1 s'.heap.objs.size (LamO s'.heap.objs.size (X.env.qual ++ "<lambda>") params body scope c')) := Ext.upd hn
    have J2 := J.laid (t' := tk) (a := s'.heap.objs.size) (o := LamO s'.heap.objs.size (X.env.qual ++ "<lambda>") params body scope c') kp (Nat.le_refl _) ⟨⟨pm, ctv, at_⟩, ⟨_, at_⟩, fun h1 h2 ⟨pm, ctv, e⟩ st => ⟨pm, ctv, st _ e⟩⟩
    exact ⟨.ref _, _, J2, rfl, h _ _ c' (eN.trans (ExtN.of ex)) (T1.ext ex) upd_same (ex _ _ hc)⟩
  refine PySem.W.kla_eval hdef ?_
  cases hc : codeAmong pos ps.toList with
  | some cv =>
    obtain ⟨c', rfl, hco⟩ := among pos cv hc
    refine PySem.W.kla_makeFunctionHit (mg := X.mg) (c := c) (P := P) (ps := ps) cl I.ok.glob (I.mod.glob.keeps I.bk) hcode (TB.code.keeps I.bk) hP' tok hc bP fun ctv h' tk hx hsz => ?_
    exact lam (s' := { s with heap := h', toks := tk }) (I.kept hx) (ExtN.refl H) hT hco
  | none =>
    refine PySem.W.kla_makeFunction (mg := X.mg) (c := c) (P := P) (ps := ps) cl I.ok.glob (I.mod.glob.keeps I.bk) hcode (TB.code.keeps I.bk) hP' tok hc TB.gP bP fun c' ctv h' tk hx hge hlt hrec htb => ?_
    obtain ⟨c2, oc, vs, t, e2, hoc, hd, hv⟩ := hrec
    cases e2
    have nC : H c' = none := I.hok.fresh hge
    have J := inv_table (t' := tk) (more := #[rawInt pos.line, rawInt pos.col, .ref c']) (h' := h') I hP hx htb hge ⟨oc, vs, t, hoc, hd, hv⟩
    have eN : ExtN H (upd (upd H P (.tbl (ps ++ #[rawInt pos.line, rawInt pos.col, .ref c']))) c' (CodeO c' (X.env.qual ++ "<lambda>"))) := fun b o e n => by
      have nP : b ≠ P := fun z => by
        rw [z, hP] at e
        exact n ps (Option.some.inj e).symm
      rw [upd_ne (ne_of_none e nC), upd_ne nP]
      exact e
    have toL : (ps ++ #[rawInt pos.line, rawInt pos.col, .ref c']).toList = ps.toList ++ [rawInt pos.line, rawInt pos.col, .ref c'] := by simp
    refine lam (s' := { s with heap := h', toks := tk }) J eN (fun p hp => ?_) upd_same
    by_cases hb : p.1 = P
    · rw [hu p hp hb, hb]
      refine ⟨_, by rw [upd_ne (ne_of_none hP nC), upd_same], by rw [toL]; exact PySem.TriplesOk_snoc _ _ _ _ tok, fun p' cv hcv => ?_⟩
      rw [toL] at hcv
      rcases among_app _ tok hcv with z | z
      · obtain ⟨c0, q1, q2⟩ := among p' cv z
        exact ⟨c0, q1, eN _ _ q2 codeO_ne⟩
      · exact ⟨c', z, upd_same⟩
    · obtain ⟨ps', a1, a2, a3⟩ := hT p hp
      refine ⟨ps', by rw [upd_ne (ne_of_none a1 nC), upd_ne hb]; exact a1, a2, fun p' cv hcv => ?_⟩
      obtain ⟨c0, q1, q2⟩ := a3 p' cv hcv
      exact ⟨c0, q1, eN _ _ q2 codeO_ne⟩
theorem env_sub {n : Nat} {A : Around} (sb : Sub X n A) (I : L2.Inv X pins σ H s) : Env0 X.prog X.w X.K X.mg X.base A X.stack s H := by
  have e := I.env0
  exact ⟨by rw [sb.fr]; exact e.frames, e.mod, e.bs, e.bsz, e.funs, e.frf, e.hok, e.bare⟩
/-- an own def as a key -/
theorem keyB_fn {n : Nat} {f : Addr} {fd : FuncData} {x : Str} {sp : Sp} {D : V → PyData → Hp → Prop} (F : FnOk X.prog X.w X.K X.mg X.base CX0 n f fd [x] sp) (hb : Binds X.K fd [x] []) (imp : ∀ y k H, D y k H → sp [y] H (fun z H' => Ext H H' ∧ KD X.K H' z k) E0) : KeyB X n (.ref f) D := by
  intro A pins s σ H y u k sb I ry d
  refine wpAny_call (codeAny_mono (F.run A X.stack s H ⟨[u], []⟩ [u] [y] _ E0 sb.room (env_sub sb I) (by
    have := hb s [u] I.kIn rfl
    simpa using this) (.cons ry .nil) (imp y k H d)) fun r s' hq => ?_)
  cases r with
  | error e => exact (show False from hq).elim
  | ok fl =>
    cases fl with
    | ret z =>
      obtain ⟨z, H', I', rz, ex, kd⟩ := I.after hq
      exact ⟨z, H', I', ex, rz, kd⟩
    | next => exact False.elim hq
    | brk => exact False.elim hq
    | cont => exact False.elim hq
/-- a lambda with one parameter and nothing captured as a key -/
theorem keyB_lam {n : Nat} {f c' : Addr} {q : Str} {params : Arguments} {body : Expr} {scope : Scope} {N : List Str} {a : Str} {tb : TE} {D : V → PyData → Hp → Prop} (S : FnScope N [a] scope)
    (hbind : ∀ (pm cv ctv u : Value), bindArgs (PySem.W.kla_fn "<lambda>" q params body scope [] pm cv ctv) ⟨[u], []⟩ = pure [(a, u)])
    (hbody : ∀ (A : Around) (outer : List Env) (s : Shared) (H : Hp) (cdv : Value), Room n (A.deeper (envOfC q scope s.heap.objs.size f cdv)) → PE (cxOf CX0 X.prog X.w X.K X.mg X.base N q scope f cdv A outer s H E0).nox body tb)
    (imp : ∀ y k H, D y k H → tb (L2.start N [y]) H fun z H' => Ext H H' ∧ KD X.K H' z k) : KeyB X (n + 1) (.ref f) fun y k H => H f = some (LamO f q params body scope c') ∧ H c' = some (CodeO c' q) ∧ D y k H := by
  intro A pins s σ H y u k sb I ry d
  obtain ⟨hf, hc, d⟩ := d
  obtain ⟨⟨pm, ctv, of1⟩, _, _⟩ := I.hok f _ hf
  obtain ⟨⟨oc, vs, t, hoc, hdc, hvc⟩, _, _⟩ := I.hok c' _ hc
  have e0 := env_sub sb I
  have lim : s.heap.NoLimit := e0.mod.nolimit.keeps fun b o e => (e0.bs b o e).1
  have hkind : ∀ y ∈ [a].zip [u], scope.names.lookup y.1 = some .local ∨ (scope.names.lookup y.1 = some .cell ∧ ((cellsFrom (s.heap.objs.size + 1) scope.names []).lookup y.1).isSome = true) := fun ⟨nm, v⟩ hy => by
    rcases S.par nm (List.of_mem_zip hy).1 with z | z
    · exact .inl z
    · exact .inr ⟨z, PySem.W.cellsFrom_some _ _ _ (.inl z)⟩
  have rc : codeAny (model X.prog X.w) A (.call (.ref f) ⟨[u], []⟩) (CR CX0 X.stack X.prog X.w H s (fun z H' => Ext H H' ∧ KD X.K H' z k) E0) s := by
    refine PySem.W.kla_callFunE sb.room.depth of1 rfl S.co S.gen rfl ⟨c', oc, vs, t, rfl, hoc, hdc, hvc⟩ ?_
    rw [hbind]
    refine wpAny_pure (wpAny_newFunctionEnv_cells S.kind hkind fun env he s1 x => ?_)
    subst he
    refine ⟨lim.keeps x.toInCall.keep, ?_⟩
    have J : L2.Inv (cxOf CX0 X.prog X.w X.K X.mg X.base N q scope f (.ref c') A X.stack s H E0) [] (L2.start N [y]) H s1 := inv_start (us := [u]) S sb.room.hd e0 rfl (.cons ry .nil) x
    refine PySem.W.kla_codeExpr (wpAny_mono ((hbody A X.stack s H (.ref c') (sb.room.deeper _)).nox.run [] _ _ H _ J (imp y k H d)) (fun v s' hq => ?_) fun e s' hq => hq)
    obtain ⟨w', H', J', rv, z⟩ := hq
    exact ⟨w', H', J'.os, J'.bare, J'.base, J'.hok, rv, z⟩
  refine wpAny_call (codeAny_mono rc fun r s' hq => ?_)
  cases r with
  | error e => exact (show False from hq).elim
  | ok fl =>
    cases fl with
    | ret z =>
      obtain ⟨z, H', I', rz, ex, kd⟩ := I.after hq
      exact ⟨z, H', I', ex, rz, kd⟩
    | next => exact False.elim hq
    | brk => exact False.elim hq
    | cont => exact False.elim hq
/-- sorted(l, key = f), f told by what D says of it -/
def rSortG (K : PySem.W.Frag) (D : Addr → V → PyData → Hp → Prop) : List V → List V → Hp → VK → Prop := fun vs zs H Q => ∃ (l f : Addr) (xs : List V) (kz : List PyData), vs = [.ref l] ∧ zs = [.ref f] ∧ SqL K H l xs ∧ xs.length < sizeLine ∧ kz.length = xs.length ∧ PySem.W.AllAlike kz ∧ PySem.W.Sortable kz ∧
  (∀ d, d ∈ kz → d.depth ≤ 8) ∧ (∀ (i : Nat) x k, xs[i]? = some x → kz[i]? = some k → D f x k H) ∧ ∀ (H' : Hp) (p : Addr), Ext H H' → H' p = some (.lst (srtV xs kz)) → H p = none → Q (.ref p) H'
theorem call_sortG {m : Nat} {D : Addr → V → PyData → Hp → Prop} (kb : ∀ f, KeyB X m (.ref f) (D f)) (mon : ∀ f x k H H', Ext H H' → D f x k H → D f x k H') (hr : Room (m + 2) X.A) : CallRK X (.builtin "sorted") [Str.ofString "key"] (rSortG X.K D) := by
  intro pins s σ H vs zs us ws Q I r rz h
  obtain ⟨l, f, xs, kz, rfl, rfl, hl, hZ, hlz, hal, hsk, hdp, hD, q⟩ := h
  obtain rfl := Vals.ref1 r
  obtain rfl := Vals.ref1 rz
  exact sortedJ (kb f) hr (mon f) I hl hZ hlz hal hsk hdp hD q
/-- the key is the def at A -/
def DFn (A : Addr) (D : V → PyData → Hp → Prop) : Addr → V → PyData → Hp → Prop := fun f y k H => f = A ∧ D y k H
theorem kbFn {n : Nat} {f : Addr} {fd : FuncData} {x : Str} {sp : Sp} {D : V → PyData → Hp → Prop} (F : FnOk X.prog X.w X.K X.mg X.base CX0 n f fd [x] sp) (hb : Binds X.K fd [x] []) (imp : ∀ y k H, D y k H → sp [y] H (fun z H' => Ext H H' ∧ KD X.K H' z k) E0) : ∀ g, KeyB X n (.ref g) (DFn f D g) := fun g A pins s σ H y u k sb I ry d => by
  obtain ⟨rfl, d⟩ := d
  exact keyB_fn F hb imp A pins s σ H y u k sb I ry d
theorem monFn {A : Addr} {D : V → PyData → Hp → Prop} (mon : ∀ x k H H', Ext H H' → D x k H → D x k H') : ∀ f x k H H', Ext H H' → DFn A D f x k H → DFn A D f x k H' := fun f x k H H' e d => ⟨d.1, mon x k H H' e d.2⟩
/-- the key is a lambda -/
def DLam (q : Str) (params : Arguments) (body : Expr) (scope : Scope) (D : V → PyData → Hp → Prop) : Addr → V → PyData → Hp → Prop := fun f y k H => ∃ c', H f = some (LamO f q params body scope c') ∧ H c' = some (CodeO c' q) ∧ D y k H
theorem kbLam {n : Nat} {q : Str} {params : Arguments} {body : Expr} {scope : Scope} {N : List Str} {a : Str} {tb : TE} {D : V → PyData → Hp → Prop} (S : FnScope N [a] scope)
    (hbind : ∀ (pm cv ctv u : Value), bindArgs (PySem.W.kla_fn "<lambda>" q params body scope [] pm cv ctv) ⟨[u], []⟩ = pure [(a, u)])
    (hbody : ∀ (f : Addr) (A : Around) (outer : List Env) (s : Shared) (H : Hp) (cdv : Value), Room n (A.deeper (envOfC q scope s.heap.objs.size f cdv)) → PE (cxOf CX0 X.prog X.w X.K X.mg X.base N q scope f cdv A outer s H E0).nox body tb)
    (imp : ∀ y k H, D y k H → tb (L2.start N [y]) H fun z H' => Ext H H' ∧ KD X.K H' z k) : ∀ g, KeyB X (n + 1) (.ref g) (DLam q params body scope D g) := fun g A pins s σ H y u k sb I ry d => by
  obtain ⟨c', d⟩ := d
  exact keyB_lam (c' := c') S hbind (hbody g) imp A pins s σ H y u k sb I ry d
theorem monLam {q : Str} {params : Arguments} {body : Expr} {scope : Scope} {D : V → PyData → Hp → Prop} (mon : ∀ x k H H', Ext H H' → D x k H → D x k H') : ∀ f x k H H', Ext H H' → DLam q params body scope D f x k H → DLam q params body scope D f x k H' := fun f x k H H' e d => by
  obtain ⟨c', h1, h2, h3⟩ := d
  exact ⟨c', e _ _ h1, e _ _ h2, mon x k H H' e h3⟩
/-- sorted(e, key = lambda a: body) -/
theorem pe_sortLam {T : List (Addr × Str)} {c P : Addr} {n : Nat} {params : Arguments} {body e : Expr} {scope : Scope} {N : List Str} {a : Str} {ta : TA} {tb : TE} {D : V → PyData → Hp → Prop} {p lpos kpos pos : Pos} (hg : Gl X "sorted") (hm : X.mg "sorted" = none) (he : PA X [e] ta)
    (TB : TabB X.base X.mg c P) (hcode : X.env.code = .ref c) (hmT : (P, X.env.qual ++ "<lambda>") ∈ T) (hu : ∀ p ∈ T, p.1 = P → p.2 = X.env.qual ++ "<lambda>") (S : FnScope N [a] scope)
    (hbody : ∀ (f : Addr) (A : Around) (outer : List Env) (s : Shared) (H : Hp) (cdv : Value), Room n (A.deeper (envOfC (X.env.qual ++ "<lambda>") scope s.heap.objs.size f cdv)) → PE (cxOf CX0 X.prog X.w X.K X.mg X.base N (X.env.qual ++ "<lambda>") scope f cdv A outer s H E0).nox body tb)
    (imp : ∀ y k H, D y k H → tb (L2.start N [y]) H fun z H' => Ext H H' ∧ KD X.K H' z k) (mon : ∀ x k H H', Ext H H' → D x k H → D x k H') (hr : Room (n + 3) X.A)
    (hdef : defaultsOf params X.env = ([], []) := by rfl) (hbind : ∀ (pm cv ctv u : Value), bindArgs (PySem.W.kla_fn "<lambda>" (X.env.qual ++ "<lambda>") params body scope [] pm cv ctv) ⟨[u], []⟩ = pure [(a, u)] := by intros; rfl)
    (h1 : backTo pos (starEach [e] X.env) = (false, eval e X.env) :: backTo pos (starEach [] X.env) := by rfl) (h2 : (backTo pos (starEach [e] X.env)).any (·.1) = false := by rfl) :
    PE X (.Call (.Name "sorted" p) [e] [⟨some "key", .Lambda params body scope lpos, kpos⟩] pos) (tCKw (rSortG X.K (DLam (X.env.qual ++ "<lambda>") params body scope D)) ta (tCons (tLamV T (X.env.qual ++ "<lambda>") params body scope) tNil)) :=
  pe_callBK (call_sortG (kbLam S hbind hbody imp) (monLam mon) hr) hg hm (by decide +kernel) he (pk_cons (pe_lam1 TB hcode hmT hu hdef S.nofree) pk_nil) (by decide) (by decide) h1 h2
end
/-- a def whose code object is known -/
theorem okC {P : Program} {w : World} {K : PySem.W.Frag} {mg : Str → Option Value} {base : Heap} {x qual : Str} {st : Stmt} {f : Addr} {fd : FuncData} {N ps : List Str} {k : Nat} {sp : Sp} {cv : Value} (F : Fun K x qual st f fd) (hc : fd.code = cv) (S : FnScope N ps (defScope st)) (len : ∀ vs H Q E, sp vs H Q E → vs.length = ps.length)
    (hbody : ∀ (A : Around) (outer : List Env) (s : Shared) (H : Hp) (vs : List V) (Q : VK) (E : XK), Room k (A.deeper (envOfC qual (defScope st) s.heap.objs.size f cv)) → sp vs H Q E →
      ∃ t, PSs (cxOf CX0 P w K mg base N qual (defScope st) f cv A outer s H E).nox (defBody st) t ∧ t { nx := fun _ H' => Q .non H', rt := Q } (L2.start N vs) H) : FnOk P w K mg base CX0 (k + 1) f fd ps sp := by
  obtain ⟨oc, od, kV, doc, pm, an, cdv, ct, osl, rfl, lk, hcd⟩ := F.ex
  cases hc
  refine fn_of lk hcd S len fun A outer s H vs Q E hr hsp => ?_
  obtain ⟨t, h, q⟩ := hbody A outer s H vs Q E hr hsp
  exact ⟨t, h.nox, q⟩
/-- the end of a law whose program makes lambdas -/
theorem walk_tab {l : PySem.W.OpenLaw} {n k : Nat} {q : Program} {loose : List Str} {XP : (Str → Option Value) → Heap → Prop} {YP : World → Heap → Prop} {d : DefRec} {K : Params → PySem.W.Frag} {x : Str}
    (hn : l.most = some n) (hn2 : n ≤ sizeLine) (hdf : d.params.defaults = []) (hr : Room k callerA) (hY : ∀ (w : World) (h : Heap), YP w h → (K w.params).In h)
    (F : ∀ (w : World) (mg : Str → Option Value) (fa : Addr) (h : Heap), (K w.params).In h → h.Ns mainGlobals mg → mg d.name = some (.ref fa) →
      (∀ (y : Str) (c P : Addr), ((recsOf q).find? fun e => e.name == y).isSome = true → PySem.W.tabIn (K w.params) y = some (c, P) → PySem.W.CodeHd h c P ∧ h.get? P = some { cls := .none, data := .fields #[] }) → LawAtS l w (K w.params) CX0 k n x mg fa h) :
    PySem.W.WalkO q loose XP YP l.row.toRowW d [] (fun f vs => PySem.call f vs) := by
  refine Att.attach_callB hn hdf fun w s₀ s₁ mg mb fa o pm cd doc a vs ns G Y ho hd hcd hmg hobj hints hlen hbits hg => ?_
  have KX := hY w _ Y
  obtain ⟨fd, cs, sp, hT, nT, C, hb, hsp, hF⟩ := F w mg fa _ KX G.T.g hmg fun y c P hr ht => by
    obtain ⟨dr, e⟩ := Option.isSome_iff_exists.mp hr
    exact PySem.W.tab_of G.T KX e ht
  exact law_callTs KX G.T.g G.T.b G.T.builtins G.T.nolimit hg hT nT C G.T.bmain hobj hints (Nat.le_trans hlen hn2) hr hF hb (fun H hH hS => hsp H a ns hlen hbits hH hS) fun H e s' z => z
end KA
/-! tuples of whole numbers, truths and texts: a >= b -/
namespace KA
open PySem PySem.Spec PyProof.Rows L2
theorem not_lt_ge (a b : Int) : decide (b ≤ a) = !decide (a < b) := by
  by_cases h : a < b
  · rw [decide_eq_true h, decide_eq_false (by omega)]; rfl
  · rw [decide_eq_false h, decide_eq_true (by omega)]; rfl
/-- the first place that differs decides -/
theorem lexAt_data {ds es : List PyData} (hl : ds.length = es.length) (hal : PySem.W.alikeAll ds es = true) : ∀ (k i : Nat), i + k = ds.length →
    Ob.lexAt (fun j => PyData.eqv (ds.getD j .none) (es.getD j .none)) (fun j => !PySem.W.dataLt (ds.getD j .none) (es.getD j .none)) true i k = !PyProof.Rows.lexLt itemOrd (PySem.W.keyToksAll (ds.drop i)) (PySem.W.keyToksAll (es.drop i)) := by
  have al : ∀ (i : Nat), PySem.W.alikeAll (ds.drop i) (es.drop i) = true := by
    intro i
    induction i generalizing ds es with
    | zero => exact hal
    | succ i ih =>
      cases ds with
      | nil =>
        rw [List.drop_nil]
        cases es with
        | nil => rfl
        | cons y ys => cases hl
      | cons x xs =>
        cases es with
        | nil => cases hl
        | cons y ys => exact ih (by simpa using hl) (PySem.W.alike_all_cons hal).2
  intro k
  induction k with
  | zero =>
    intro i h
    rw [List.drop_of_length_le (show ds.length ≤ i by omega), List.drop_of_length_le (show es.length ≤ i by omega)]
    rfl
  | succ k ih =>
    intro i h
    have h1 : i < ds.length := by omega
    have h2 : i < es.length := by omega
    have e1 : ds.drop i = ds[i] :: ds.drop (i + 1) := List.drop_eq_getElem_cons h1
    have e2 : es.drop i = es[i] :: es.drop (i + 1) := List.drop_eq_getElem_cons h2
    have g1 : ds.getD i .none = ds[i] := by rw [List.getD_eq_getElem?_getD, List.getElem?_eq_getElem h1]; rfl
    have g2 : es.getD i .none = es[i] := by rw [List.getD_eq_getElem?_getD, List.getElem?_eq_getElem h2]; rfl
    have a1 := al i
    rw [e1, e2] at a1
    have a2 := (PySem.W.alike_all_cons a1).1
    rw [Ob.lexAt_succ, e1, e2]
    rw [g1, g2]
    cases q : PyData.eqv ds[i] es[i] with
    | true => rw [if_pos rfl, ih (i + 1) (by omega), PySem.W.dataLt_all_yes a2 q]
    | false => rw [if_neg Bool.false_ne_true, PySem.W.dataLt_all_no a2 q]
def rGeK (K : PySem.W.Frag) : R2 := fun x y H Q => ∃ (a b : Addr) (xs ys : List V) (ds es : List PyData), x = .ref a ∧ y = .ref b ∧ SqT K H a xs ∧ SqT K H b ys ∧ KFs xs ds ∧ KFs ys es ∧ ds.length = es.length ∧ PySem.W.alikeAll ds es = true ∧ Q (.bl (!PySem.W.dataLt (.tuple ds) (.tuple es))) H
theorem KFs.len {xs : List V} {ds : List PyData} : KFs xs ds → xs.length = ds.length
  | .nil => rfl
  | .cons _ t => congrArg Nat.succ t.len
/-- the items at a place -/
theorem kfs_at : ∀ {xs : List V} {ds : List PyData} {us : List Value}, KFs xs ds → Vals xs us → ∀ (j : Nat) (h : j < us.length), ∃ v, KF v (ds.getD j .none) ∧ RelV v us[j]
  | _, _, _, .nil, .nil, j, h => by simp at h
  | _, _, _, .cons k t, .cons r rs, 0, h => ⟨_, k, r⟩
  | _, _, _, .cons k t, .cons r rs, j + 1, h => kfs_at t rs j (by simpa using h)
theorem alikeAll_at : ∀ {ds es : List PyData}, PySem.W.alikeAll ds es = true → ∀ (j : Nat), j < ds.length → j < es.length → PySem.W.alike (ds.getD j .none) (es.getD j .none) = true
  | x :: xs, y :: ys, h, 0, _, _ => (PySem.W.alike_all_cons h).1
  | x :: xs, y :: ys, h, j + 1, h1, h2 => alikeAll_at (PySem.W.alike_all_cons h).2 j (by simpa using h1) (by simpa using h2)
theorem kf_reads {h : Heap} {v : V} {d : PyData} {u : Value} (k : KF v d) (r : RelV v u) : Reads h u d [] := by
  cases k with
  | int i => obtain ⟨t, rfl⟩ := r; exact Reads.int i t
  | bl b => cases r; exact Reads.bool b
  | str x => obtain ⟨t, rfl⟩ := r; exact Reads.str x t
theorem kf_depth {v : V} {d : PyData} (k : KF v d) : d.depth = 0 := by
  cases k <;> rfl
theorem ge_flat {A : Around} {s : Shared} {v v' : V} {d d' : PyData} {u u' : Value} (k : KF v d) (k' : KF v' d') (r : RelV v u) (r' : RelV v' u') (al : PySem.W.alike d d' = true) : Ob.RcOp .GtE A s u u' (!PySem.W.dataLt d d') := by
  cases k with
  | int i =>
    cases k' with
    | int j =>
      obtain ⟨t, rfl⟩ := r
      obtain ⟨t', rfl⟩ := r'
      rw [PySem.W.dataLt_int, ← not_lt_ge]
      exact Ob.RcOp.ge_int _ _ _ _
    | bl b => cases al
    | str x => cases al
  | bl b =>
    cases k' with
    | int j => cases al
    | bl b' =>
      cases r
      cases r'
      rw [PySem.W.dataLt_bool, ← not_lt_ge]
      exact fun _ _ _ _ h => PyProof.Rows.ge_bool h
    | str x => cases al
  | str x =>
    cases k' with
    | int j => cases al
    | bl b => cases al
    | str x' =>
      obtain ⟨t, rfl⟩ := r
      obtain ⟨t', rfl⟩ := r'
      rw [PySem.W.dataLt_str]
      exact fun _ _ _ _ h => PySem.P.ge_str h
section
variable {X : Cx}
theorem op_geK (hu : X.A.units + 64 < cLine) : OpR X (compareOp .GtE) (rGeK X.K) := by
  intro pins s σ H x y v u Q I rx ry h
  obtain ⟨a, b, xs, ys, ds, es, rfl, rfl, ha, hb, kx, ky, hl, hal, q⟩ := h
  cases rx
  cases ry
  obtain ⟨its, r1, p1, _⟩ := I.tuple ha
  obtain ⟨its2, r2, p2, _⟩ := I.tuple hb
  have z1 : its.toArray.size = ds.length := by rw [List.size_toArray, ← r1.length, kx.len]
  have z2 : its2.toArray.size = ds.length := by rw [List.size_toArray, ← r2.length, ky.len, hl]
  have at1 : ∀ j (h1 : j < its.toArray.size), ∃ v, KF v (ds.getD j .none) ∧ RelV v its.toArray[j] := fun j h1 => by simpa using kfs_at kx r1 j (by simpa using h1)
  have at2 : ∀ j (h1 : j < its2.toArray.size), ∃ v, KF v (es.getD j .none) ∧ RelV v its2.toArray[j] := fun j h1 => by simpa using kfs_at ky r2 j (by simpa using h1)
  have R := Ob.RcOp.tuples_ge (A := X.A) (s := s) (e := fun j => PyData.eqv (ds.getD j .none) (es.getD j .none)) (r := fun j => !PySem.W.dataLt (ds.getD j .none) (es.getD j .none)) p1 p2 (by omega) (fun j h1 h2 => by
    obtain ⟨v1, k1, q1⟩ := at1 j h1
    obtain ⟨v2, k2, q2⟩ := at2 j h2
    refine PySem.W.eqAt_alike _ _ _ s _ _ [] [] (kf_reads k1 q1) (kf_reads k2 q2) (alikeAll_at hal j (by omega) (by omega)) ?_
    have d0 : (ds.getD j .none).depth = 0 := kf_depth k1
    rw [d0, Nat.zero_min]
    show X.A.units + 1 + 0 < cLine
    omega) (fun j h1 h2 _ => by
    obtain ⟨v1, k1, q1⟩ := at1 j h1
    obtain ⟨v2, k2, q2⟩ := at2 j h2
    exact ge_flat k1 k2 q1 q2 (alikeAll_at hal j (by omega) (by omega)))
  rw [z1, z2, Nat.min_self, decide_eq_true (Nat.le_refl _), lexAt_data hl hal ds.length 0 (Nat.zero_add _), List.drop_zero, List.drop_zero, ← PySem.W.dataLt_tuple] at R
  exact R X.prog X.w X.xe (EP X pins σ Q) ⟨.bl _, H, I, rfl, q⟩
theorem op_geKK {K' : PySem.W.Frag} (hK : X.K = K') (hu : X.A.units + 64 < cLine) : OpR X (compareOp .GtE) (rGeK K') := by
  subst hK
  exact op_geK hu
end
end KA
namespace KA
open PySem PySem.Spec PyProof.Rows L2
/-! ### isinstance of a caught error that has fields of its own -/
theorem xd_at {P : Program} {w : World} {H : Hp} {h : Heap} {dd : Addr} {fs : List (Str × V)} (hok : HOk P w H h) (e : H dd = some (.xd fs)) : ∃ od, h.get? dd = some od := by
  obtain ⟨mA, ⟨od, es, ep, ho, _⟩, _⟩ := (show ObjOk P w H h dd (.xd fs) from hok dd _ e)
  exact ⟨od, ho⟩
theorem kit_exc {K : PySem.W.Frag} {D x : Addr} {ox : Obj} {od : Option Obj} (C : ExcC K D) : PySem.W.KitX K (.ref x) (.ref D) (fun h => PySem.W.InstAt h x ox D od) :=
  PySem.W.kitx_exc (by obtain ⟨cd, hc, _⟩ := PySem.W.any_some C.hd; rw [hc]; rfl) C.hg C.hk C.hs C.ha C.hn C.ht C.hm
def rIsD (K : PySem.W.Frag) (a : Addr) (cls : Value) (d : Option Addr) : List V → Hp → VK → Prop := fun xs H Q => ∃ (D dd : Addr) (fs : List (Str × V)) (c : V) (u : Value) (b : Bool), xs = [.ref a, c] ∧ cls = .ref D ∧ d = some dd ∧ H dd = some (.xd fs) ∧ ExcC K D ∧ ClsV c u ∧ PySem.W.kitOne K (.ref D) u = some b ∧ Q (.bl b) H
def rIsDT (K : PySem.W.Frag) (a : Addr) (cls : Value) (d : Option Addr) : List V → Hp → VK → Prop := fun xs H Q => ∃ (D dd tp : Addr) (fs : List (Str × V)) (cs : List V) (us : List Value) (b : Bool), xs = [.ref a, .ref tp] ∧ cls = .ref D ∧ d = some dd ∧ H dd = some (.xd fs) ∧ ExcC K D ∧ H tp = some (.tup cs) ∧ Paired ClsV cs us ∧ PySem.W.kitAny K (.ref D) us = some b ∧ Q (.bl b) H
section
variable {X : Cx} {a : Addr} {oe : Obj} {cls : Value} {d : Option Addr} {pn : List (Addr × Obj)}
theorem inst_of {pins : List (Addr × Obj)} {σ : L2.St} {H : Hp} {s : Shared} {D dd : Addr} {fs : List (Str × V)} (hz : Zc (.ref D) (some dd) oe) (hf : ∃ vs, oe.data = .fields vs) (I : Inv (X.suite a ((a, oe) :: pn)) pins σ H s) (e : H dd = some (.xd fs)) : ∃ od, PySem.W.InstAt s.heap a oe D (some od) := by
  obtain ⟨hget, _⟩ := I.pin (a, oe) (List.mem_append.mpr (.inl List.mem_cons_self))
  obtain ⟨vs, hv⟩ := hf
  obtain ⟨od, ho⟩ := xd_at I.hok e
  exact ⟨od, hget, hz.1, by unfold PySem.W.notCls; rw [hv] <;> rfl, by rw [hz.2]; exact ho⟩
theorem call_isD (hz : Zc cls d oe) (hf : ∃ vs, oe.data = .fields vs) : CallR (X.suite a ((a, oe) :: pn)) (.builtin "isinstance") (rIsD X.K a cls d) := by
  intro pins s σ H xs us Q I r h
  obtain ⟨D, dd, fs, c, u, b, rfl, rfl, rfl, e, C, k, hk, q⟩ := h
  obtain ⟨u1, u2, rfl, r1, r2⟩ := vals2 r
  cases (show u1 = Value.ref a from r1)
  have e2 := k.eq r2
  subst e2
  obtain ⟨od, J⟩ := inst_of hz hf I e
  exact PySem.W.kia_one (kit_exc C) I.kIn J hk (fun z => nomatch z) fun tk => ⟨.bl b, H, I.tok tk, rfl, q⟩
theorem call_isDT (hz : Zc cls d oe) (hf : ∃ vs, oe.data = .fields vs) : CallR (X.suite a ((a, oe) :: pn)) (.builtin "isinstance") (rIsDT X.K a cls d) := by
  intro pins s σ H xs us Q I r h
  obtain ⟨D, dd, tp, fs, cs, ws, b, rfl, rfl, rfl, e, C, hT, k, hk, q⟩ := h
  obtain ⟨u1, u2, rfl, r1, r2⟩ := vals2 r
  cases (show u1 = Value.ref a from r1)
  cases (show u2 = Value.ref tp from r2)
  obtain ⟨od, J⟩ := inst_of hz hf I e
  obtain ⟨_, its, rv, o, h1, h2, n, h3⟩ := (show ObjOk X.prog X.w H s.heap tp (.tup cs) from I.hok tp _ hT)
  have e3 := ClsV.all k rv
  subst e3
  obtain ⟨oc, od', dt, sl⟩ := o
  simp only at h2 h3
  subst h2 h3
  exact PySem.W.kia_tup (kit_exc C) I.kIn J h1 hk (fun z => nomatch z) fun tk => ⟨.bl b, H, I.tok tk, rfl, q⟩
end
theorem call_isiS {X : Cx} {K' : PySem.W.Frag} (hK : X.K = K') : CallR X (.builtin "isinstance") (rIsi K') := by
  subst hK
  exact call_isi
/-! ### calls that let nothing out, bodies that are never run -/
theorem passF {X : Cx} : Passes (L2.CX X.prog X.w) X E0 := passes_call takes0 (fun _ _ _ _ h => h)
/-! ### keywords: which of what is handed in, of the defaults, of the keywords stands where -/
def kw1 {α : Type} (p : Nat × Nat) (us its ws : List α) : List α := match p with
  | (0, i) => us[i]?.toList
  | (1, i) => its[i]?.toList
  | (_, i) => ws[i]?.toList
def kw {α : Type} : List (Nat × Nat) → List α → List α → List α → List α
  | [], _, _, _ => []
  | p :: f, us, its, ws => kw1 p us its ws ++ kw f us its ws
theorem vals_at : ∀ {xs : List V} {us : List Value}, Vals xs us → ∀ i : Nat, (xs[i]? = none ∧ us[i]? = none) ∨ ∃ x u, xs[i]? = some x ∧ us[i]? = some u ∧ RelV x u
  | _, _, .nil, _ => .inl ⟨rfl, rfl⟩
  | _, _, .cons r _, 0 => .inr ⟨_, _, rfl, rfl, r⟩
  | _, _, .cons _ t, i + 1 => by
    rw [List.getElem?_cons_succ, List.getElem?_cons_succ]
    exact vals_at t i
theorem vals_one {xs : List V} {us : List Value} (h : Vals xs us) (i : Nat) : Vals xs[i]?.toList us[i]?.toList := by
  rcases vals_at h i with ⟨e1, e2⟩ | ⟨x, u, e1, e2, r⟩
  · rw [e1, e2]
    exact .nil
  · rw [e1, e2]
    exact .cons r .nil
theorem kw_rel : ∀ (f : List (Nat × Nat)) {vs ds zs : List V} {us is ws : List Value}, Vals vs us → Vals ds is → Vals zs ws → Vals (kw f vs ds zs) (kw f us is ws)
  | [], _, _, _, _, _, _, _, _, _ => .nil
  | (0, i) :: f, _, _, _, _, _, _, h1, h2, h3 => (vals_one h1 i).append (kw_rel f h1 h2 h3)
  | (1, i) :: f, _, _, _, _, _, _, h1, h2, h3 => (vals_one h2 i).append (kw_rel f h1 h2 h3)
  | (_ + 2, i) :: f, _, _, _, _, _, _, h1, h2, h3 => (vals_one h3 i).append (kw_rel f h1 h2 h3)
/-! ### PearlError's own way: one field -/
def spPearl (K : PySem.W.Frag) (f : Str) : Sp := fun vs H Q _ => ∃ (a C : Addr) (v : V), vs = [.ref a, v] ∧ OexC K C ∧ PySem.W.findIn K (.ref C) f = some none ∧ H a = some (exo a C none) ∧
  ∀ dx, H dx = none → dx ≠ a → Q .non (upd (upd H dx (exd dx [(f, v)])) a (exo a C (some dx)))
theorem pearl_same {H : Hp} {a dx : Addr} {o1 o2 o3 : HO} {fs : List (Str × V)} (ha : H a = none) (hd : H dx = none) : Same H (upd (del (upd (upd (upd H a o1) dx o2) a o3) a) dx (.xd fs)) := fun b o e => by
  rw [upd_ne (ne_of_none e hd), del_ne (ne_of_none e ha), upd_ne (ne_of_none e ha), upd_ne (ne_of_none e hd), upd_ne (ne_of_none e ha)]
  exact e
end KA
namespace KA
open PySem PySem.Spec PyProof.Rows L2
section
variable {X : Cx} {n : Nat}
/-- x == y (or another comparison), x an instance of the class at C whose own def keeps sp, y of any kind -/
def rOwn (K : PySem.W.Frag) (C : Addr) (sp : Sp) (E : XK) : R2 := fun x y H Q => ∃ (a dx : Addr) (fs : List (Str × V)) (t : Value), x = .ref a ∧ H a = some (.ins C dx fs) ∧ TyX K H y t ∧ PySem.W.notFirst K C t = true ∧ sp [.ref a, y] H (fun v H' => (∃ b, v = .bl b) ∧ Q v H') E
theorem op_own {op : CmpOp} {CX : CXT} {C f : Addr} {fd : FuncData} {ps : List Str} {sp : Sp} {E : XK} (F : FnOk X.prog X.w X.K X.mg X.base CX n f fd ps sp)
    (hs : PySem.W.findIn X.K (.ref C) (cmpInfo op).2.1 = some (some (.ref f))) (hf : PySem.W.isFn X.K (.ref f) = true) (hb : Binds X.K fd ps []) (hx : Passes CX X E) (hr : Room n X.A) (ho : compareOp op = richCompare op := by rfl) : OpR X (compareOp op) (rOwn X.K C sp E) := by
  intro pins s σ H x y u v Q I rx ry d
  obtain ⟨a, dx, fs, t, rfl, ha, ty, hn, hsp⟩ := d
  cases rx
  obtain ⟨mA, J, _⟩ := ins_get I.hok ha
  obtain ⟨od, J, _⟩ := J.look
  obtain ⟨Pz, Z, p, _⟩ := kit_of I ry ty
  obtain ⟨m, hF⟩ := I.fr
  rw [ho]
  refine PySem.W.cmp_K (op := op) (tb := t) hr.units0 hF I.ok.mod.kin J (Z.ty _ _ I.kIn p) hn hs hf ?_
  have hl := F.len _ _ _ _ hsp
  have r2 : Vals [V.ref a, y] [Value.ref a, v] := .cons rfl (.cons ry .nil)
  refine wpAny_call (codeAny_mono (F.run X.A X.stack s H ⟨[.ref a, v], []⟩ [.ref a, v] [.ref a, y] _ E hr I.env0 (by
    have := hb s [.ref a, v] I.kIn (by simpa using hl)
    simpa using this) r2 hsp) fun r s' hq => ?_)
  cases r with
  | error e => exact hx pins σ H s e s' I hq
  | ok fl =>
    cases fl with
    | ret w =>
      obtain ⟨z, H', I', rz, ⟨b, ez⟩, q⟩ := I.after hq
      subst ez
      cases rz
      exact ⟨.bl b, H', I', rfl, q⟩
    | next => exact False.elim hq
    | brk => exact False.elim hq
    | cont => exact False.elim hq
end
end KA
namespace KA
open PySem PySem.Spec PySem.W PyProof.Rows
section
variable {prog : Program} {w : World} {A : Around} {E : Value → Shared → Prop} {s : Shared} {K : Frag} {x C f : Addr} {ox : Obj} {od : Option Obj}
theorem repr_K {Q : Value → Shared → Prop} (hu : A.in1.units < cLine) (X : K.In s.heap) (I : InstAt s.heap x ox C od) (hs : findIn K (.ref C) "__repr__" = some (some (.ref f))) (hf : isFn K (.ref f) = true)
    (hcall : wpAny (model prog w) A.in1 (call (.ref f) [.ref x]) (fun r s' => ∃ m tk, r = .str m tk ∧ Q (.str m tk) s') E s) :
    wpAny (model prog w) A (call (.builtin "repr") [.ref x]) Q E s := by
  refine Calls.call_function_entry F.kind_repr F.plain_repr F.entry_repr (F.args_repr1 _) ?_
  unfold Builtin.«repr»
  refine wpAny_bind (m := oneArg "repr" _) (wpAny_pure ?_)
  refine wpAny_bind (wpAny_cRoomFor hu ?_)
  refine wpAny_bind (wpAny_bind (I.type.here ((looks_findIn X hs).here ?_)))
  show wpAny _ _ (if (some (Value.ref f)).isNone = true then _ else _) _ _ _
  rw [if_neg (by simp)]
  refine wpAny_bind (m := callSpecialIfBound? (.ref x) (Str.ofString "__repr__") _) (ifBound_K X I hs hf (wpAny_mono hcall (fun r s' hr => ?_) fun _ _ y => y))
  obtain ⟨m, tk, rfl, hq⟩ := hr
  refine wpAny_bind (wpAny_isInstance (typeIs_str _ _ _) isSubtype_str_str ?_)
  first
    | exact wpAny_pure ⟨_, rfl, hq⟩
    | (rw [if_pos rfl]; exact wpAny_pure ⟨_, rfl, hq⟩)
    | (simp only [if_true]; exact wpAny_pure ⟨_, rfl, hq⟩)
end
end KA
namespace KA
open PySem PySem.Spec PyProof.Rows L2
section
variable {X : Cx} {n : Nat} {CX : CXT} {C f : Addr} {fd : FuncData} {ps : List Str} {sp : Sp} {E : XK}
/-- repr(x), str(x): x an instance of the class at C, whose own def keeps sp -/
def rShow (C : Addr) (sp : Sp) (E : XK) : List V → Hp → VK → Prop := fun xs H Q => ∃ (a dx : Addr) (fs : List (Str × V)), xs = [.ref a] ∧ H a = some (.ins C dx fs) ∧ sp [.ref a] H (fun v H' => (∃ m, v = .str m) ∧ Q v H') E
theorem run_self {A : Around} {pins : List (Addr × Obj)} {σ : L2.St} {H : Hp} {s : Shared} {a : Addr} {Q : VK} (F : FnOk X.prog X.w X.K X.mg X.base CX n f fd ps sp) (hb : Binds X.K fd ps []) (hx : Passes CX X E) (hr : Room n A) (hA : A.frames = X.A.frames) (I : L2.Inv X pins σ H s)
    (hsp : sp [.ref a] H (fun v H' => (∃ m, v = .str m) ∧ Q v H') E) : wpAny (model X.prog X.w) A (call (.ref f) [.ref a]) (fun r s' => ∃ m tk, r = .str m tk ∧ EP X pins σ Q (.str m tk) s') X.xe s := by
  have e0 : Env0 X.prog X.w X.K X.mg X.base A X.stack s H := by
    have e := I.env0
    exact ⟨by rw [hA]; exact e.frames, e.mod, e.bs, e.bsz, e.funs, e.frf, e.hok, e.bare⟩
  have hl := F.len _ _ _ _ hsp
  have r2 : Vals [V.ref a] [Value.ref a] := .cons rfl .nil
  refine wpAny_call (codeAny_mono (F.run A X.stack s H ⟨[.ref a], []⟩ [.ref a] [.ref a] _ E hr e0 (by
    have := hb s [.ref a] I.kIn (by simpa using hl)
    simpa using this) r2 hsp) fun r s' hq => ?_)
  cases r with
  | error e => exact hx pins σ H s e s' I hq
  | ok fl =>
    cases fl with
    | ret w =>
      obtain ⟨z, H', I', rz, ⟨m, ez⟩, q⟩ := I.after hq
      subst ez
      obtain ⟨tk, rfl⟩ := (show ∃ t, w = Value.str m t from rz)
      exact ⟨m, tk, rfl, .str m, H', I', ⟨tk, rfl⟩, q⟩
    | next => exact False.elim hq
    | brk => exact False.elim hq
    | cont => exact False.elim hq
theorem call_reprO (F : FnOk X.prog X.w X.K X.mg X.base CX n f fd ps sp) (hs : PySem.W.findIn X.K (.ref C) "__repr__" = some (some (.ref f))) (hf : PySem.W.isFn X.K (.ref f) = true) (hb : Binds X.K fd ps []) (hx : Passes CX X E) (hr : Room (n + 1) X.A) :
    CallR X (.builtin "repr") (rShow C sp E) := by
  intro pins s σ H xs us Q I r h
  obtain ⟨a, dx, fs, rfl, ha, hsp⟩ := h
  obtain ⟨u, rfl, r1⟩ := vals1 r
  cases (show u = Value.ref a from r1)
  obtain ⟨mA, J, _⟩ := ins_get I.hok ha
  obtain ⟨od, J, _⟩ := J.look
  exact repr_K hr.in1.units0 I.kIn J hs hf (run_self F hb hx hr.in1 rfl I hsp)
theorem call_strO (F : FnOk X.prog X.w X.K X.mg X.base CX n f fd ps sp) (hs : PySem.W.findIn X.K (.ref C) "__str__" = some (some (.ref f))) (hf : PySem.W.isFn X.K (.ref f) = true) (hb : Binds X.K fd ps []) (hx : Passes CX X E) (hr : Room (n + 2) X.A) :
    CallR X (.type "str") (rShow C sp E) := by
  intro pins s σ H xs us Q I r h
  obtain ⟨a, dx, fs, rfl, ha, hsp⟩ := h
  obtain ⟨u, rfl, r1⟩ := vals1 r
  cases (show u = Value.ref a from r1)
  obtain ⟨mA, J, _⟩ := ins_get I.hok ha
  obtain ⟨od, J, _⟩ := J.look
  refine PySem.W.kso_call hr.in1.in1.units0 I.kIn J hs hf (wpAny_mono (run_self F hb hx hr.in1.in1 rfl I hsp) (fun r s' hr => ?_) fun _ _ y => y)
  obtain ⟨m, tk, rfl, q⟩ := hr
  exact q
/-- {x}: a text, an int, a truth -/
def tFmtB (te : TE) : TE := fun σ H Q => te σ H fun x H1 => (∃ y : Str, x = .str y ∧ y.length ≤ sizeLine ∧ Q (.str y) H1) ∨ (∃ i : Int, x = .int i ∧ i.natAbs.log2 < 1920 ∧ Q (.str (toString i)) H1) ∨ ∃ b : Bool, x = .bl b ∧ Q (.str (if b then "True" else "False")) H1
theorem pe_fmtB {e : Expr} {te : TE} {pos : Pos} (he : PE X e te) : PE X (.FormattedValue e (-1) none pos) (tFmtB te) := by
  refine ⟨fun pins s σ H Q I h => ?_⟩
  refine wpAny_FormattedValue_plain (thn (he.run pins s σ H _ I h) fun v s1 hv => ?_)
  obtain ⟨x, H1, I1, r1, q⟩ := hv
  rcases q with ⟨y, rfl, hz, q⟩ | ⟨i, rfl, hz, q⟩ | ⟨b, rfl, q⟩
  · obtain ⟨t, rfl⟩ := r1
    exact wpAny_formatField_str ⟨.str y, H1, I1, ⟨t, rfl⟩, q⟩ ⟨.str y, H1, I1.tok _, ⟨_, rfl⟩, q⟩ hz
  · obtain ⟨t, rfl⟩ := r1
    exact wpAny_formatField_int hz ⟨.str (toString i), H1, I1.tok _, ⟨_, rfl⟩, q⟩
  · cases (show v = Value.bool b from r1)
    exact wpAny_formatField_bool ⟨.str (if b then "True" else "False"), H1, I1.tok _, ⟨_, rfl⟩, q⟩
end
end KA
namespace KA
open PySem PySem.Spec PyProof.Rows L2
section
variable {prog : Program} {w : World} {A : Around} {E : Value → Shared → Prop} {s : Shared} {a : Addr} {o : Obj}
theorem lrep_head {Q : Fin → Shared → Prop} {x : Value} {l : List Value} {n : Nat} {b : Nat} (hget : s.heap.get? a = some o) (hd : o.data = .seq (x :: l).toArray n)
    (h1 : wpAny (model prog w) A (do again (.builtin "list.__repr__.loop" ⟨[.ref a, rawInt 0, ← newList [], rawInt b], []⟩)) Q E s) (h2 : ∀ u tk, Q (.done (.ret (.str "[...]" u))) { s with toks := tk }) :
    wpAny (model prog w) A (Builtin.listReprAt b ⟨[.ref a], []⟩) Q E s := by
  unfold Builtin.listReprAt
  show wpAny _ _ (Builtin.List.listItems (.ref a) >>= _) _ _ s
  refine wpAny_bind (wpAny_listItems hget hd ?_)
  refine PySem.W.KFB.if_not rfl ?_
  refine wpAny_bind (wpAny_stack_any fun st => ?_)
  dsimp only
  split
  · refine wpAny_bind (wpAny_rule ?_)
    exact wpAny_bind (wpAny_mkStr (wpAny_pure (h2 _ _)) (by decide +kernel))
  · exact h1
theorem lrep_way : ("[...]" : Str).length ≤ 5 := by decide +kernel
/-- list.__repr__, whatever is under way -/
theorem lrep_call {Q : Value → Shared → Prop} {x : Value} {l : List Value} {n : Nat} {ts : List Str} (hc : o.cls = .type "list") (ha : s.heap.get? a = some o) (hd : o.data = .seq (x :: l).toArray n) (hlen : ts.length = (x :: l).toArray.size)
    (hT : ∀ (i : Nat) (y : Value), (x :: l).toArray[i]? = some y → ∃ t, ts[i]? = some t ∧ ReprIs prog w y t) (hsz : (listText ts).length ≤ sizeLine)
    (h : ∀ h' (m : Str) u tk, (∀ b z, s.heap.get? b = some z → h'.get? b = some z) → m.length ≤ (listText ts).length + 5 → Q (.str m u) { s with heap := h', toks := tk }) :
    wpAny (model prog w) A (call (.builtin "list.__repr__") [.ref a]) Q E s := by
  refine wpAny_call (codeAny_call_builtin F.slot_list_repr.plain F.entry_list_repr (F.slot_list_repr.check _ _ _ _ _ _ _ _ ⟨o, ha, hc⟩ (F.args_list_repr_1 _) ?_))
  refine lrep_head (b := 0) ha hd ?_ (fun u tk => h s.heap _ u tk (fun _ _ e => e) (Nat.le_trans lrep_way (Nat.le_add_left _ _)))
  refine wpAny_bind (m := newList []) (wpAny_newObj_type ?_)
  refine wpAny_pure ⟨F.quiet_list_repr_loop _, ?_⟩
  refine codeAny_list_repr_start (P := s.heap.objs.size) (Nat.ne_of_lt (Heap.lt_size ha)) hlen hT (Heap.get?_push_of_some _ ha) hd (Heap.get?_push_size _ rfl) (fun h' u tk hk => ?_) (by omega)
  exact h h' _ u tk (fun b z e => hk b z (Nat.ne_of_lt (Heap.lt_size e)) (Heap.get?_push_of_some _ e)) (Nat.le_add_right _ _)

theorem drep_way : ("{...}" : Str).length ≤ 5 := by decide +kernel
/-- dict.__repr__ of {}, whatever is under way -/
theorem drep_call {Q : Value → Shared → Prop} {ep : Nat} (hc : o.cls = .type "dict") (ha : s.heap.get? a = some o) (hd : o.data = .dict #[] ep) (hsys : (a == sysModules) = false)
    (h : ∀ (m : Str) u tk, m.length ≤ 10 → Q (.str m u) { s with toks := tk }) : wpAny (model prog w) A (call (.builtin "dict.__repr__") [.ref a]) Q E s := by
  refine wpAny_call (codeAny_call_builtin_own (Code.quiet_builtin _ (by decide +kernel)) F.entry_dict_repr (F.slot_dict_repr.check _ _ _ _ _ _ _ _ ⟨o, ha, hc⟩ (F.args_dict_repr_1 _) (wpOwn_of_wpAny ?_)))
  show wpAny _ _ (Builtin.dictReprAt 0 ⟨[.ref a], []⟩) _ _ s
  unfold Builtin.dictReprAt
  refine wpAny_bind ?_
  unfold Builtin.Dict.dictSlotNone
  refine wpAny_bind (wpAny_notOrdered_dict ⟨o, ha, hc⟩ ?_)
  show wpAny _ _ (pure (Value.ref a)) _ _ s
  refine wpAny_pure ?_
  rw [dictReprRunning_eq]
  refine wpAny_bind (wpAny_bind (wpAny_stack_any fun st => wpAny_pure ?_))
  split
  · refine wpAny_bind (wpAny_rule ?_)
    exact wpAny_bind (wpAny_mkStr (wpAny_pure (h _ _ _ (Nat.le_trans drep_way (by decide)))) (by decide +kernel))
  · show wpAny _ _ (Builtin.Dict.addrOf (.ref a) >>= _) _ _ s
    refine wpAny_bind (wpAny_pure ?_)
    show wpAny _ _ (Builtin.Dict.showsAll a >>= _) _ _ s
    unfold Builtin.Dict.showsAll
    rw [if_neg (by rw [hsys]; exact Bool.false_ne_true)]
    refine wpAny_bind (wpAny_pure (wpAny_bind (wpAny_dictEpoch ha hd (wpAny_bind (wpAny_dictEntries ha hd ?_)))))
    refine wpAny_bind ?_
    rw [Std.Legacy.Range.forIn_eq_forIn_range']
    show wpAny _ _ (forIn [] _ _) _ _ s
    refine wpAny_pure ?_
    refine wpAny_bind (wpAny_mkStr (wpAny_pure (h _ _ _ ?_)) (by decide +kernel))
    decide +kernel
end
/-- str() of what is shown by its __repr__ -/
theorem str_by {prog : Program} {w : World} {A : Around} {E : Value → Shared → Prop} {s : Shared} {a : Addr} {o : Obj} {Q : Value → Shared → Prop} {T idr : String} {N : Nat} (hu : A.units + 3 < cLine) (hc : o.cls = .type T) (ha : s.heap.get? a = some o)
    (slotStr : Slot T "__str__" "object.__str__") (slotRepr : SlotG T "__repr__" idr)
    (rep : ∀ (prog' : Program) (w' : World) (A' : Around) (E' : Value → Shared → Prop) (s' : Shared) (Q' : Value → Shared → Prop), s'.heap.get? a = some o →
      (∀ h' (m : Str) u tk, (∀ b z, s'.heap.get? b = some z → h'.get? b = some z) → m.length ≤ N → Q' (.str m u) { s' with heap := h', toks := tk }) → wpAny (model prog' w') A' (call (.builtin idr) [.ref a]) Q' E' s')
    (h : ∀ h' (m : Str) u tk, (∀ b z, s.heap.get? b = some z → h'.get? b = some z) → m.length ≤ N → Q (.str m u) { s with heap := h', toks := tk }) :
    wpAny (model prog w) A (call (.type "str") [.ref a]) Q E s :=
  callType_new F.called_str (by decide) (F.typeCall_str_1 _) (F.newCall_str_1 _) (fun obj => F.args_object_init_2 obj _) F.entry_str_new
    (meets_str_new (S := fun A' R s' => A'.units + 2 < cLine ∧ s'.heap.get? a = some o ∧
        ∀ h' (m : Str) u tk, (∀ b z, s'.heap.get? b = some z → h'.get? b = some z) → m.length ≤ N → R (.ok (.ret (.str m u))) { s' with heap := h', toks := tk })
      fun prog' w' A' R s' g => wpAny_strOf_slot rfl (by show A'.units + 1 + 1 < cLine; have := g.1; omega) ⟨o, g.2.1, hc⟩ slotStr slotRepr (rep prog' w' _ _ s' _ g.2.1 fun h' m u tk hk hm => ⟨m, u, rfl, g.2.2 h' m u tk hk hm⟩))
    ⟨by show A.units + 1 + 2 < cLine; omega, ha, fun h' m u tk hk hm => ⟨typeIs_str _ _ _, h h' m u tk hk hm⟩⟩
/-- a thing without parts, of bounded text -/
inductive Leaf : V → Prop
  | int (i : Int) (h : i.natAbs.log2 < 1000) : Leaf (.int i)
  | str (z : Str) (h : z.length ≤ 1000) (hc : ∀ c ∈ z.cps.toList, c < 16 ^ 8) : Leaf (.str z)
  | bl (b : Bool) : Leaf (.bl b)
  | non : Leaf .non
theorem size_20k : (20000 : Nat) ≤ sizeLine := by decide
theorem leaf_repr {prog : Program} {w : World} {v : V} {u : Value} (h : Leaf v) (r : RelV v u) : ∃ t : Str, ReprIs prog w u t ∧ t.length ≤ 12000 := by
  cases h with
  | int i hi =>
    obtain ⟨t, rfl⟩ := r
    refine ⟨_, ReprIs.int t (by omega), ?_⟩
    have e := int_text_length_le (k := 1000) (by decide) hi
    show (Str.ofString (toString i)).length ≤ 12000
    rw [PySem.ofString_length]
    omega
  | str z hz hc =>
    obtain ⟨t, rfl⟩ := r
    have h1 := StrLaws.reprText_len z hc
    have := size_20k
    exact ⟨_, ReprIs.str z t (by omega), by omega⟩
  | bl b =>
    cases r
    exact ⟨_, ReprIs.bool b, by cases b <;> decide⟩
  | non =>
    cases r
    exact ⟨_, ReprIs.none, by decide⟩
section
variable {X : Cx}
theorem list_text_one (t : Str) : (listText [t]).length ≤ t.length + 4 := by
  have h := piled_le_listText [t]
  have h2 := textFrom_len [t] 0 "["
  show (textFrom 0 "[" [t] ++ "]").length ≤ _
  rw [strLen_append]
  show (("[" : Str) ++ (if 0 > 0 then ", " else "" : String) ++ t).length + 1 ≤ _
  rw [strLen_append, strLen_append]
  show 1 + 0 + t.length + 1 ≤ _
  omega
/-- the same, of texts of any signs -/
inductive LeafW : V → Prop
  | int (i : Int) (h : i.natAbs.log2 < 1000) : LeafW (.int i)
  | str (z : Str) (h : z.length ≤ 3000) : LeafW (.str z)
  | bl (b : Bool) : LeafW (.bl b)
  | non : LeafW .non
theorem Leaf.w {v : V} (h : Leaf v) : LeafW v := by
  cases h with
  | int i h => exact .int i h
  | str z h _ => exact .str z (by omega)
  | bl b => exact .bl b
  | non => exact .non
/-- what str() is asked of: a thing without parts, or one list, tuple of one, or {} -/
inductive Leaf1 (K : PySem.W.Frag) (H : Hp) : V → Prop
  | leaf {v : V} (h : LeafW v) : Leaf1 K H v
  | lst {a : Addr} {v : V} (e : H a = some (.lst [v])) (h : Leaf v) : Leaf1 K H (.ref a)
  | tup {a : Addr} {v : V} (e : H a = some (.tup [v])) (h : Leaf v) : Leaf1 K H (.ref a)
  | dct {a : Addr} (e : H a = some (.dK [])) : Leaf1 K H (.ref a)
def rStrL (K : PySem.W.Frag) : List V → Hp → VK → Prop := fun xs H Q => ∃ x, xs = [x] ∧ Leaf1 K H x ∧ ∀ m : Str, m.length ≤ 20000 → (Leaf x → m.length ≤ 1002) → Q (.str m) H
theorem call_str_leaf {k : Nat} (hr : Room k X.A) : CallR X (.type "str") (rStrL X.K) := by
  intro pins s σ H xs us Q I r h
  obtain ⟨x, rfl, hx, q⟩ := h
  obtain ⟨u, rfl, rx⟩ := vals1 r
  have hz := size_20k
  have hu := hr.units
  cases hx with
  | leaf hl =>
    cases hl with
    | int i hi =>
      obtain ⟨t, rfl⟩ := rx
      have e : (Str.ofString (toString i)).length ≤ 1002 := by
        have e := int_text_length_le (k := 1000) (by decide) hi
        rw [PySem.ofString_length]
        omega
      exact PySem.P.str_of_int (by omega) ⟨.str _, H, I.tok _, ⟨_, rfl⟩, q _ (Nat.le_trans e (by decide)) (fun _ => e)⟩
    | str z hz' =>
      obtain ⟨t, rfl⟩ := rx
      refine PySem.P.str_of_str ⟨.str _, H, I, ⟨_, rfl⟩, q _ (by omega) (fun l => ?_)⟩
      cases l
      omega
    | bl b =>
      cases rx
      exact PySem.P.str_of_bool ⟨.str _, H, I.tok _, ⟨_, rfl⟩, q _ (by cases b <;> decide) (fun _ => by cases b <;> decide)⟩
    | non =>
      cases rx
      exact PySem.P.str_of_none ⟨.str _, H, I.tok _, ⟨_, rfl⟩, q _ (by decide) (fun _ => by decide)⟩
  | @lst a v e hl =>
    cases rx
    obtain ⟨_, its, n, rv, ho⟩ : _ ≤ sizeLine ∧ ∃ (its : List Value) (n : Nat), Vals [v] its ∧ s.heap.get? a = some { cls := .type "list", data := .seq its.toArray n } := I.hok a _ e
    obtain ⟨u, rfl, ru⟩ := vals1 rv
    refine str_by (N := 13000) (by omega) rfl ho F.slot_list_str F.slot_list_repr.toG (fun prog' w' A' E' s' Q' hg hq => ?_) (fun h' m u tk hk hm => ⟨.str m, H, I.kept hk, ⟨_, rfl⟩, q m (by omega) (fun l => nomatch l)⟩)
    obtain ⟨t, ht, hl⟩ := leaf_repr (prog := prog') (w := w') hl ru
    have ht2 := list_text_one t
    refine lrep_call (ts := [t]) rfl hg rfl rfl (fun i y hy => ?_) (by omega) (fun h' m u tk hk hm => hq h' m u tk hk (by omega))
    cases i with
    | zero => cases hy; exact ⟨t, rfl, ht⟩
    | succ i => cases hy
  | @tup a v e hl =>
    cases rx
    obtain ⟨_, its, rv, o, ho, hc, n, hd⟩ : _ ≤ sizeLine ∧ ∃ its : List Value, Vals [v] its ∧ IsTup s.heap a its.toArray := I.hok a _ e
    obtain ⟨u, rfl, ru⟩ := vals1 rv
    refine str_by (N := 13000) (by omega) hc ho F.slot_tuple_str F.slot_tuple_repr (fun prog' w' A' E' s' Q' hg hq => ?_) (fun h' m u tk hk hm => ⟨.str m, H, I.kept hk, ⟨_, rfl⟩, q m (by omega) (fun l => nomatch l)⟩)
    obtain ⟨t, ht, hl⟩ := leaf_repr (prog := prog') (w := w') hl ru
    have ht2 := fmt_text [t]
    have ht3 : piled [t] = t.length + 2 := rfl
    exact fmt_tuple_repr (ts := [t]) hg hc hd (.cons ht .nil) (by omega) (fun m u tk hm => hq s'.heap m u tk (fun _ _ e => e) (by omega))
  | @dct a e =>
    cases rx
    obtain ⟨_, hs, vs, kv, o, es, ep, ho, hx, hd, _, he, _⟩ := dk_of I.hok e
    cases kv
    have : es = #[] := by
      cases es
      cases he
      rfl
    subst this
    refine str_by (N := 13000) (by omega) hx.1 ho F.slot_dict_str F.slot_dict_repr (fun prog' w' A' E' s' Q' hg hq => ?_) (fun h' m u tk hk hm => ⟨.str m, H, I.kept hk, ⟨_, rfl⟩, q m (by omega) (fun l => nomatch l)⟩)
    exact drep_call hx.1 hg hd hs (fun m u tk hm => hq s'.heap m u tk (fun _ _ e => e) (by omega))
end
end KA
namespace KA
open PySem PySem.SeqAt
open AutoSeq1 (wpAny_loadPart')
open MeetsSeq MeetsSeq2 MeetsSeq3 SeqRoads2
section
variable {prog : Program} {w : World} {A : Around} {R : Result → Shared → Prop}
/-- two lists as long, read anew at each turn: the two items are told equal (then J goes on) or not (then F) -/
def LstI (prog : Program) (w : World) (A : Around) (E : Value → Shared → Prop) (p q : Addr) (N : Nat) (J : Nat → Shared → Prop) (F : Shared → Prop) : Prop :=
  ∀ i s, J i s → ∃ (xs ys : Array Value) (m m2 : Nat), s.heap.get? p = some { cls := .type "list", data := .seq xs m } ∧ s.heap.get? q = some { cls := .type "list", data := .seq ys m2 } ∧ xs.size = N ∧ ys.size = N ∧
    ∀ (g1 : i < xs.size) (g2 : i < ys.size), wpAny (model prog w) A.in1 (eqBool xs[i] ys[i]) (fun r s' => (r = true → J (i + 1) s') ∧ (r = false → F s' ∧ ∃ (xs ys : Array Value) (m m2 : Nat), s'.heap.get? p = some { cls := .type "list", data := .seq xs m } ∧ s'.heap.get? q = some { cls := .type "list", data := .seq ys m2 } ∧ xs.size = N ∧ ys.size = N)) E s
/-- op: 2 is ==, 3 is != ; what is told where all items are equal is no -/
theorem turnsB (op : Nat) (yes : Bool) (hop : (op = 2 ∧ yes = true) ∨ (op = 3 ∧ yes = false)) (p q : Addr) (N : Nat) (J : Nat → Shared → Prop) (F : Shared → Prop) (hJ : LstI prog w A (fun e s' => R (.error e) s') p q N J F)
    (done : ∀ s, J N s → R (.ok (.ret (.bool yes))) s) (fail : ∀ s, F s → R (.ok (.ret (.bool (!yes)))) s) : ∀ (k i : Nat), N - i = k → i ≤ N → ∀ s, J i s →
      wpAny (model prog w) A.in1 (Builtin.«list.__eq__.loop» ⟨[.ref p, .ref q, rawInt i, rawInt op], []⟩) (GQ.FinOf prog w A R) (fun e s' => R (.error e) s') s
  | 0, i, hk, hi, s, hs => by
    obtain ⟨xs, ys, m, m2, gp, gq, zp, zq, _⟩ := hJ _ _ hs
    have iN : i = N := by omega
    have last : R (.ok (.ret (.bool yes))) s := done s (iN ▸ hs)
    have n1 : xs[((i : Nat) : Int).toNat]? = none := by simp; omega
    have n2 : ys[((i : Nat) : Int).toNat]? = none := by simp; omega
    rcases hop with ⟨rfl, rfl⟩ | ⟨rfl, rfl⟩
    · obtain ⟨hh, gg, dd, kk, oo⟩ := s
      wp_walk using wpAny_loadPart' gp, wpAny_loadPart' gq
      rw [n1, n2]
      wp_walk using wpAny_loadPart' gp, wpAny_loadPart' gq
      show R (.ok (.ret (.bool (xs.size == ys.size)))) _
      rw [zp, zq]
      simpa using last
    · obtain ⟨hh, gg, dd, kk, oo⟩ := s
      wp_walk using wpAny_loadPart' gp, wpAny_loadPart' gq
      rw [n1, n2]
      wp_walk using wpAny_loadPart' gp, wpAny_loadPart' gq
      show R (.ok (.ret (.bool (xs.size != ys.size)))) _
      rw [zp, zq]
      simpa using last
  | k + 1, i, hk, hi, s, hs => by
    obtain ⟨xs, ys, m, m2, gp, gq, zp, zq, tn⟩ := hJ _ _ hs
    have ip : i < xs.size := by omega
    have iq : i < ys.size := by omega
    have tt := tn ip iq
    have n1 : xs[((i : Nat) : Int).toNat]? = some xs[i] := by simp [ip]
    have n2 : ys[((i : Nat) : Int).toNat]? = some ys[i] := by simp [iq]
    have up : ((i : Int) + 1) = ((i + 1 : Nat) : Int) := by omega
    have next := fun s2 h2 => turnsB op yes hop p q N J F hJ done fail k (i + 1) (by omega) (by omega) s2 h2
    rcases hop with ⟨rfl, rfl⟩ | ⟨rfl, rfl⟩
    · obtain ⟨hh, gg, dd, kk, oo⟩ := s
      wp_walk using wpAny_loadPart' gp, wpAny_loadPart' gq
      rw [n1, n2]
      refine wpAny_bind (wpAny_mono tt (fun r s2 h2 => ?_) fun _ _ x => x)
      cases r with
      | true =>
        have h3 := next s2 (h2.1 rfl)
        obtain ⟨hh2, gg2, dd2, kk2, oo2⟩ := s2
        wp_walk
        rw [up]
        exact ⟨plainId_quiet plain_eq_loop _, codeAny_builtin entry_eq_loop (by rw [Around.under_plainId plain_eq_loop _]; exact h3)⟩
      | false =>
        obtain ⟨hF, xs2, ys2, m3, m4, gp2, gq2, zp2, zq2⟩ := h2.2 rfl
        have h3 := fail s2 hF
        have n3 : xs2[((i : Nat) : Int).toNat]? = some (xs2[i]'(by omega)) := by simp
        have n4 : ys2[((i : Nat) : Int).toNat]? = some (ys2[i]'(by omega)) := by simp
        obtain ⟨hh2, gg2, dd2, kk2, oo2⟩ := s2
        wp_walk using wpAny_loadPart' gp2, wpAny_loadPart' gq2
        rw [n3, n4]
        wp_walk
        exact h3
    · obtain ⟨hh, gg, dd, kk, oo⟩ := s
      wp_walk using wpAny_loadPart' gp, wpAny_loadPart' gq
      rw [n1, n2]
      refine wpAny_bind (wpAny_mono tt (fun r s2 h2 => ?_) fun _ _ x => x)
      cases r with
      | true =>
        have h3 := next s2 (h2.1 rfl)
        obtain ⟨hh2, gg2, dd2, kk2, oo2⟩ := s2
        wp_walk
        rw [up]
        exact ⟨plainId_quiet plain_eq_loop _, codeAny_builtin entry_eq_loop (by rw [Around.under_plainId plain_eq_loop _]; exact h3)⟩
      | false =>
        obtain ⟨hF, xs2, ys2, m3, m4, gp2, gq2, zp2, zq2⟩ := h2.2 rfl
        have h3 := fail s2 hF
        have n3 : xs2[((i : Nat) : Int).toNat]? = some (xs2[i]'(by omega)) := by simp
        have n4 : ys2[((i : Nat) : Int).toNat]? = some (ys2[i]'(by omega)) := by simp
        obtain ⟨hh2, gg2, dd2, kk2, oo2⟩ := s2
        wp_walk using wpAny_loadPart' gp2, wpAny_loadPart' gq2
        rw [n3, n4]
        wp_walk
        exact h3
theorem listsB (ne yes : Bool) (hop : ne = !yes) (p q : Addr) (N : Nat) (J : Nat → Shared → Prop) (F : Shared → Prop) (hJ : LstI prog w A (fun e s' => R (.error e) s') p q N J F)
    (done : ∀ s, J N s → R (.ok (.ret (.bool yes))) s) (fail : ∀ s, F s → R (.ok (.ret (.bool (!yes)))) s) {s : Shared} (hs : J 0 s) :
    wpAny (model prog w) A.in1 ((if ne then Builtin.«list.__ne__» else Builtin.«list.__eq__») ⟨[.ref p, .ref q], []⟩) (GQ.FinOf prog w A R) (fun e s' => R (.error e) s') s := by
  obtain ⟨xs, ys, m, m2, gp, gq, zp, zq, _⟩ := hJ _ _ hs
  have same : ¬ (xs.size != ys.size) = true := by simp [zp, zq]
  have sub := AutoSeq1.sub_list_list
  cases yes with
  | true =>
    subst hop
    have all := turnsB (A := A) (R := R) 2 true (.inl ⟨rfl, rfl⟩) p q N J F hJ done fail _ 0 rfl (Nat.zero_le _) s hs
    obtain ⟨hh, gg, dd, kk, oo⟩ := s
    show wpAny _ _ (Builtin.«list.__eq__» ⟨[.ref p, .ref q], []⟩) _ _ _
    wp_walk using wpAny_loadPart' gp, wpAny_loadPart' gq
    exact ⟨plainId_quiet plain_eq_loop _, codeAny_builtin entry_eq_loop (by rw [Around.under_plainId plain_eq_loop _]; exact all)⟩
  | false =>
    subst hop
    have all := turnsB (A := A) (R := R) 3 false (.inr ⟨rfl, rfl⟩) p q N J F hJ done fail _ 0 rfl (Nat.zero_le _) s hs
    obtain ⟨hh, gg, dd, kk, oo⟩ := s
    show wpAny _ _ (Builtin.«list.__ne__» ⟨[.ref p, .ref q], []⟩) _ _ _
    wp_walk using wpAny_loadPart' gp, wpAny_loadPart' gq
    exact ⟨plainId_quiet plain_eq_loop _, codeAny_builtin entry_eq_loop (by rw [Around.under_plainId plain_eq_loop _]; exact all)⟩
/-- lists of unlike lengths -/
theorem listsN (ne : Bool) (p q : Addr) {xs ys : Array Value} {m m2 : Nat} {s : Shared} (gp : s.heap.get? p = some { cls := .type "list", data := .seq xs m }) (gq : s.heap.get? q = some { cls := .type "list", data := .seq ys m2 }) (h : xs.size ≠ ys.size)
    (fail : R (.ok (.ret (.bool ne))) s) : wpAny (model prog w) A.in1 ((if ne then Builtin.«list.__ne__» else Builtin.«list.__eq__») ⟨[.ref p, .ref q], []⟩) (GQ.FinOf prog w A R) (fun e s' => R (.error e) s') s := by
  have unl : (xs.size != ys.size) = true := by simpa using h
  have sub := AutoSeq1.sub_list_list
  cases ne with
  | true =>
    obtain ⟨hh, gg, dd, kk, oo⟩ := s
    show wpAny _ _ (Builtin.«list.__ne__» ⟨[.ref p, .ref q], []⟩) _ _ _
    wp_walk using wpAny_loadPart' gp, wpAny_loadPart' gq
    exact fail
  | false =>
    obtain ⟨hh, gg, dd, kk, oo⟩ := s
    show wpAny _ _ (Builtin.«list.__eq__» ⟨[.ref p, .ref q], []⟩) _ _ _
    wp_walk using wpAny_loadPart' gp, wpAny_loadPart' gq
    exact fail
end
end KA
namespace KA
open PySem PySem.SeqAt
open AutoSeq1 (wpAny_loadPart')
open MeetsSeq MeetsSeq2 MeetsSeq3 SeqRoads2
section
variable {prog : Program} {w : World} {A : Around} {R : Result → Shared → Prop}
theorem tupsB (ne : Bool) (p q : Addr) (xs ys : Array Value) (n n2 : Nat) (d1 d2 : Option Addr) (l1 l2 : Array (Option Value)) (J : Nat → Shared → Prop) (F : Shared → Prop)
    (turn : ∀ i (h1 : i < xs.size) (h2 : i < ys.size) s, J i s → wpAny (model prog w) A.in1 (eqBool xs[i] ys[i]) (fun r s' => (r = true → J (i + 1) s') ∧ (r = false → F s')) (fun e s' => R (.error e) s') s)
    (done : ∀ s, J (min xs.size ys.size) s → R (.ok (.ret (.bool (ne ^^ (xs.size == ys.size))))) s) (fail : ∀ s, F s → R (.ok (.ret (.bool ne))) s)
    {s : Shared} (gp : s.heap.get? p = some { cls := .type "tuple", dict := d1, data := .seq xs n, slots := l1 }) (gq : s.heap.get? q = some { cls := .type "tuple", dict := d2, data := .seq ys n2, slots := l2 }) (h : J 0 s) :
    wpAny (model prog w) A.in1 ((if ne then Builtin.«tuple.__ne__» else Builtin.«tuple.__eq__») ⟨[.ref p, .ref q], []⟩) (GQ.FinOf prog w A R) (fun e s' => R (.error e) s') s := by
  have sub := AutoSeq1.sub_tuple_tuple
  have hZ : (xs.toList.zip ys.toList).length = min xs.size ys.size := by simp
  have h0 := h
  have at_ : ∀ {i : Nat} {z : Value × Value} {rest : List (Value × Value)}, z :: rest = (xs.toList.zip ys.toList).drop i → ∃ (h1 : i < xs.size) (h2 : i < ys.size), z = (xs[i], ys[i]) ∧ rest = (xs.toList.zip ys.toList).drop (i + 1) := fun {i z rest} hz => by
    have lt : i < (xs.toList.zip ys.toList).length := by
      rcases Nat.lt_or_ge i (xs.toList.zip ys.toList).length with h' | h'
      · exact h'
      · rw [List.drop_of_length_le h'] at hz
        cases hz
    have h1 : i < xs.size := by omega
    have h2 : i < ys.size := by omega
    rw [List.drop_eq_getElem_cons lt] at hz
    injection hz with e1 e2
    exact ⟨h1, h2, by rw [e1]; simp, e2⟩
  have end_ : ∀ {i : Nat}, ([] : List (Value × Value)) = (xs.toList.zip ys.toList).drop i → i ≤ min xs.size ys.size → i = min xs.size ys.size := fun {i} hz hi => by
    rcases Nat.lt_or_ge i (xs.toList.zip ys.toList).length with h' | h'
    · rw [List.drop_eq_getElem_cons h'] at hz
      cases hz
    · omega
  cases ne with
  | false =>
    obtain ⟨hh, gg, dd, kk, oo⟩ := s
    show wpAny _ _ (Builtin.«tuple.__eq__» ⟨[.ref p, .ref q], []⟩) _ _ _
    wp_walk using wpAny_loadPart' gp, wpAny_loadPart' gq, wpAny_forIn_list _ (fun rest b s' => b.1 = none ∧ ∃ i, rest = (xs.toList.zip ys.toList).drop i ∧ i ≤ min xs.size ys.size ∧ J i s') _
    case turn =>
      rintro ⟨y, x⟩ rest b s' ⟨hb', i, hz, hi, hI⟩
      obtain ⟨h1, h2, e, hrest⟩ := at_ hz
      injection e with e1 e2
      subst e1 e2
      refine wpAny_bind (wpAny_mono (turn i h1 h2 s' hI) (fun r s2 q2 => ?_) fun _ _ x => x)
      cases r with
      | true =>
        wp_walk
        exact ⟨rfl, i + 1, hrest, by omega, q2.1 rfl⟩
      | false =>
        have h3 := fail s2 (q2.2 rfl)
        wp_walk
        exact h3
    case fin =>
      rintro ⟨b1, b2⟩ s' ⟨hb', i, hz, hi, hI⟩
      simp only at hb'
      subst hb'
      have hR := done s' (end_ hz hi ▸ hI)
      wp_walk
      simpa [Builtin.Tuple.tupleCompareSizes] using hR
    case h =>
      exact ⟨rfl, 0, rfl, Nat.zero_le _, h0⟩
  | true =>
    obtain ⟨hh, gg, dd, kk, oo⟩ := s
    show wpAny _ _ (Builtin.«tuple.__ne__» ⟨[.ref p, .ref q], []⟩) _ _ _
    wp_walk using wpAny_loadPart' gp, wpAny_loadPart' gq, wpAny_forIn_list _ (fun rest b s' => b.1 = none ∧ ∃ i, rest = (xs.toList.zip ys.toList).drop i ∧ i ≤ min xs.size ys.size ∧ J i s') _
    case turn =>
      rintro ⟨y, x⟩ rest b s' ⟨hb', i, hz, hi, hI⟩
      obtain ⟨h1, h2, e, hrest⟩ := at_ hz
      injection e with e1 e2
      subst e1 e2
      refine wpAny_bind (wpAny_mono (turn i h1 h2 s' hI) (fun r s2 q2 => ?_) fun _ _ x => x)
      cases r with
      | true =>
        wp_walk
        exact ⟨rfl, i + 1, hrest, by omega, q2.1 rfl⟩
      | false =>
        have h3 := fail s2 (q2.2 rfl)
        wp_walk
        exact h3
    case fin =>
      rintro ⟨b1, b2⟩ s' ⟨hb', i, hz, hi, hI⟩
      simp only at hb'
      subst hb'
      have hR := done s' (end_ hz hi ▸ hI)
      wp_walk
      simpa [Builtin.Tuple.tupleCompareSizes, bne] using hR
    case h =>
      exact ⟨rfl, 0, rfl, Nat.zero_le _, h0⟩
end
section
variable {prog : Program} {w : World} {A : Around} {E : Value → Shared → Prop} {s : Shared}
def opNe (ne : Bool) : CmpOp := if ne then .NotEq else .Eq
theorem rcL {p q : Addr} {N : Nat} {Q : Value → Shared → Prop} (ne : Bool) (hu : A.units < cLine) (J : Nat → Shared → Prop) (F : Shared → Prop) (hJ : LstI prog w A E p q N J F)
    (done : ∀ s, J N s → Q (.bool (!ne)) s) (fail : ∀ s, F s → Q (.bool ne) s) (hs : J 0 s) : wpAny (model prog w) A (richCompare (opNe ne) (.ref p) (.ref q)) Q E s := by
  obtain ⟨xs, ys, m, m2, gp, gq, _, _, _⟩ := hJ _ _ hs
  cases ne with
  | false =>
    refine wpAny_richCompare_same_room (op := .Eq) ⟨_, gp, rfl⟩ ⟨_, gq, rfl⟩ PySem.F.slot_list_eq (GQ.call_here PySem.F.slot_list_eq ⟨_, gp, rfl⟩ PySem.F.entry_list_eq (PySem.F.args_list_eq_2 _ _) ?_) hu
    exact listsB (R := wants (fun v s' => v ≠ .notImplemented ∧ Q v s') E) false true rfl p q N J F hJ (fun s' z => ⟨(fun x => nomatch x), done s' z⟩) (fun s' z => ⟨(fun x => nomatch x), fail s' z⟩) hs
  | true =>
    refine wpAny_richCompare_same_room (op := .NotEq) ⟨_, gp, rfl⟩ ⟨_, gq, rfl⟩ PySem.F.slot_list_ne (GQ.call_here PySem.F.slot_list_ne ⟨_, gp, rfl⟩ PySem.F.entry_list_ne (PySem.F.args_list_ne_2 _ _) ?_) hu
    exact listsB (R := wants (fun v s' => v ≠ .notImplemented ∧ Q v s') E) true false rfl p q N J F hJ (fun s' z => ⟨(fun x => nomatch x), done s' z⟩) (fun s' z => ⟨(fun x => nomatch x), fail s' z⟩) hs
theorem rcN {p q : Addr} {xs ys : Array Value} {m m2 : Nat} {Q : Value → Shared → Prop} (ne : Bool) (hu : A.units < cLine) (gp : s.heap.get? p = some { cls := .type "list", data := .seq xs m }) (gq : s.heap.get? q = some { cls := .type "list", data := .seq ys m2 }) (h : xs.size ≠ ys.size)
    (fail : Q (.bool ne) s) : wpAny (model prog w) A (richCompare (opNe ne) (.ref p) (.ref q)) Q E s := by
  cases ne with
  | false =>
    refine wpAny_richCompare_same_room (op := .Eq) ⟨_, gp, rfl⟩ ⟨_, gq, rfl⟩ PySem.F.slot_list_eq (GQ.call_here PySem.F.slot_list_eq ⟨_, gp, rfl⟩ PySem.F.entry_list_eq (PySem.F.args_list_eq_2 _ _) ?_) hu
    exact listsN (R := wants (fun v s' => v ≠ .notImplemented ∧ Q v s') E) false p q gp gq h ⟨(fun x => nomatch x), fail⟩
  | true =>
    refine wpAny_richCompare_same_room (op := .NotEq) ⟨_, gp, rfl⟩ ⟨_, gq, rfl⟩ PySem.F.slot_list_ne (GQ.call_here PySem.F.slot_list_ne ⟨_, gp, rfl⟩ PySem.F.entry_list_ne (PySem.F.args_list_ne_2 _ _) ?_) hu
    exact listsN (R := wants (fun v s' => v ≠ .notImplemented ∧ Q v s') E) true p q gp gq h ⟨(fun x => nomatch x), fail⟩
theorem rcT {p q : Addr} {xs ys : Array Value} {Q : Value → Shared → Prop} (ne : Bool) (hu : A.units < cLine) (J : Nat → Shared → Prop) (F : Shared → Prop) (hl : s.heap.IsTuple p xs) (hb : s.heap.IsTuple q ys)
    (turn : ∀ i (h1 : i < xs.size) (h2 : i < ys.size) s, J i s → wpAny (model prog w) A.in1 (eqBool xs[i] ys[i]) (fun r s' => (r = true → J (i + 1) s') ∧ (r = false → F s')) E s)
    (done : ∀ s, J (min xs.size ys.size) s → Q (.bool (ne ^^ (xs.size == ys.size))) s) (fail : ∀ s, F s → Q (.bool ne) s) (h : J 0 s) : wpAny (model prog w) A (richCompare (opNe ne) (.ref p) (.ref q)) Q E s := by
  obtain ⟨⟨cls, dd, data, sl⟩, ho, hc, n, hd⟩ := id hl
  obtain ⟨⟨cls2, dd2, data2, sl2⟩, ho2, hc2, n2, hd2⟩ := id hb
  simp only at hc hd hc2 hd2
  subst hc hd hc2 hd2
  cases ne with
  | false =>
    refine wpAny_richCompare_same_room (op := .Eq) ⟨_, ho, rfl⟩ ⟨_, ho2, rfl⟩ PySem.F.slot_tuple_eq (GQ.call_here PySem.F.slot_tuple_eq ⟨_, ho, rfl⟩ PySem.F.entry_tuple_eq (PySem.F.args_tuple_eq_2 _ _) ?_) hu
    exact tupsB (R := wants (fun v s' => v ≠ .notImplemented ∧ Q v s') E) false p q xs ys n n2 dd dd2 sl sl2 J F turn (fun s' z => ⟨(fun x => nomatch x), done s' z⟩) (fun s' z => ⟨(fun x => nomatch x), fail s' z⟩) ho ho2 h
  | true =>
    refine wpAny_richCompare_same_room (op := .NotEq) ⟨_, ho, rfl⟩ ⟨_, ho2, rfl⟩ PySem.F.slot_tuple_ne (GQ.call_here PySem.F.slot_tuple_ne ⟨_, ho, rfl⟩ PySem.F.entry_tuple_ne (PySem.F.args_tuple_ne_2 _ _) ?_) hu
    exact tupsB (R := wants (fun v s' => v ≠ .notImplemented ∧ Q v s') E) true p q xs ys n n2 dd dd2 sl sl2 J F turn (fun s' z => ⟨(fun x => nomatch x), done s' z⟩) (fun s' z => ⟨(fun x => nomatch x), fail s' z⟩) ho ho2 h
end
end KA
namespace KA
open PySem PySem.Spec PyProof.Rows L2
/-- two values, and what == tells of them -/
abbrev BEq2 := V → V → Bool → Hp → Prop
def MonB (D : BEq2) : Prop := ∀ x y b H H', Ext H H' → D x y b H → D x y b H'
def EqB (X : Cx) (n : Nat) (D : BEq2) : Prop :=
  ∀ (A : Around) (pins : List (Addr × Obj)) (s : Shared) (σ : L2.St) (H : Hp) (x y : V) (u v : Value) (b : Bool), Sub X n A → L2.Inv X pins σ H s → RelV x u → RelV y v → D x y b H →
    wpAny (model X.prog X.w) A (eqBool u v) (fun r s' => r = b ∧ ∃ H', L2.Inv X pins σ H' s' ∧ Ext H H') X.xe s
def RcB (X : Cx) (n : Nat) (ne : Bool) (D : BEq2) : Prop :=
  ∀ (A : Around) (pins : List (Addr × Obj)) (s : Shared) (σ : L2.St) (H : Hp) (x y : V) (u v : Value) (b : Bool), Sub X n A → L2.Inv X pins σ H s → RelV x u → RelV y v → D x y b H →
    wpAny (model X.prog X.w) A (richCompare (opNe ne) u v) (fun r s' => r = .bool (ne ^^ b) ∧ ∃ H', L2.Inv X pins σ H' s' ∧ Ext H H') X.xe s
section
variable {X : Cx} {n m : Nat} {D D' : BEq2}
theorem EqB.mono (h : EqB X n D) (hn : n ≤ m) : EqB X m D := fun A pins s σ H x y u v b sb => h A pins s σ H x y u v b (sb.mono hn)
theorem EqB.or (h : EqB X n D) (h' : EqB X n D') : EqB X n (fun x y b H => D x y b H ∨ D' x y b H) := fun A pins s σ H x y u v b sb I rx ry d => d.elim (fun d => h A pins s σ H x y u v b sb I rx ry d) (fun d => h' A pins s σ H x y u v b sb I rx ry d)
theorem MonB.or (h : MonB D) (h' : MonB D') : MonB (fun x y b H => D x y b H ∨ D' x y b H) := fun x y b H H' e d => d.elim (fun d => .inl (h x y b H H' e d)) fun d => .inr (h' x y b H H' e d)
/-- flat values -/
def BFlat : BEq2 := fun x y b _ => flatV x = true ∧ flatV y = true ∧ eqV x y = b
theorem monB_flat : MonB BFlat := fun _ _ _ _ _ _ d => d
theorem eqB_flat : EqB X 0 BFlat := by
  intro A pins s σ H x y u v b sb I rx ry d
  obtain ⟨fx, fy, e⟩ := d
  have q := eqAt_V (A := A) (s := s) rx ry fx fy
  rw [e] at q
  exact q X.prog X.w X.xe _ ⟨rfl, H, I, Ext.rfl'⟩
/-- item by item, as far as both go -/
def PrsB (D : BEq2) (xs ys : List V) (f : Nat → Bool) (H : Hp) : Prop := ∀ (i : Nat) x y, xs[i]? = some x → ys[i]? = some y → D x y (f i) H
theorem turnB (hD : MonB D) (h : EqB X n D) {A : Around} (sb : Sub X (n + 1) A) {pins : List (Addr × Obj)} {σ : L2.St} {H : Hp} {xs ys : List V} {its its2 : List Value} {f : Nat → Bool} (p : PrsB D xs ys f H) (r : Vals xs its) (r2 : Vals ys its2)
    (i : Nat) (h1 : i < its.toArray.size) (h2 : i < its2.toArray.size) (s' : Shared) (l : LoopI X pins σ H s') :
    wpAny (model X.prog X.w) A.in1 (eqBool its.toArray[i] its2.toArray[i]) (fun r s2 => r = f i ∧ LoopI X pins σ H s2) X.xe s' := by
  obtain ⟨H1, I1, e1⟩ := l
  have l1 : i < its.length := by simpa using h1
  have l2 : i < its2.length := by simpa using h2
  have k1 : i < xs.length := by rw [r.length]; exact l1
  have k2 : i < ys.length := by rw [r2.length]; exact l2
  obtain ⟨u, hu, ru⟩ := r.get (List.getElem?_eq_getElem k1)
  obtain ⟨v, hv, rv⟩ := r2.get (List.getElem?_eq_getElem k2)
  have g1 : its.toArray[i] = u := by
    rw [List.getElem?_eq_getElem l1] at hu
    simpa using Option.some.inj hu
  have g2 : its2.toArray[i] = v := by
    rw [List.getElem?_eq_getElem l2] at hv
    simpa using Option.some.inj hv
  rw [g1, g2]
  refine wpAny_mono (h A.in1 pins s' σ H1 _ _ u v _ sb.in1 I1 ru rv (hD _ _ _ _ _ e1 (p i _ _ (List.getElem?_eq_getElem k1) (List.getElem?_eq_getElem k2)))) (fun r s2 q => ?_) fun _ _ x => x
  obtain ⟨hr, H2, I2, e2⟩ := q
  exact ⟨hr, H2, I2, e1.trans e2⟩
def allF (N : Nat) (f : Nat → Bool) : Bool := (List.range N).all f
theorem allF_true {N : Nat} {f : Nat → Bool} (h : ∀ j, j < N → f j = true) : allF N f = true := by
  unfold allF
  rw [List.all_eq_true]
  exact fun j hj => h j (List.mem_range.mp hj)
theorem allF_false {N j : Nat} {f : Nat → Bool} (h : j < N) (e : f j = false) : allF N f = false := by
  unfold allF
  rw [List.all_eq_false]
  exact ⟨j, List.mem_range.mpr h, by rw [e]; exact Bool.false_ne_true⟩
def BList (D : BEq2) : BEq2 := fun x y b H => ∃ (p q : Addr) (xs ys : List V) (f : Nat → Bool), x = .ref p ∧ y = .ref q ∧ H p = some (.lst xs) ∧ H q = some (.lst ys) ∧ (xs.length = ys.length → PrsB D xs ys f H) ∧ b = (decide (xs.length = ys.length) && allF xs.length f)
def BTup (K : PySem.W.Frag) (D : BEq2) : BEq2 := fun x y b H => ∃ (p q : Addr) (xs ys : List V) (f : Nat → Bool), x = .ref p ∧ y = .ref q ∧ SqT K H p xs ∧ SqT K H q ys ∧ PrsB D xs ys f H ∧ b = (decide (xs.length = ys.length) && allF xs.length f)
theorem PrsB.mon (hD : MonB D) {xs ys : List V} {f : Nat → Bool} {H H' : Hp} (e : Ext H H') (p : PrsB D xs ys f H) : PrsB D xs ys f H' := fun i x y h1 h2 => hD x y _ H H' e (p i x y h1 h2)
theorem monB_list (hD : MonB D) : MonB (BList D) := fun x y b H H' e d => by
  obtain ⟨p, q, xs, ys, f, hx, hy, h1, h2, pr, hb⟩ := d
  exact ⟨p, q, xs, ys, f, hx, hy, e _ _ h1, e _ _ h2, fun z => (pr z).mon hD e, hb⟩
theorem monB_tup {K : PySem.W.Frag} (hD : MonB D) : MonB (BTup K D) := fun x y b H H' e d => by
  obtain ⟨p, q, xs, ys, f, hx, hy, h1, h2, pr, hb⟩ := d
  exact ⟨p, q, xs, ys, f, hx, hy, h1.ext e, h2.ext e, pr.mon hD e, hb⟩
theorem rcB_list (ne : Bool) (hD : MonB D) (h : EqB X n D) : RcB X (n + 1) ne (BList D) := by
  intro A pins s σ H x y u v b sb I rx ry d
  obtain ⟨p, q, xs, ys, f, rfl, rfl, hp, hq, pr, rfl⟩ := d
  cases rx
  cases ry
  by_cases hl : xs.length = ys.length
  · have pr := pr hl
    have look : ∀ s', LoopI X pins σ H s' → ∃ (as bs : List Value) (m m2 : Nat), Vals xs as ∧ Vals ys bs ∧ s'.heap.get? p = some { cls := .type "list", data := .seq as.toArray m } ∧ s'.heap.get? q = some { cls := .type "list", data := .seq bs.toArray m2 } ∧ as.toArray.size = xs.length ∧ bs.toArray.size = xs.length := fun s' z => by
      obtain ⟨H1, I1, e1⟩ := id z
      obtain ⟨_, its, k, r, e⟩ := I1.hok p _ (e1 _ _ hp)
      obtain ⟨_, its2, k2, r2, e2⟩ := I1.hok q _ (e1 _ _ hq)
      exact ⟨its, its2, k, k2, r, r2, e, e2, by rw [List.size_toArray, ← r.length], by rw [List.size_toArray, ← r2.length, hl]⟩
    refine rcL (N := xs.length) ne sb.room.units0 (fun i s' => LoopI X pins σ H s' ∧ ∀ j, j < i → f j = true) (fun s' => LoopI X pins σ H s' ∧ ∃ j, j < xs.length ∧ f j = false) (fun i s' z => ?_) (fun s' z => ?_) (fun s' z => ?_) ⟨⟨H, I, Ext.rfl'⟩, fun j hj => absurd hj (Nat.not_lt_zero _)⟩
    · obtain ⟨z, hf⟩ := z
      obtain ⟨as, bs, k, k2, r, r2, e, e2, z1, z2⟩ := look s' z
      refine ⟨_, _, k, k2, e, e2, z1, z2, fun g1 g2 => wpAny_mono (turnB hD h sb pr r r2 i g1 g2 s' z) (fun r s2 q2 => ?_) fun _ _ x => x⟩
      obtain ⟨rfl, q2⟩ := q2
      refine ⟨fun t => ⟨q2, fun j hj => ?_⟩, fun t => ⟨⟨q2, i, by omega, t⟩, ?_⟩⟩
      · by_cases hji : j = i
        · rw [hji]; exact t
        · exact hf j (by omega)
      · obtain ⟨as, bs, k, k2, r, r2, e, e2, z1, z2⟩ := look s2 q2
        exact ⟨_, _, k, k2, e, e2, z1, z2⟩
    · obtain ⟨⟨H1, z⟩, hf⟩ := z
      refine ⟨?_, H1, z⟩
      rw [decide_eq_true hl, allF_true hf]
      cases ne <;> rfl
    · obtain ⟨⟨H1, z⟩, j, hj, e⟩ := z
      refine ⟨?_, H1, z⟩
      rw [allF_false hj e, Bool.and_false, Bool.xor_false]
  · obtain ⟨_, its, k, r, e⟩ := I.hok p _ hp
    obtain ⟨_, its2, k2, r2, e2⟩ := I.hok q _ hq
    refine rcN ne sb.room.units0 e e2 (by rw [List.size_toArray, List.size_toArray, ← r.length, ← r2.length]; exact hl) ⟨?_, H, I, Ext.rfl'⟩
    rw [decide_eq_false hl, Bool.false_and, Bool.xor_false]
theorem rcB_tup (ne : Bool) (hD : MonB D) (h : EqB X n D) : RcB X (n + 1) ne (BTup X.K D) := by
  intro A pins s σ H x y u v b sb I rx ry d
  obtain ⟨p, q, xs, ys, f, rfl, rfl, hp, hq, pr, rfl⟩ := d
  cases rx
  cases ry
  obtain ⟨its, r, e, z⟩ := I.tuple hp
  obtain ⟨its2, r2, e2, z2⟩ := I.tuple hq
  have w1 : its.toArray.size = xs.length := by rw [List.size_toArray, ← r.length]
  have w2 : its2.toArray.size = ys.length := by rw [List.size_toArray, ← r2.length]
  refine rcT ne sb.room.units0 (fun i s' => LoopI X pins σ H s' ∧ ∀ j, j < i → f j = true) (fun s' => LoopI X pins σ H s' ∧ ∃ j, j < xs.length ∧ f j = false) e e2 (fun i g1 g2 s' z => ?_) (fun s' z => ?_) (fun s' z => ?_) ⟨⟨H, I, Ext.rfl'⟩, fun j hj => absurd hj (Nat.not_lt_zero _)⟩
  · obtain ⟨z, hf⟩ := z
    refine wpAny_mono (turnB hD h sb pr r r2 i g1 g2 s' z) (fun r s2 q2 => ?_) fun _ _ x => x
    obtain ⟨rfl, q2⟩ := q2
    refine ⟨fun t => ⟨q2, fun j hj => ?_⟩, fun t => ⟨q2, i, by omega, t⟩⟩
    by_cases hji : j = i
    · rw [hji]; exact t
    · exact hf j (by omega)
  · obtain ⟨⟨H1, z⟩, hf⟩ := z
    refine ⟨?_, H1, z⟩
    rw [w1, w2] at hf ⊢
    by_cases hl : xs.length = ys.length
    · rw [decide_eq_true hl, allF_true (fun j hj => hf j (by omega)), hl]
      simp
    · rw [decide_eq_false hl]
      have : (xs.length == ys.length) = false := by simpa using hl
      rw [this]
      rfl
  · obtain ⟨⟨H1, z⟩, j, hj, e⟩ := z
    refine ⟨?_, H1, z⟩
    rw [allF_false hj e, Bool.and_false, Bool.xor_false]
/-- x == y, x != y as expressions -/
def rEqB (ne : Bool) (D : BEq2) : R2 := fun x y H Q => ∃ b, D x y b H ∧ ∀ H', Ext H H' → Q (.bl (ne ^^ b)) H'
theorem op_eqB (h : RcB X n false D) (hr : Room n X.A) : OpR X (compareOp .Eq) (rEqB false D) := by
  intro pins s σ H x y v u Q I rx ry hq
  obtain ⟨b, d, q⟩ := hq
  show wpAny (model X.prog X.w) X.A (richCompare .Eq v u) (EP X pins σ Q) X.xe s
  refine wpAny_mono (h X.A pins s σ H x y v u b ⟨hr, rfl⟩ I rx ry d) (fun r s' z => ?_) fun _ _ x => x
  obtain ⟨rfl, H', I', e⟩ := z
  exact ⟨.bl _, H', I', rfl, q H' e⟩
theorem op_neB (h : RcB X n true D) (hr : Room n X.A) : OpR X (compareOp .NotEq) (rEqB true D) := by
  intro pins s σ H x y v u Q I rx ry hq
  obtain ⟨b, d, q⟩ := hq
  show wpAny (model X.prog X.w) X.A (richCompare .NotEq v u) (EP X pins σ Q) X.xe s
  refine wpAny_mono (h X.A pins s σ H x y v u b ⟨hr, rfl⟩ I rx ry d) (fun r s' z => ?_) fun _ _ x => x
  obtain ⟨rfl, H', I', e⟩ := z
  exact ⟨.bl _, H', I', rfl, q H' e⟩
end
end KA
namespace KA
open PySem PySem.Spec PySem.W PyProof.Rows
section
variable {prog : Program} {w : World} {A : Around} {E : Value → Shared → Prop} {s : Shared} {K : Frag} {x C f : Addr} {ox : Obj} {od : Option Obj}
theorem none_eq_ref {Q : Value → Shared → Prop} (h : Q .notImplemented s) : wpAny (model prog w) A (call (.builtin "NoneType.__eq__") [.none, .ref x]) Q E s := by
  refine wpAny_call_entry PySem.F.slot_NoneType_eq (typeIs_none s) PySem.F.entry_NoneType_eq ?_ (PySem.F.args_NoneType_eq_2 _ _)
  unfold Builtin.«NoneType.__eq__»
  wp_walk
  exact ⟨_, rfl, h⟩
/-- None == x, x an instance whose class has its own == : that one is asked -/
theorem cmp_none {Q : Value → Shared → Prop} (hu : A.units < cLine) (X : K.In s.heap) (I : InstAt s.heap x ox C od) (hn : subIn K (.ref C) (.type "NoneType") = some false)
    (hs : findIn K (.ref C) "__eq__" = some (some (.ref f))) (hf : isFn K (.ref f) = true)
    (h : wpAny (model prog w) A (call (.ref f) [.ref x, .none]) (PySem.W.CmpBack Q) E s) : wpAny (model prog w) A (richCompare .Eq .none (.ref x)) Q E s := by
  have one : wpAny (model prog w) A (tryCompare (.ref x) "__eq__" .none) (fun r s' => ∃ v, r = some v ∧ Q v s') E s := by
    unfold tryCompare
    refine wpAny_bind (ifBound_K X I hs hf (wpAny_mono h (fun v s' hv => ?_) fun _ _ e => e))
    cases v <;> first | exact hv.elim | exact wpAny_pure ⟨_, rfl, hv⟩
  have two : wpAny (model prog w) A (tryCompare .none "__eq__" (.ref x)) (fun r s' => r = none ∧ s' = s) E s := by
    unfold tryCompare
    refine wpAny_bind (wpAny_callSpecialIfBound?_slot (name := (cmpInfo .Eq).2.1) (typeIs_none s) PySem.F.slot_NoneType_eq (none_eq_ref ?_))
    exact wpAny_pure ⟨rfl, rfl⟩
  unfold richCompare
  refine wpAny_holding (wpAny_bind (wpAny_cRoomFor hu ?_))
  rw [show oneThing? .Eq .none (.ref x) = none from rfl]
  refine wpAny_bind (wpAny_typeOf (typeIs_none s) (wpAny_bind (I.type.here ?_)))
  refine PySem.W.KFB.if_so rfl (wpAny_bind ((looks_subIn X hn).here ?_))
  refine PySem.W.KFB.if_not rfl ?_
  refine wpAny_bind (wpAny_mono two (fun r s' z => ?_) fun _ _ e => e)
  obtain ⟨rfl, rfl⟩ := z
  refine PySem.W.KFB.if_so rfl (wpAny_bind (wpAny_mono one (fun r s' z => ?_) fun _ _ e => e))
  obtain ⟨v, rfl, hq⟩ := z
  exact wpAny_pure hq
end
end KA

namespace KA
open PySem PySem.Spec PyProof.Rows L2
/-- eqBool of what is not one thing, by the rich comparison -/
theorem eqBool_by {prog : Program} {w : World} {A : Around} {E : Value → Shared → Prop} {s : Shared} {u v : Value} {Q : Bool → Shared → Prop} (hu : (∃ a, u = .ref a) ∨ u = .none) (hne : (u == v) = false)
    (h : wpAny (model prog w) A (richCompare .Eq u v) (fun r s' => ∃ b, r = .bool b ∧ Q b s') E s) : wpAny (model prog w) A (eqBool u v) Q E s := by
  unfold eqBool
  refine wpAny_holding ?_
  refine wpAny_ite_split (fun hab => by rw [hne] at hab; cases hab) (fun _ => ?_)
  rcases hu with ⟨a, rfl⟩ | rfl
  · refine wpAny_bind (wpAny_mono h (fun r s' hv => ?_) fun _ _ x => x)
    obtain ⟨b, rfl, q⟩ := hv
    exact wpAny_truthy_bool q
  · refine wpAny_bind (wpAny_mono h (fun r s' hv => ?_) fun _ _ x => x)
    obtain ⟨b, rfl, q⟩ := hv
    exact wpAny_truthy_bool q
/-- what an own == promises: R tells its answer -/
def spEqO (R : Addr → V → Bool → Hp → Prop) : Sp := fun vs H Q _ => ∃ (a : Addr) (y : V) (b : Bool), vs = [.ref a, y] ∧ R a y b H ∧ ∀ H', Ext H H' → Q (.bl b) H'
section
variable {X : Cx} {n : Nat} {CX : CXT} {C f : Addr} {fd : FuncData} {ps : List Str} {R : Addr → V → Bool → Hp → Prop} {E : XK}
theorem run_eqO {A : Around} {pins : List (Addr × Obj)} {σ : L2.St} {H : Hp} {s : Shared} {a : Addr} {y : V} {v : Value} {b : Bool} (F : FnOk X.prog X.w X.K X.mg X.base CX n f fd ps (spEqO R)) (hb : Binds X.K fd ps []) (hx : Passes CX X E) (sb : Sub X n A) (I : L2.Inv X pins σ H s)
    (ry : RelV y v) (d : R a y b H) : wpAny (model X.prog X.w) A (call (.ref f) [.ref a, v]) (PySem.W.CmpBack fun r s' => r = .bool b ∧ ∃ H', L2.Inv X pins σ H' s' ∧ Ext H H') X.xe s := by
  have hsp : spEqO R [.ref a, y] H (fun z H' => z = .bl b ∧ Ext H H') E := ⟨a, y, b, rfl, d, fun H' e => ⟨rfl, e⟩⟩
  have e0 : Env0 X.prog X.w X.K X.mg X.base A X.stack s H := by
    have e := I.env0
    exact ⟨by rw [sb.fr]; exact e.frames, e.mod, e.bs, e.bsz, e.funs, e.frf, e.hok, e.bare⟩
  have hl := F.len _ _ _ _ hsp
  have r2 : Vals [V.ref a, y] [Value.ref a, v] := .cons rfl (.cons ry .nil)
  refine wpAny_call (codeAny_mono (F.run A X.stack s H ⟨[.ref a, v], []⟩ [.ref a, v] [.ref a, y] _ E sb.room e0 (by
    have := hb s [.ref a, v] I.kIn (by simpa using hl)
    simpa using this) r2 hsp) fun r s' hq => ?_)
  cases r with
  | error e => exact hx pins σ H s e s' I hq
  | ok fl =>
    cases fl with
    | ret z =>
      obtain ⟨z, H', I', rz, ez, ex⟩ := I.after hq
      subst ez
      cases rz
      exact ⟨rfl, H', I', ex⟩
    | next => exact False.elim hq
    | brk => exact False.elim hq
    | cont => exact False.elim hq
/-- an instance of the class at C beside anything, or None beside an instance -/
def BOwn (K : PySem.W.Frag) (C : Addr) (R : Addr → V → Bool → Hp → Prop) : BEq2 := fun x y b H =>
  (∃ (a dx : Addr) (fs : List (Str × V)) (t : Value), x = .ref a ∧ H a = some (.ins C dx fs) ∧ TyX K H y t ∧ PySem.W.notFirst K C t = true ∧ R a y b H ∧ (y = .ref a → b = true)) ∨
  ∃ (a dx : Addr) (fs : List (Str × V)), x = .non ∧ y = .ref a ∧ H a = some (.ins C dx fs) ∧ R a .non b H
theorem rcB_own (F : FnOk X.prog X.w X.K X.mg X.base CX n f fd ps (spEqO R)) (hs : PySem.W.findIn X.K (.ref C) "__eq__" = some (some (.ref f))) (hf : PySem.W.isFn X.K (.ref f) = true) (hb : Binds X.K fd ps []) (hx : Passes CX X E)
    (hn : PySem.W.subIn X.K (.ref C) (.type "NoneType") = some false) : RcB X n false (BOwn X.K C R) := by
  intro A pins s σ H x y u v b sb I rx ry d
  have fin : (false ^^ b) = b := Bool.false_xor b
  rw [fin]
  rcases d with ⟨a, dx, fs, t, rfl, ha, ty, nf, hR, _⟩ | ⟨a, dx, fs, rfl, rfl, ha, hR⟩
  · cases rx
    obtain ⟨mA, J, _⟩ := ins_get I.hok ha
    obtain ⟨od, J, _⟩ := J.look
    obtain ⟨Pz, Z, p, _⟩ := kit_of I ry ty
    obtain ⟨m, hF⟩ := I.fr
    exact PySem.W.cmp_K (op := .Eq) (tb := t) sb.room.units0 hF I.ok.mod.kin J (Z.ty _ _ I.kIn p) nf hs hf (run_eqO F hb hx sb I ry hR)
  · cases rx
    cases ry
    obtain ⟨mA, J, _⟩ := ins_get I.hok ha
    obtain ⟨od, J, _⟩ := J.look
    exact cmp_none sb.room.units0 I.kIn J hn hs hf (run_eqO (y := .non) F hb hx sb I rfl hR)
theorem eqB_own (F : FnOk X.prog X.w X.K X.mg X.base CX n f fd ps (spEqO R)) (hs : PySem.W.findIn X.K (.ref C) "__eq__" = some (some (.ref f))) (hf : PySem.W.isFn X.K (.ref f) = true) (hb : Binds X.K fd ps []) (hx : Passes CX X E)
    (hn : PySem.W.subIn X.K (.ref C) (.type "NoneType") = some false) : EqB X n (BOwn X.K C R) := by
  intro A pins s σ H x y u v b sb I rx ry d
  by_cases hsame : (u == v) = true
  · have e := eq_of_beq hsame
    subst e
    have hb1 : b = true := by
      rcases d with ⟨a, dx, fs, t, rfl, ha, ty, nf, hR, h⟩ | ⟨a, dx, fs, rfl, rfl, ha, hR⟩
      · cases rx
        refine h ?_
        cases y with
        | ref c =>
          cases ry
          rfl
        | non => cases ry
        | bl _ => cases ry
        | int _ => obtain ⟨_, z⟩ := ry; cases z
        | str _ => obtain ⟨_, z⟩ := ry; cases z
        | byt _ => obtain ⟨_, z⟩ := ry; cases z
        | flt _ => obtain ⟨_, z⟩ := ry; cases z
        | ty _ => cases ry
      · cases rx
        cases ry
    rw [hb1]
    exact SeqAt.EqAt.same (A := A) (s := s) u X.prog X.w X.xe _ ⟨rfl, H, I, Ext.rfl'⟩
  · have hu : (∃ a, u = .ref a) ∨ u = .none := by
      rcases d with ⟨a, dx, fs, t, rfl, ha, ty, nf, hR, h⟩ | ⟨a, dx, fs, rfl, rfl, ha, hR⟩
      · cases rx
        exact .inl ⟨_, rfl⟩
      · cases rx
        exact .inr rfl
    refine eqBool_by hu (by simpa using hsame) (wpAny_mono (rcB_own F hs hf hb hx hn A pins s σ H x y u v b sb I rx ry d) (fun r s' q => ?_) fun _ _ x => x)
    obtain ⟨hr, q⟩ := q
    exact ⟨b, by rw [hr, Bool.false_xor], rfl, q⟩
theorem monB_own {K : PySem.W.Frag} (hR : ∀ a y b H H', Ext H H' → R a y b H → R a y b H') : MonB (BOwn K C R) := fun x y b H H' e d => by
  rcases d with ⟨a, dx, fs, t, hx, ha, ty, nf, r, h⟩ | ⟨a, dx, fs, hx, hy, ha, r⟩
  · exact .inl ⟨a, dx, fs, t, hx, e _ _ ha, tyx_same e ty, nf, hR _ _ _ _ _ e r, h⟩
  · exact .inr ⟨a, dx, fs, hx, hy, e _ _ ha, hR _ _ _ _ _ e r⟩
end
end KA
namespace KA
open PySem PySem.Spec PyProof.Rows L2
section
variable {X : Cx} {a b : Expr} {ta tb : TE} {rest : List Expr} {pos : Pos} {K' : PySem.W.Frag}
/-- the truth of a value, of an instance of an own class without __bool__ and __len__, too -/
def TruW (K : PySem.W.Frag) (x : V) (H : Hp) (k : Bool) : Prop := TruV K x H k ∨ ∃ (a C dx : Addr) (fs : List (Str × V)), x = .ref a ∧ H a = some (.ins C dx fs) ∧ PySem.W.findIn K (.ref C) "__bool__" = some none ∧ PySem.W.findIn K (.ref C) "__len__" = some none ∧ k = true
theorem truW_ok : TruR X (fun x H Q => ∃ k, TruW X.K x H k ∧ Q k H) := by
  intro pins s σ H x v Q I rx h
  obtain ⟨k, h | ⟨a, C, dx, fs, rfl, ha, hb, hl, rfl⟩, q⟩ := h
  · exact tru_ok pins s σ H x v Q I rx ⟨k, h, q⟩
  · cases rx
    obtain ⟨mA, J, _⟩ := ins_get I.hok ha
    obtain ⟨od, J, _⟩ := J.look
    obtain ⟨m, hF⟩ := I.fr
    exact PySem.W.truthy_K0 hF I.ok.mod.kin J hb hl ⟨H, I, q⟩
def tAndW (K : PySem.W.Frag) (ta tb : TE) : TE := fun σ H Q => ta σ H fun x H1 => ∃ k, TruW K x H1 k ∧ if k = true then tb σ H1 Q else Q x H1
theorem pe_andW (hK : X.K = K') (ha : PE X a ta) (hb : PE X (.BoolOp .And (b :: rest) pos) tb) : PE X (.BoolOp .And (a :: b :: rest) pos) (tAndW K' ta tb) := by
  subst hK
  refine ⟨fun pins s σ H Q I h => ?_⟩
  refine BoolOp_and (thn (ha.run pins s σ H _ I h) fun v s1 ⟨x, H1, I1, r1, k, e, q1⟩ => ?_)
  refine thn (truW_ok pins s1 σ H1 x v (fun c H2 => c = k ∧ H2 = H1) I1 r1 ⟨k, e, rfl, rfl⟩) fun c s2 ⟨H2, I2, e1, e2⟩ => ?_
  subst e2 e1
  cases c with
  | true => exact hb.run pins s2 σ H2 Q I2 q1
  | false => exact ⟨x, H2, I2, r1, q1⟩
theorem op_catAK (hK : X.K = K') : OpR X (binaryOp .Add) (rCatA K') := by
  subst hK
  exact op_catA
end
end KA
namespace KA
open PySem PySem.SeqAt
open AutoSeq1 (wpAny_loadPart')
open MeetsSeq MeetsSeq2 MeetsSeq3 SeqRoads2
section
variable {prog : Program} {w : World} {A : Around} {R : Result → Shared → Prop}
/-- a list, read anew at each turn: the item is told equal to x or not -/
def ItI (prog : Program) (w : World) (A : Around) (E : Value → Shared → Prop) (p : Addr) (x : Value) (N : Nat) (J : Nat → Nat → Shared → Prop) (T : Nat → Nat → Bool → Shared → Prop) : Prop :=
  ∀ i c s, J i c s → ∃ (xs : Array Value) (m : Nat), s.heap.get? p = some { cls := .type "list", data := .seq xs m } ∧ xs.size = N ∧
    ∀ (g1 : i < xs.size), wpAny (model prog w) A.in1 (eqBool xs[i] x) (fun r s' => T i c r s') E s
theorem inB (p : Addr) (x : Value) (N : Nat) (J : Nat → Nat → Shared → Prop) (F : Shared → Prop) (hJ : ItI prog w A (fun e s' => R (.error e) s') p x N J (fun i c r s' => (r = false → J (i + 1) c s') ∧ (r = true → F s')))
    (done : ∀ c s, J N c s → R (.ok (.ret (.bool false))) s) (hit : ∀ s, F s → R (.ok (.ret (.bool true))) s) : ∀ (k i c : Nat), N - i = k → i ≤ N → ∀ s, J i c s →
      wpAny (model prog w) A.in1 (Builtin.«list.__contains__.loop» ⟨[.ref p, x, rawInt i], []⟩) (GQ.FinOf prog w A R) (fun e s' => R (.error e) s') s
  | 0, i, c, hk, hi, s, hs => by
    obtain ⟨xs, m, gp, zp, _⟩ := hJ _ _ _ hs
    have iN : i = N := by omega
    have last : R (.ok (.ret (.bool false))) s := done c s (iN ▸ hs)
    have n1 : xs[((i : Nat) : Int).toNat]? = none := by simp; omega
    obtain ⟨hh, gg, dd, kk, oo⟩ := s
    wp_walk using wpAny_loadPart' gp
    rw [n1]
    wp_walk
    exact last
  | k + 1, i, c, hk, hi, s, hs => by
    obtain ⟨xs, m, gp, zp, tn⟩ := hJ _ _ _ hs
    have ip : i < xs.size := by omega
    have tt := tn ip
    have n1 : xs[((i : Nat) : Int).toNat]? = some xs[i] := by simp [ip]
    have up : ((i : Int) + 1) = ((i + 1 : Nat) : Int) := by omega
    have next := fun s2 h2 => inB p x N J F hJ done hit k (i + 1) c (by omega) (by omega) s2 h2
    obtain ⟨hh, gg, dd, kk, oo⟩ := s
    wp_walk using wpAny_loadPart' gp
    rw [n1]
    refine wpAny_bind (wpAny_mono tt (fun r s2 h2 => ?_) fun _ _ x => x)
    cases r with
    | false =>
      have h3 := next s2 (h2.1 rfl)
      obtain ⟨hh2, gg2, dd2, kk2, oo2⟩ := s2
      wp_walk
      rw [up]
      exact ⟨plainId_quiet plain_contains_loop _, codeAny_builtin entry_contains_loop (by rw [Around.under_plainId plain_contains_loop _]; exact h3)⟩
    | true =>
      have h3 := hit s2 (h2.2 rfl)
      obtain ⟨hh2, gg2, dd2, kk2, oo2⟩ := s2
      wp_walk
      exact h3
theorem containsB (p : Addr) (x : Value) (N : Nat) (J : Nat → Nat → Shared → Prop) (F : Shared → Prop) (hJ : ItI prog w A (fun e s' => R (.error e) s') p x N J (fun i c r s' => (r = false → J (i + 1) c s') ∧ (r = true → F s')))
    (done : ∀ c s, J N c s → R (.ok (.ret (.bool false))) s) (hit : ∀ s, F s → R (.ok (.ret (.bool true))) s) {s : Shared} (hs : J 0 0 s) :
      wpAny (model prog w) A.in1 (Builtin.«list.__contains__» ⟨[.ref p, x], []⟩) (GQ.FinOf prog w A R) (fun e s' => R (.error e) s') s := by
  have all := inB p x N J F hJ done hit _ 0 0 rfl (Nat.zero_le _) s hs
  obtain ⟨xs, m, gp, zp, _⟩ := hJ _ _ _ hs
  obtain ⟨hh, gg, dd, kk, oo⟩ := s
  wp_walk using wpAny_loadPart' gp
  exact ⟨plainId_quiet plain_contains_loop _, codeAny_builtin entry_contains_loop (by rw [Around.under_plainId plain_contains_loop _]; exact all)⟩
theorem cntB (p : Addr) (x : Value) (N : Nat) (J : Nat → Nat → Shared → Prop) (hJ : ItI prog w A (fun e s' => R (.error e) s') p x N J (fun i c r s' => J (i + 1) (if r then c + 1 else c) s'))
    (done : ∀ c s, J N c s → R (.ok (.ret (.int (c : Int) s.toks))) { s with toks := s.toks + 1 }) : ∀ (k i c : Nat), N - i = k → i ≤ N → ∀ s, J i c s →
      wpAny (model prog w) A.in1 (Builtin.«list.count.loop» ⟨[.ref p, x, rawInt i, rawInt c], []⟩) (GQ.FinOf prog w A R) (fun e s' => R (.error e) s') s
  | 0, i, c, hk, hi, s, hs => by
    obtain ⟨xs, m, gp, zp, _⟩ := hJ _ _ _ hs
    have iN : i = N := by omega
    have last := done c s (iN ▸ hs)
    have n1 : xs[((i : Nat) : Int).toNat]? = none := by simp; omega
    obtain ⟨hh, gg, dd, kk, oo⟩ := s
    wp_walk using wpAny_loadPart' gp
    rw [n1]
    wp_walk
    exact last
  | k + 1, i, c, hk, hi, s, hs => by
    obtain ⟨xs, m, gp, zp, tn⟩ := hJ _ _ _ hs
    have ip : i < xs.size := by omega
    have tt := tn ip
    have n1 : xs[((i : Nat) : Int).toNat]? = some xs[i] := by simp [ip]
    have up : ((i : Int) + 1) = ((i + 1 : Nat) : Int) := by omega
    have up2 : ((c : Int) + 1) = ((c + 1 : Nat) : Int) := by omega
    have next := fun c' s2 h2 => cntB p x N J hJ done k (i + 1) c' (by omega) (by omega) s2 h2
    obtain ⟨hh, gg, dd, kk, oo⟩ := s
    wp_walk using wpAny_loadPart' gp
    rw [n1]
    refine wpAny_bind (wpAny_mono tt (fun r s2 h2 => ?_) fun _ _ x => x)
    cases r with
    | false =>
      have h3 := next c s2 h2
      obtain ⟨hh2, gg2, dd2, kk2, oo2⟩ := s2
      wp_walk
      simp only [Bool.false_eq_true, if_false]
      rw [up]
      exact ⟨plainId_quiet plain_count_loop _, codeAny_builtin entry_count_loop (by rw [Around.under_plainId plain_count_loop _]; exact h3)⟩
    | true =>
      have h3 := next (c + 1) s2 h2
      obtain ⟨hh2, gg2, dd2, kk2, oo2⟩ := s2
      wp_walk
      simp only [if_true]
      rw [up, up2]
      exact ⟨plainId_quiet plain_count_loop _, codeAny_builtin entry_count_loop (by rw [Around.under_plainId plain_count_loop _]; exact h3)⟩
theorem countB (p : Addr) (x : Value) (N : Nat) (J : Nat → Nat → Shared → Prop) (hJ : ItI prog w A (fun e s' => R (.error e) s') p x N J (fun i c r s' => J (i + 1) (if r then c + 1 else c) s'))
    (done : ∀ c s, J N c s → R (.ok (.ret (.int (c : Int) s.toks))) { s with toks := s.toks + 1 }) {s : Shared} (hs : J 0 0 s) :
      wpAny (model prog w) A.in1 (Builtin.«list.count» ⟨[.ref p, x], []⟩) (GQ.FinOf prog w A R) (fun e s' => R (.error e) s') s := by
  have all := cntB p x N J hJ done _ 0 0 rfl (Nat.zero_le _) s hs
  obtain ⟨xs, m, gp, zp, _⟩ := hJ _ _ _ hs
  obtain ⟨hh, gg, dd, kk, oo⟩ := s
  wp_walk using wpAny_loadPart' gp
  exact ⟨plainId_quiet plain_count_loop _, codeAny_builtin entry_count_loop (by rw [Around.under_plainId plain_count_loop _]; exact all)⟩
theorem idxB (upto : Int) (p : Addr) (x : Value) (N : Nat) (hN : (N : Int) < upto) (J : Nat → Nat → Shared → Prop) (hJ : ItI prog w A (fun e s' => R (.error e) s') p x N J (fun i c r s' => (r = false → J (i + 1) c s') ∧ (r = true → R (.ok (.ret (.int (i : Int) s'.toks))) { s' with toks := s'.toks + 1 })))
    (done : ∀ c s, ¬ J N c s) : ∀ (k i c : Nat), N - i = k → i ≤ N → ∀ s, J i c s →
      wpAny (model prog w) A.in1 (Builtin.«list.index.loop» ⟨[.ref p, x, rawInt i, rawInt upto], []⟩) (GQ.FinOf prog w A R) (fun e s' => R (.error e) s') s
  | 0, i, c, hk, hi, s, hs => by
    have iN : i = N := by omega
    exact absurd (iN ▸ hs) (done c s)
  | k + 1, i, c, hk, hi, s, hs => by
    obtain ⟨xs, m, gp, zp, tn⟩ := hJ _ _ _ hs
    have ip : i < xs.size := by omega
    have tt := tn ip
    have hst : (i : Int) < upto := by omega
    have n1 : (if (i : Int) < upto then xs[((i : Nat) : Int).toNat]? else none) = some xs[i] := by rw [if_pos hst]; simp [ip]
    have up : ((i : Int) + 1) = ((i + 1 : Nat) : Int) := by omega
    have next := fun s2 h2 => idxB upto p x N hN J hJ done k (i + 1) c (by omega) (by omega) s2 h2
    obtain ⟨hh, gg, dd, kk, oo⟩ := s
    wp_walk using wpAny_loadPart' gp
    rw [n1]
    refine wpAny_bind (wpAny_mono tt (fun r s2 h2 => ?_) fun _ _ x => x)
    cases r with
    | false =>
      have h3 := next s2 (h2.1 rfl)
      obtain ⟨hh2, gg2, dd2, kk2, oo2⟩ := s2
      wp_walk
      rw [up]
      exact ⟨plainId_quiet plain_index_loop _, codeAny_builtin entry_index_loop (by rw [Around.under_plainId plain_index_loop _]; exact h3)⟩
    | true =>
      have h3 := h2.2 rfl
      obtain ⟨hh2, gg2, dd2, kk2, oo2⟩ := s2
      wp_walk
      exact h3
theorem indexB (p : Addr) (x : Value) (N : Nat) (hN : (N : Int) < 2 ^ 63 - 1) (J : Nat → Nat → Shared → Prop) (hJ : ItI prog w A (fun e s' => R (.error e) s') p x N J (fun i c r s' => (r = false → J (i + 1) c s') ∧ (r = true → R (.ok (.ret (.int (i : Int) s'.toks))) { s' with toks := s'.toks + 1 })))
    (done : ∀ c s, ¬ J N c s) {s : Shared} (hs : J 0 0 s) :
      wpAny (model prog w) A.in1 (Builtin.«list.index» ⟨[.ref p, x], []⟩) (GQ.FinOf prog w A R) (fun e s' => R (.error e) s') s := by
  have all := idxB (2 ^ 63 - 1) p x N hN J hJ done _ 0 0 rfl (Nat.zero_le _) s hs
  obtain ⟨xs, m, gp, zp, _⟩ := hJ _ _ _ hs
  obtain ⟨hh, gg, dd, kk, oo⟩ := s
  wp_walk using wpAny_loadPart' gp
  have a1 : ((fun i : Int => if i < 0 then max 0 (i + (xs.size : Int)) else i) ((none : Option Int).getD 0)) = ((0 : Nat) : Int) := by simp
  have a2 : ((fun i : Int => if i < 0 then max 0 (i + (xs.size : Int)) else i) ((none : Option Int).getD (2 ^ 63 - 1))) = 2 ^ 63 - 1 := by simp
  rw [a1, a2]
  exact ⟨plainId_quiet plain_index_loop _, codeAny_builtin entry_index_loop (by rw [Around.under_plainId plain_index_loop _]; exact all)⟩
end
end KA
namespace KA
open PySem PySem.Spec PyProof.Rows L2
def anyF (N : Nat) (f : Nat → Bool) : Bool := (List.range N).any f
def cntF (N : Nat) (f : Nat → Bool) : Nat := (List.range N).countP f
theorem anyF_true {N j : Nat} {f : Nat → Bool} (h : j < N) (e : f j = true) : anyF N f = true := by
  unfold anyF
  rw [List.any_eq_true]
  exact ⟨j, List.mem_range.mpr h, e⟩
theorem anyF_false {N : Nat} {f : Nat → Bool} (h : ∀ j, j < N → f j = false) : anyF N f = false := by
  unfold anyF
  rw [List.any_eq_false]
  exact fun j hj => by rw [h j (List.mem_range.mp hj)]; simp
theorem cntF_succ {N : Nat} {f : Nat → Bool} : cntF (N + 1) f = if f N then cntF N f + 1 else cntF N f := by
  unfold cntF
  rw [List.range_succ, List.countP_append]
  cases h : f N <;> simp [h]
section
variable {X : Cx} {n : Nat} {D : BEq2}
/-- each item beside x, and what == tells -/
def ItsB (D : BEq2) (xs : List V) (x : V) (f : Nat → Bool) (H : Hp) : Prop := ∀ (i : Nat) z, xs[i]? = some z → D z x (f i) H
theorem turnI (hD : MonB D) (h : EqB X n D) {A : Around} (sb : Sub X (n + 1) A) {pins : List (Addr × Obj)} {σ : L2.St} {H : Hp} {xs : List V} {x : V} {u : Value} {its : List Value} {f : Nat → Bool} (p : ItsB D xs x f H) (r : Vals xs its) (rx : RelV x u)
    (i : Nat) (h1 : i < its.toArray.size) (s' : Shared) (l : LoopI X pins σ H s') :
    wpAny (model X.prog X.w) A.in1 (eqBool its.toArray[i] u) (fun r s2 => r = f i ∧ LoopI X pins σ H s2) X.xe s' := by
  obtain ⟨H1, I1, e1⟩ := l
  have l1 : i < its.length := by simpa using h1
  have k1 : i < xs.length := by rw [r.length]; exact l1
  obtain ⟨v, hu, ru⟩ := r.get (List.getElem?_eq_getElem k1)
  have g1 : its.toArray[i] = v := by
    rw [List.getElem?_eq_getElem l1] at hu
    simpa using Option.some.inj hu
  rw [g1]
  refine wpAny_mono (h A.in1 pins s' σ H1 _ _ v u _ sb.in1 I1 ru rx (hD _ _ _ _ _ e1 (p i _ (List.getElem?_eq_getElem k1)))) (fun r s2 q => ?_) fun _ _ x => x
  obtain ⟨hr, H2, I2, e2⟩ := q
  exact ⟨hr, H2, I2, e1.trans e2⟩
theorem lookI {pins : List (Addr × Obj)} {σ : L2.St} {H : Hp} {p : Addr} {xs : List V} (hp : H p = some (.lst xs)) (s' : Shared) (z : LoopI X pins σ H s') : ∃ (as : List Value) (m : Nat), Vals xs as ∧ s'.heap.get? p = some { cls := .type "list", data := .seq as.toArray m } ∧ as.toArray.size = xs.length := by
  obtain ⟨H1, I1, e1⟩ := id z
  obtain ⟨_, its, k, r, e⟩ := I1.hok p _ (e1 _ _ hp)
  exact ⟨its, k, r, e, by rw [List.size_toArray, ← r.length]⟩
theorem runIn {A : Around} {Q : Value → Shared → Prop} (hD : MonB D) (h : EqB X n D) (sb : Sub X (n + 1) A) {pins : List (Addr × Obj)} {s : Shared} {σ : L2.St} {H : Hp} {p : Addr} {xs : List V} {x : V} {u : Value} {f : Nat → Bool} (I : L2.Inv X pins σ H s) (rx : RelV x u) (hp : H p = some (.lst xs)) (pr : ItsB D xs x f H)
    (q : ∀ s', LoopI X pins σ H s' → Q (.bool (anyF xs.length f)) s') : wpAny (model X.prog X.w) A (call (.builtin "list.__contains__") [.ref p, u]) Q X.xe s := by
  obtain ⟨as, m, r, e, z1⟩ := lookI hp s ⟨H, I, Ext.rfl'⟩
  refine GQ.call_here PySem.F.slot_list_contains ⟨_, e, rfl⟩ PySem.F.entry_list_contains (PySem.F.args_list_contains_2 _ _) ?_
  refine containsB (R := wants Q X.xe) p u xs.length (fun i _ s' => LoopI X pins σ H s' ∧ ∀ j, j < i → f j = false) (fun s' => LoopI X pins σ H s' ∧ ∃ j, j < xs.length ∧ f j = true) (fun i c s' z => ?_) (fun c s' z => ?_) (fun s' z => ?_) ⟨⟨H, I, Ext.rfl'⟩, fun j hj => absurd hj (Nat.not_lt_zero _)⟩
  · obtain ⟨z, hf⟩ := z
    obtain ⟨as, k, r, e, z1⟩ := lookI hp s' z
    refine ⟨_, k, e, z1, fun g1 => wpAny_mono (turnI hD h sb pr r rx i g1 s' z) (fun r s2 q2 => ?_) fun _ _ x => x⟩
    obtain ⟨rfl, q2⟩ := q2
    refine ⟨fun t => ⟨q2, fun j hj => ?_⟩, fun t => ⟨q2, i, by omega, t⟩⟩
    by_cases hji : j = i
    · rw [hji]; exact t
    · exact hf j (by omega)
  · have := q s' z.1
    rw [anyF_false z.2] at this
    exact this
  · obtain ⟨z, j, hj, e⟩ := z
    have := q s' z
    rw [anyF_true hj e] at this
    exact this
def rInB (neg : Bool) (D : BEq2) : R2 := fun x y H Q => ∃ (p : Addr) (xs : List V) (f : Nat → Bool), y = .ref p ∧ H p = some (.lst xs) ∧ ItsB D xs x f H ∧ ∀ H', Ext H H' → Q (.bl (neg ^^ anyF xs.length f)) H'
theorem op_inB (hD : MonB D) (h : EqB X n D) (hr : Room (n + 1) X.A) : OpR X (compareOp .In) (rInB false D) := by
  intro pins s σ H x y v u Q I rx ry hq
  obtain ⟨p, xs, f, rfl, hp, pr, q⟩ := hq
  cases ry
  obtain ⟨as, m, r, e, z1⟩ := lookI hp s ⟨H, I, Ext.rfl'⟩
  show wpAny (model X.prog X.w) X.A (do return Value.bool (← contains (.ref p) v)) (EP X pins σ Q) X.xe s
  refine wpAny_bind (wpAny_contains_slot ⟨_, e, rfl⟩ PySem.F.slot_list_contains (runIn hD h ⟨hr, rfl⟩ I rx hp pr fun s' z => ?_))
  obtain ⟨H', I', ex⟩ := z
  exact wpAny_truthy_bool (wpAny_pure ⟨.bl _, H', I', rfl, by have := q H' ex; rwa [Bool.false_xor] at this⟩)
theorem op_notInB (hD : MonB D) (h : EqB X n D) (hr : Room (n + 1) X.A) : OpR X (compareOp .NotIn) (rInB true D) := by
  intro pins s σ H x y v u Q I rx ry hq
  obtain ⟨p, xs, f, rfl, hp, pr, q⟩ := hq
  cases ry
  obtain ⟨as, m, r, e, z1⟩ := lookI hp s ⟨H, I, Ext.rfl'⟩
  show wpAny (model X.prog X.w) X.A (do return Value.bool (!(← contains (.ref p) v))) (EP X pins σ Q) X.xe s
  refine wpAny_bind (wpAny_contains_slot ⟨_, e, rfl⟩ PySem.F.slot_list_contains (runIn hD h ⟨hr, rfl⟩ I rx hp pr fun s' z => ?_))
  obtain ⟨H', I', ex⟩ := z
  exact wpAny_truthy_bool (wpAny_pure ⟨.bl _, H', I', rfl, by have := q H' ex; rwa [Bool.true_xor] at this⟩)
/-- l.count(x) by own == -/
def rCountB (D : BEq2) : V → List V → Hp → VK → Prop := fun x xs H Q => ∃ (p : Addr) (ys : List V) (y : V) (f : Nat → Bool), x = .ref p ∧ xs = [y] ∧ H p = some (.lst ys) ∧ ItsB D ys y f H ∧ ∀ H', Ext H H' → Q (.int (cntF ys.length f : Nat)) H'
theorem mt_countB (hD : MonB D) (h : EqB X n D) (hr : Room (n + 1) X.A) : MtR X "list.count" (rCountB D) := by
  intro pins s σ H x xs v us Q I rx rxs hq
  obtain ⟨p, ys, y, f, rfl, rfl, hp, pr, q⟩ := hq
  cases rx
  cases rxs with
  | cons ry rt =>
    rename_i u ut
    cases rt
    obtain ⟨as, m, r, e, z1⟩ := lookI hp s ⟨H, I, Ext.rfl'⟩
    refine GQ.call_here PySem.F.slot_list_count ⟨_, e, rfl⟩ PySem.F.entry_list_count (PySem.F.args_list_count_2 _ _) ?_
    refine countB (R := wants (EP X pins σ Q) X.xe) p u ys.length (fun i c s' => LoopI X pins σ H s' ∧ c = cntF i f) (fun i c s' z => ?_) (fun c s' z => ?_) ⟨⟨H, I, Ext.rfl'⟩, rfl⟩
    · obtain ⟨z, rfl⟩ := z
      obtain ⟨as, k, r, e, z1⟩ := lookI hp s' z
      refine ⟨_, k, e, z1, fun g1 => wpAny_mono (turnI hD h ⟨hr, rfl⟩ pr r ry i g1 s' z) (fun r s2 q2 => ?_) fun _ _ x => x⟩
      obtain ⟨rfl, q2⟩ := q2
      exact ⟨q2, cntF_succ.symm⟩
    · obtain ⟨⟨H', I', ex⟩, rfl⟩ := z
      exact ⟨.int _, H', I'.tok _, ⟨_, rfl⟩, q H' ex⟩
/-- l.index(x) by own ==, where it is found -/
def rIndexB (D : BEq2) : V → List V → Hp → VK → Prop := fun x xs H Q => ∃ (p : Addr) (ys : List V) (y : V) (f : Nat → Bool) (j : Nat), x = .ref p ∧ xs = [y] ∧ H p = some (.lst ys) ∧ ItsB D ys y f H ∧ j < ys.length ∧ f j = true ∧ (∀ m, m < j → f m = false) ∧ ∀ H', Ext H H' → Q (.int (j : Nat)) H'
theorem mt_indexB (hD : MonB D) (h : EqB X n D) (hr : Room (n + 1) X.A) : MtR X "list.index" (rIndexB D) := by
  intro pins s σ H x xs v us Q I rx rxs hq
  obtain ⟨p, ys, y, f, j, rfl, rfl, hp, pr, hj, ej, nj, q⟩ := hq
  cases rx
  cases rxs with
  | cons ry rt =>
    rename_i u ut
    cases rt
    obtain ⟨hz, its, k, r, e⟩ := I.hok p _ hp
    have hsl := sizeLine_eq
    refine GQ.call_here PySem.F.slot_list_index ⟨_, e, rfl⟩ PySem.F.entry_list_index (PySem.F.args_list_index_2 _ _) ?_
    refine indexB (R := wants (EP X pins σ Q) X.xe) p u ys.length (by omega) (fun i c s' => LoopI X pins σ H s' ∧ i ≤ j) (fun i c s' z => ?_) (fun c s' z => by omega) ⟨⟨H, I, Ext.rfl'⟩, Nat.zero_le _⟩
    obtain ⟨z, hi⟩ := z
    obtain ⟨as, k, r, e, z1⟩ := lookI hp s' z
    refine ⟨_, k, e, z1, fun g1 => wpAny_mono (turnI hD h ⟨hr, rfl⟩ pr r ry i g1 s' z) (fun r s2 q2 => ?_) fun _ _ x => x⟩
    obtain ⟨rfl, q2⟩ := q2
    refine ⟨fun t => ⟨q2, ?_⟩, fun t => ?_⟩
    · have : i ≠ j := fun e => by rw [e, ej] at t; cases t
      omega
    · have ij : i = j := by
        by_cases hlt : i < j
        · rw [nj i hlt] at t; cases t
        · omega
      subst ij
      obtain ⟨H', I', ex⟩ := q2
      exact ⟨.int _, H', I'.tok _, ⟨_, rfl⟩, q H' ex⟩
end
end KA
namespace KA
open PySem PySem.Spec PyProof.Rows L2
theorem cut_full {xs : List V} {lo hi : Option Int} (h : HT.sIx xs.length 0 lo = 0 ∧ HT.sIx xs.length xs.length hi = xs.length) : cutV xs lo hi = xs := by
  unfold cutV
  rw [h.1, h.2, List.drop_zero, Nat.sub_zero, List.take_of_length_le (Nat.le_refl _)]
/-- a part of a tuple, whichever -/
theorem sla_of {K : PySem.W.Frag} {a : Addr} {xs : List V} {lo hi : Option Int} {H : Hp} {Q : VK} (ha : H a = some (.tup xs)) (q : ∀ (H' : Hp) (p : Addr), Same H H' → H' p = some (.tup (cutV xs lo hi)) → Q (.ref p) H') : rSlA K (.ref a) lo hi H Q := by
  refine ⟨a, xs, rfl, .inl (.inl ha), fun h => q H a (Same.refl _) (by rw [cut_full h]; exact ha), fun _ p hp => q _ p (same_upd hp) upd_same⟩
/-- two tuples put together, whichever -/
theorem cata_of {K : PySem.W.Frag} {a b : Addr} {xs ys : List V} {H : Hp} {Q : VK} (ha : H a = some (.tup xs)) (hb : H b = some (.tup ys)) (hl : xs.length + ys.length ≤ sizeLine) (q : ∀ (H' : Hp) (p : Addr), Same H H' → H' p = some (.tup (xs ++ ys)) → Q (.ref p) H') : rCatA K (.ref a) (.ref b) H Q := by
  refine ⟨a, b, xs, ys, rfl, rfl, .inl (.inl ha), .inl (.inl hb), hl, fun h => ?_, fun _ h => ?_, fun _ _ p hp => q _ p (same_upd hp) upd_same⟩
  · subst h
    exact q H b (Same.refl _) hb
  · subst h
    exact q H a (Same.refl _) (by rw [List.append_nil]; exact ha)
end KA
namespace KA
open PySem PySem.Spec PyProof.Rows L2
section
variable {X : Cx} {K' : PySem.W.Frag} {o e : Expr} {es : List Expr} {to : TE} {t : TA} {name : Str} {apos cpos : Pos} {T id : String} {r : V → List V → Hp → VK → Prop}
/-! methods and len within a block, the written part by its own name -/
theorem pe_bm0K (hK : X.K = K') (pa : PlainAttrs T) (slot : Slot T name id) (hty : typeOf (.builtin id) = pure (.type "method_descriptor")) (hm : MtR X id r) (ho : PE X o to)
    (hbase : attributeBase o name X.env (eval o X.env) = eval o X.env := by rfl) (hline : (apos.endLine == cpos.line) = true := by rfl) : PE X (.Call (.Attribute o name apos) [] [] cpos) (tBM0 K' T r to) := by
  subst hK
  exact pe_bm0 pa slot hty hm ho hbase hline
theorem pe_bmK (hK : X.K = K') (pa : PlainAttrs T) (slot : Slot T name id) (hty : typeOf (.builtin id) = pure (.type "method_descriptor")) (hm : MtR X id r) (ho : PE X o to) (ha : PA X (e :: es) t)
    (hbase : attributeBase o name X.env (eval o X.env) = eval o X.env := by rfl)
    (hfew : ((backTo cpos (starEach (e :: es) X.env)).all (fun x => !x.1) && (backToKw cpos (keywordEach [] X.env)).all (fun x => x.1.isSome)
      && decide ((e :: es).length + ([] : List Keyword).length + (if ([] : List Keyword).isEmpty then 0 else 1) < 30)) = true := by rfl)
    (hline : (apos.endLine == cpos.line) = true := by rfl) (hs : starEach (e :: es) X.env = (false, eval e X.env) :: starEach es X.env := by rfl) (hplain : (backTo cpos (starEach es X.env)).any (·.1) = false := by rfl) :
    PE X (.Call (.Attribute o name apos) (e :: es) [] cpos) (tBM K' T r to t) := by
  subst hK
  exact pe_bm pa slot hty hm ho ha hbase hfew hline hs hplain
def rLenK (K : PySem.W.Frag) : List V → Hp → VK → Prop := fun xs H Q => ∃ p ys, xs = [.ref p] ∧ (SqL K H p ys ∨ SqT K H p ys) ∧ Q (.int (ys.length : Nat)) H
theorem call_len_seqK (hK : X.K = K') : CallR X (.builtin "len") (rLenK K') := by
  subst hK
  exact call_len_seq
theorem call_list_ofK (hK : X.K = K') : CallR X (.type "list") (fun xs H Q => ∃ p ys, xs = [.ref p] ∧ (SqL K' H p ys ∨ SqT K' H p ys) ∧ ∀ l, H l = none → Q (.ref l) (upd H l (.lst ys))) := by
  subst hK
  exact call_list_of
end
end KA
namespace KB
open PySem PySem.Spec PyProof.Rows L2 KA LamX
def topS (i : Nat) : Stmt := PySem.Challenge.pw_pearlrise_k07_rows_and_order.main.body.getD i (.Pass ⟨0, 0, 0, 0⟩)
abbrev s_PearlError_init : Stmt := inClass (topS 1) 0
theorem sc_PearlError_init : FnScope ["self", "why"] ["self", "why"] (defScope s_PearlError_init) := ⟨rfl, rfl, rfl, by decide +kernel, rfl, by decide +kernel, by decide +kernel⟩
abbrev s_is_int : Stmt := topS 9
theorem sc_is_int : FnScope ["thing"] ["thing"] (defScope s_is_int) := ⟨rfl, rfl, rfl, by decide +kernel, rfl, by decide +kernel, by decide +kernel⟩
abbrev s_is_whole : Stmt := topS 10
theorem sc_is_whole : FnScope ["thing", "least", "most"] ["thing", "least", "most"] (defScope s_is_whole) := ⟨rfl, rfl, rfl, by decide +kernel, rfl, by decide +kernel, by decide +kernel⟩
abbrev s_is_name : Stmt := topS 11
theorem sc_is_name : FnScope ["thing", "sign"] ["thing"] (defScope s_is_name) := ⟨rfl, rfl, rfl, by decide +kernel, rfl, by decide +kernel, by decide +kernel⟩
abbrev s_is_number : Stmt := topS 12
theorem sc_is_number : FnScope ["thing"] ["thing"] (defScope s_is_number) := ⟨rfl, rfl, rfl, by decide +kernel, rfl, by decide +kernel, by decide +kernel⟩
abbrev s_is_measure : Stmt := topS 16
theorem sc_is_measure : FnScope ["thing"] ["thing"] (defScope s_is_measure) := ⟨rfl, rfl, rfl, by decide +kernel, rfl, by decide +kernel, by decide +kernel⟩
abbrev s_Bead_init : Stmt := inClass (topS 17) 0
theorem sc_Bead_init : FnScope ["self", "number", "across", "weight", "shade", "form", "drilled"] ["self", "number", "across", "weight", "shade", "form", "drilled"] (defScope s_Bead_init) := ⟨rfl, rfl, rfl, by decide +kernel, rfl, by decide +kernel, by decide +kernel⟩
abbrev s_Bead_row : Stmt := inClass (topS 17) 1
theorem sc_Bead_row : FnScope ["self"] ["self"] (defScope s_Bead_row) := ⟨rfl, rfl, rfl, by decide +kernel, rfl, by decide +kernel, by decide +kernel⟩
abbrev s_Bead_key : Stmt := inClass (topS 17) 2
theorem sc_Bead_key : FnScope ["self"] ["self"] (defScope s_Bead_key) := ⟨rfl, rfl, rfl, by decide +kernel, rfl, by decide +kernel, by decide +kernel⟩
abbrev s_Bead_eq : Stmt := inClass (topS 17) 3
theorem sc_Bead_eq : FnScope ["self", "other"] ["self", "other"] (defScope s_Bead_eq) := ⟨rfl, rfl, rfl, by decide +kernel, rfl, by decide +kernel, by decide +kernel⟩
abbrev s_Bead_repr : Stmt := inClass (topS 17) 4
theorem sc_Bead_repr : FnScope ["self", "parts"] ["self"] (defScope s_Bead_repr) := ⟨rfl, rfl, rfl, by decide +kernel, rfl, by decide +kernel, by decide +kernel⟩
abbrev s_Bead_str : Stmt := inClass (topS 17) 5
theorem sc_Bead_str : FnScope ["self"] ["self"] (defScope s_Bead_str) := ⟨rfl, rfl, rfl, by decide +kernel, rfl, by decide +kernel, by decide +kernel⟩
abbrev s_bead_of : Stmt := topS 18
theorem sc_bead_of : FnScope ["row", "number", "across", "weight", "shade", "form", "drilled"] ["row"] (defScope s_bead_of) := ⟨rfl, rfl, rfl, by decide +kernel, rfl, by decide +kernel, by decide +kernel⟩
abbrev s_in_order : Stmt := topS 19
theorem sc_in_order : FnScope ["beads"] ["beads"] (defScope s_in_order) := ⟨rfl, rfl, rfl, by decide +kernel, rfl, by decide +kernel, by decide +kernel⟩
abbrev s_cell_at : Stmt := topS 21
theorem sc_cell_at : FnScope ["_law_script", "_law_k"] ["_law_script", "_law_k"] (defScope s_cell_at) := ⟨rfl, rfl, rfl, by decide +kernel, rfl, by decide +kernel, by decide +kernel⟩
abbrev s_draws : Stmt := topS 22
theorem sc_draws : FnScope ["_law_cell"] ["_law_cell"] (defScope s_draws) := ⟨rfl, rfl, rfl, by decide +kernel, rfl, by decide +kernel, by decide +kernel⟩
abbrev s_one : Stmt := topS 23
theorem sc_one : FnScope ["_law_draws_here", "_law_many", "_law_found", "_law_mix"] ["_law_draws_here", "_law_many"] (defScope s_one) := ⟨rfl, rfl, rfl, by decide +kernel, rfl, by decide +kernel, by decide +kernel⟩
abbrev s_of : Stmt := topS 24
theorem sc_of : FnScope ["_law_draws_here", "_law_some_here"] ["_law_draws_here", "_law_some_here"] (defScope s_of) := ⟨rfl, rfl, rfl, by decide +kernel, rfl, by decide +kernel, by decide +kernel⟩
abbrev s_word : Stmt := topS 25
theorem sc_word : FnScope ["_law_draws_here", "_law_letters", "_law_k"] ["_law_draws_here"] (defScope s_word) := ⟨rfl, rfl, rfl, by decide +kernel, rfl, by decide +kernel, by decide +kernel⟩
abbrev s_size : Stmt := topS 26
theorem sc_size : FnScope ["_law_draws_here"] ["_law_draws_here"] (defScope s_size) := ⟨rfl, rfl, rfl, by decide +kernel, rfl, by decide +kernel, by decide +kernel⟩
abbrev s_things : Stmt := topS 27
theorem sc_things : FnScope ["_law_draws_here", "_law_number", "_law_shade", "_law_form"] ["_law_draws_here"] (defScope s_things) := ⟨rfl, rfl, rfl, by decide +kernel, rfl, by decide +kernel, by decide +kernel⟩
abbrev s_bead : Stmt := topS 28
theorem sc_bead : FnScope ["_law_things_here"] ["_law_things_here"] (defScope s_bead) := ⟨rfl, rfl, rfl, by decide +kernel, rfl, by decide +kernel, by decide +kernel⟩
abbrev s_some : Stmt := topS 29
theorem sc_some : FnScope ["_law_draws_here", "_law_many", "_law_rows", "_law_first", "_law_k", "_law_things_here", "_law_at"] ["_law_draws_here", "_law_many"] (defScope s_some) := ⟨rfl, rfl, rfl, by decide +kernel, rfl, by decide +kernel, by decide +kernel⟩
abbrev s_key : Stmt := topS 30
theorem sc_key : FnScope ["_law_row", "_law_number", "_law_across", "_law_weight", "_law_shade", "_law_form", "_law_drilled"] ["_law_row"] (defScope s_key) := ⟨rfl, rfl, rfl, by decide +kernel, rfl, by decide +kernel, by decide +kernel⟩
abbrev s_spoilt : Stmt := topS 31
theorem sc_spoilt : FnScope ["_law_draws_here", "_law_row", "_law_at", "_law_odd", "_law_some_here"] ["_law_draws_here", "_law_row"] (defScope s_spoilt) := ⟨rfl, rfl, rfl, by decide +kernel, rfl, by decide +kernel, by decide +kernel⟩
abbrev s_is_row : Stmt := topS 32
theorem sc_is_row : FnScope ["_law_thing"] ["_law_thing"] (defScope s_is_row) := ⟨rfl, rfl, rfl, by decide +kernel, rfl, by decide +kernel, by decide +kernel⟩
abbrev s_has_odd : Stmt := topS 33
theorem sc_has_odd : FnScope ["_law_row", "_law_number", "_law_across", "_law_weight", "_law_shade", "_law_form", "_law_drilled", "_law_thing", "_law_most", "_law_word_here"] ["_law_row"] (defScope s_has_odd) := ⟨rfl, rfl, rfl, by decide +kernel, rfl, by decide +kernel, by decide +kernel⟩
abbrev s_made : Stmt := topS 34
theorem sc_made : FnScope ["_law_thing", "e"] ["_law_thing"] (defScope s_made) := ⟨rfl, rfl, rfl, by decide +kernel, rfl, by decide +kernel, by decide +kernel⟩
abbrev s_shuffled : Stmt := topS 35
theorem sc_shuffled : FnScope ["_law_draws_here", "_law_rows", "_law_left", "_law_k"] ["_law_draws_here", "_law_rows"] (defScope s_shuffled) := ⟨rfl, rfl, rfl, by decide +kernel, rfl, by decide +kernel, by decide +kernel⟩
abbrev s_law : Stmt := topS 36
theorem sc_law : FnScope ["_law_script", "_law_cell", "_law_draws_here", "_law_rows", "_law_beads", "_law_row", "_law_bead_here", "_law_found", "_law_k", "_law_thing", "_law_due"] ["_law_script"] (defScope s_law) := ⟨rfl, rfl, rfl, by decide +kernel, rfl, by decide +kernel, by decide +kernel⟩
structure Tx (K : PySem.W.Frag) (mg : Str → Option Value) : Type where
  C_Bead : Addr
  cl_Bead : Cls K C_Bead
  g_Bead : mg "Bead" = some (.ref C_Bead)
  n_Bead_number : NoAttr K C_Bead "number"
  n_Bead_across : NoAttr K C_Bead "across"
  n_Bead_weight : NoAttr K C_Bead "weight"
  n_Bead_shade : NoAttr K C_Bead "shade"
  n_Bead_form : NoAttr K C_Bead "form"
  n_Bead_drilled : NoAttr K C_Bead "drilled"
  A_PearlError_init : Addr
  fd_PearlError_init : FuncData
  F_PearlError_init : FunD K "__init__" "PearlError.__init__" (defArgs s_PearlError_init) (defBody s_PearlError_init) (defScope s_PearlError_init) [.str ""] [] A_PearlError_init fd_PearlError_init
  b_PearlError_init : Binds K fd_PearlError_init ["self", "why"] []
  A_is_int : Addr
  fd_is_int : FuncData
  F_is_int : Fun K "is_int" "is_int" s_is_int A_is_int fd_is_int
  g_is_int : mg "is_int" = some (.ref A_is_int)
  b_is_int : Binds K fd_is_int ["thing"] []
  A_is_whole : Addr
  fd_is_whole : FuncData
  F_is_whole : Fun K "is_whole" "is_whole" s_is_whole A_is_whole fd_is_whole
  g_is_whole : mg "is_whole" = some (.ref A_is_whole)
  b_is_whole : Binds K fd_is_whole ["thing", "least", "most"] []
  A_is_name : Addr
  fd_is_name : FuncData
  F_is_name : Fun K "is_name" "is_name" s_is_name A_is_name fd_is_name
  g_is_name : mg "is_name" = some (.ref A_is_name)
  b_is_name : Binds K fd_is_name ["thing"] []
  A_is_number : Addr
  fd_is_number : FuncData
  F_is_number : Fun K "is_number" "is_number" s_is_number A_is_number fd_is_number
  g_is_number : mg "is_number" = some (.ref A_is_number)
  b_is_number : Binds K fd_is_number ["thing"] []
  A_is_measure : Addr
  fd_is_measure : FuncData
  F_is_measure : Fun K "is_measure" "is_measure" s_is_measure A_is_measure fd_is_measure
  g_is_measure : mg "is_measure" = some (.ref A_is_measure)
  b_is_measure : Binds K fd_is_measure ["thing"] []
  A_Bead_init : Addr
  fd_Bead_init : FuncData
  F_Bead_init : FunD K "__init__" "Bead.__init__" (defArgs s_Bead_init) (defBody s_Bead_init) (defScope s_Bead_init) [.str "round", .bl false] [] A_Bead_init fd_Bead_init
  mk_Bead : Mk K C_Bead A_Bead_init
  b_Bead_init : Binds K fd_Bead_init ["self", "number", "across", "weight", "shade", "form", "drilled"] []
  A_Bead_row : Addr
  fd_Bead_row : FuncData
  F_Bead_row : Fun K "row" "Bead.row" s_Bead_row A_Bead_row fd_Bead_row
  m_Bead_row : Meth K C_Bead "row" A_Bead_row
  b_Bead_row : Binds K fd_Bead_row ["self"] []
  A_Bead_key : Addr
  fd_Bead_key : FuncData
  F_Bead_key : Fun K "key" "Bead.key" s_Bead_key A_Bead_key fd_Bead_key
  m_Bead_key : Meth K C_Bead "key" A_Bead_key
  b_Bead_key : Binds K fd_Bead_key ["self"] []
  A_bead_of : Addr
  fd_bead_of : FuncData
  F_bead_of : Fun K "bead_of" "bead_of" s_bead_of A_bead_of fd_bead_of
  g_bead_of : mg "bead_of" = some (.ref A_bead_of)
  b_bead_of : Binds K fd_bead_of ["row"] []
  A_in_order : Addr
  fd_in_order : FuncData
  F_in_order : Fun K "in_order" "in_order" s_in_order A_in_order fd_in_order
  g_in_order : mg "in_order" = some (.ref A_in_order)
  b_in_order : Binds K fd_in_order ["beads"] []
  A_cell_at : Addr
  fd_cell_at : FuncData
  F_cell_at : Fun K "_law_cell_at" "_law_cell_at" s_cell_at A_cell_at fd_cell_at
  g_cell_at : mg "_law_cell_at" = some (.ref A_cell_at)
  b_cell_at : Binds K fd_cell_at ["_law_script", "_law_k"] []
  A_draws : Addr
  fd_draws : FuncData
  F_draws : Fun K "_law_draws" "_law_draws" s_draws A_draws fd_draws
  g_draws : mg "_law_draws" = some (.ref A_draws)
  b_draws : Binds K fd_draws ["_law_cell"] []
  A_one : Addr
  fd_one : FuncData
  F_one : Fun K "_law_one" "_law_one" s_one A_one fd_one
  g_one : mg "_law_one" = some (.ref A_one)
  b_one : Binds K fd_one ["_law_draws_here", "_law_many"] []
  A_of : Addr
  fd_of : FuncData
  F_of : Fun K "_law_of" "_law_of" s_of A_of fd_of
  g_of : mg "_law_of" = some (.ref A_of)
  b_of : Binds K fd_of ["_law_draws_here", "_law_some_here"] []
  A_word : Addr
  fd_word : FuncData
  F_word : Fun K "_law_word" "_law_word" s_word A_word fd_word
  g_word : mg "_law_word" = some (.ref A_word)
  b_word : Binds K fd_word ["_law_draws_here"] []
  A_size : Addr
  fd_size : FuncData
  F_size : Fun K "_law_size" "_law_size" s_size A_size fd_size
  g_size : mg "_law_size" = some (.ref A_size)
  b_size : Binds K fd_size ["_law_draws_here"] []
  A_things : Addr
  fd_things : FuncData
  F_things : Fun K "_law_things" "_law_things" s_things A_things fd_things
  g_things : mg "_law_things" = some (.ref A_things)
  b_things : Binds K fd_things ["_law_draws_here"] []
  A_bead : Addr
  fd_bead : FuncData
  F_bead : Fun K "_law_bead" "_law_bead" s_bead A_bead fd_bead
  g_bead : mg "_law_bead" = some (.ref A_bead)
  b_bead : Binds K fd_bead ["_law_things_here"] []
  A_some : Addr
  fd_some : FuncData
  F_some : Fun K "_law_some" "_law_some" s_some A_some fd_some
  g_some : mg "_law_some" = some (.ref A_some)
  b_some : Binds K fd_some ["_law_draws_here", "_law_many"] []
  A_key : Addr
  fd_key : FuncData
  F_key : Fun K "_law_key" "_law_key" s_key A_key fd_key
  g_key : mg "_law_key" = some (.ref A_key)
  b_key : Binds K fd_key ["_law_row"] []
  A_spoilt : Addr
  fd_spoilt : FuncData
  F_spoilt : Fun K "_law_spoilt" "_law_spoilt" s_spoilt A_spoilt fd_spoilt
  g_spoilt : mg "_law_spoilt" = some (.ref A_spoilt)
  b_spoilt : Binds K fd_spoilt ["_law_draws_here", "_law_row"] []
  A_is_row : Addr
  fd_is_row : FuncData
  F_is_row : Fun K "_law_is_row" "_law_is_row" s_is_row A_is_row fd_is_row
  g_is_row : mg "_law_is_row" = some (.ref A_is_row)
  b_is_row : Binds K fd_is_row ["_law_thing"] []
  A_has_odd : Addr
  fd_has_odd : FuncData
  F_has_odd : Fun K "_law_has_odd" "_law_has_odd" s_has_odd A_has_odd fd_has_odd
  g_has_odd : mg "_law_has_odd" = some (.ref A_has_odd)
  b_has_odd : Binds K fd_has_odd ["_law_row"] []
  A_made : Addr
  fd_made : FuncData
  F_made : Fun K "_law_made" "_law_made" s_made A_made fd_made
  g_made : mg "_law_made" = some (.ref A_made)
  b_made : Binds K fd_made ["_law_thing"] []
  A_shuffled : Addr
  fd_shuffled : FuncData
  F_shuffled : Fun K "_law_shuffled" "_law_shuffled" s_shuffled A_shuffled fd_shuffled
  g_shuffled : mg "_law_shuffled" = some (.ref A_shuffled)
  b_shuffled : Binds K fd_shuffled ["_law_draws_here", "_law_rows"] []
  C_PearlError : Addr
  g_PearlError : mg "PearlError" = some (.ref C_PearlError)
  C_BadRule : Addr
  g_BadRule : mg "BadRule" = some (.ref C_BadRule)
  C_BadDeed : Addr
  g_BadDeed : mg "BadDeed" = some (.ref C_BadDeed)
  C_NoRow : Addr
  g_NoRow : mg "NoRow" = some (.ref C_NoRow)
  C_BadBead : Addr
  g_BadBead : mg "BadBead" = some (.ref C_BadBead)
  ox_BadBead : OexC K C_BadBead
  in_BadBead : PySem.W.findIn K (.ref C_BadBead) "__init__" = some (some (.ref A_PearlError_init))
  ti_BadBead : PySem.W.typeIn K (.ref A_PearlError_init) = some (.type "function")
  xc_BadBead : ExcC K C_BadBead
  nf_BadBead_why : PySem.W.findIn K (.ref C_BadBead) "why" = some none
  em_BadBead_PearlError : PySem.W.exmOne K (.ref C_BadBead) (.ref C_PearlError) = some true
  vV : PySem.W.findCls K (.type "ValueError") (.type "type") "__init__" = some (.val (.builtin "ValueError.__init__"))
  cc_in_order : Addr
  PP_in_order : Addr
  cd_in_order : fd_in_order.code = .ref cc_in_order
  ki_no : PySem.W.kitAny K (.ref C_BadBead) [.ref C_BadDeed, .ref C_BadRule, .ref C_NoRow] = some false
  ki_me : PySem.W.kitOne K (.ref C_BadBead) (.ref C_BadBead) = some true
  t_LONGEST_NAME : Tok
  g_LONGEST_NAME : mg "LONGEST_NAME" = some (.int 8 t_LONGEST_NAME)
  t_GREATEST_NUMBER : Tok
  g_GREATEST_NUMBER : mg "GREATEST_NUMBER" = some (.int 1000000000 t_GREATEST_NUMBER)
  t_GREATEST_MEASURE : Tok
  g_GREATEST_MEASURE : mg "GREATEST_MEASURE" = some (.int 1000000 t_GREATEST_MEASURE)
  t_ROW_LENGTH : Tok
  g_ROW_LENGTH : mg "ROW_LENGTH" = some (.int 6 t_ROW_LENGTH)
  z_ValueError : mg "ValueError" = none
  z_bool : mg "bool" = none
  z_isinstance : mg "isinstance" = none
  z_int : mg "int" = none
  z_len : mg "len" = none
  z_str : mg "str" = none
  z_all : mg "all" = none
  z_tuple : mg "tuple" = none
  z_sorted : mg "sorted" = none
  z_range : mg "range" = none
  z_list : mg "list" = none
  z_zip : mg "zip" = none
structure TBs {K : PySem.W.Frag} {mg : Str → Option Value} (T : Tx K mg) (base : Heap) : Prop where
  t_in_order : LamX.TabB base mg T.cc_in_order T.PP_in_order
def lamT {K : PySem.W.Frag} {mg : Str → Option Value} (T : Tx K mg) : List (Addr × Str) := [(T.PP_in_order, ("in_order" : Str) ++ ".<locals>." ++ "<lambda>")]
section
variable {P : Program} {w : World} {K : PySem.W.Frag} {mg : Str → Option Value} {base : Heap}
def whl (v : V) (lo hi : Int) : Bool := match v with
  | .int i => decide (lo ≤ i) && decide (i ≤ hi)
  | _ => false
def nm (v : V) : Bool := match v with
  | .str z => decide (1 ≤ z.length) && decide (z.length ≤ 8) && z.cps.toList.all lower
  | _ => false
def spIsInt (K : PySem.W.Frag) : Sp := fun vs H Q _ => ∃ v, vs = [v] ∧ Th K H v ∧ Q (.bl (isI v)) H
def spIsWhole (K : PySem.W.Frag) : Sp := fun vs H Q _ => ∃ v lo hi, vs = [v, .int lo, .int hi] ∧ Th K H v ∧ Q (.bl (whl v lo hi)) H
def spIsNumber (K : PySem.W.Frag) : Sp := fun vs H Q _ => ∃ v, vs = [v] ∧ Th K H v ∧ Q (.bl (whl v 1 1000000000)) H
def spIsName (K : PySem.W.Frag) : Sp := fun vs H Q _ => ∃ v, vs = [v] ∧ Th K H v ∧ (∀ z, v = .str z → z.length ≤ 100000) ∧ ∀ H', Same H H' → Q (.bl (nm v)) H'
theorem ok_is_int (T : Tx K mg) : FnOk P w K mg base CX0 1 T.A_is_int T.fd_is_int ["thing"] (spIsInt K) := by
  refine T.F_is_int.ok sc_is_int (fun vs H Q E h => ?_) (fun cdv A outer s H vs Q E hr h => ?_)
  · obtain ⟨v, rfl, th, q⟩ := h
    rfl
  obtain ⟨v, rfl, th, q⟩ := h
  refine ⟨_, (pss_one (ps_ret (pe_and (pe_callB call_isi (by rfl) T.z_isinstance (by decide +kernel) (pa_cons (pv 0) (pa_cons (pe_bltn (v := .ty "int") (by rfl) T.z_int (by decide +kernel) rfl) pa_nil))) (pe_one (pe_not (pe_callB call_isi (by rfl) T.z_isinstance (by decide +kernel) (pa_cons (pv 0) (pa_cons (pe_bltn (v := .ty "bool") (by rfl) T.z_bool (by decide +kernel) rfl) pa_nil)))))))), ?_⟩
  obtain ⟨t1, ty1, k1⟩ := isi_int th
  obtain ⟨t2, ty2, k2⟩ := isi_bool th
  refine ⟨_, rfl, v, _, t1, _, _, rfl, .ty _, ty1, k1, _, rfl, ?_⟩
  refine ite2 (fun e => ?_) (fun e => ?_)
  · refine ⟨_, rfl, v, _, t2, _, _, rfl, .ty _, ty2, k2, _, rfl, ?_⟩
    have : (!isB v) = isI v := by cases v <;> simp_all [isI, isB]
    rw [this]
    exact q
  · have : isI v = false := by cases v <;> simp_all [isI, isB]
    rw [this] at q
    exact q
theorem ok_is_whole (T : Tx K mg) : FnOk P w K mg base CX0 2 T.A_is_whole T.fd_is_whole ["thing", "least", "most"] (spIsWhole K) := by
  refine T.F_is_whole.ok sc_is_whole (fun vs H Q E h => ?_) (fun cdv A outer s H vs Q E hr h => ?_)
  · obtain ⟨v, lo, hi, rfl, th, q⟩ := h
    rfl
  obtain ⟨v, lo, hi, rfl, th, q⟩ := h
  refine ⟨_, (pss_one (ps_ret (pe_and (pe_call (ok_is_int T) (hr.mono (by decide)) (by rfl) T.g_is_int T.F_is_int.kp T.b_is_int .nil pass0 (pa_cons (pv 0) pa_nil)) (pe_one (pe_chain op_le op_le (pv 1) (pv 0) (pv 2)))))), ?_⟩
  refine ⟨_, rfl, v, rfl, th, _, rfl, ?_⟩
  cases v with
  | int i =>
    refine iteT ?_
    refine ⟨_, rfl, _, rfl, _, _, rfl, rfl, _, rfl, ?_⟩
    refine ite2 (fun e => ?_) (fun e => ?_)
    · refine ⟨_, rfl, _, _, rfl, rfl, ?_⟩
      have q : Q (.bl (decide (lo ≤ i) && decide (i ≤ hi))) H := q
      rw [e] at q
      exact q
    · have q : Q (.bl (decide (lo ≤ i) && decide (i ≤ hi))) H := q
      rw [Bool.not_eq_true] at e
      rw [e] at q
      exact q
  | _ => exact iteF q
theorem ok_is_number (T : Tx K mg) : FnOk P w K mg base CX0 3 T.A_is_number T.fd_is_number ["thing"] (spIsNumber K) := by
  refine T.F_is_number.ok sc_is_number (fun vs H Q E h => ?_) (fun cdv A outer s H vs Q E hr h => ?_)
  · obtain ⟨v, rfl, th, q⟩ := h
    rfl
  obtain ⟨v, rfl, th, q⟩ := h
  refine ⟨_, (pss_one (ps_ret (pe_call (ok_is_whole T) (hr.mono (by decide)) (by rfl) T.g_is_whole T.F_is_whole.kp T.b_is_whole .nil pass0 (pa_cons (pv 0) (pa_cons pe_int (pa_cons (pe_glob (v := .int 1000000000) (by rfl) T.g_GREATEST_NUMBER ⟨_, rfl⟩) pa_nil)))))), ?_⟩
  exact ⟨_, rfl, v, 1, 1000000000, rfl, th, q⟩
theorem nm_no {v : V} (h : isS v = false) : nm v = false := by cases v <;> simp_all [nm, isS]
theorem ok_is_name (T : Tx K mg) : FnOk P w K mg base CX0 1 T.A_is_name T.fd_is_name ["thing"] (spIsName K) := by
  refine T.F_is_name.ok sc_is_name (fun vs H Q E h => ?_) (fun cdv A outer s H vs Q E hr h => ?_)
  · obtain ⟨v, rfl, th, hz, q⟩ := h
    rfl
  obtain ⟨v, rfl, th, hz, q⟩ := h
  refine ⟨_, (pss_cons (ps_if (PW.pt (pw_or (pt_not (pt_val (pe_callB call_isi (by rfl) T.z_isinstance (by decide +kernel) (pa_cons (pv 0) (pa_cons (pe_bltn (v := .ty "str") (by rfl) T.z_str (by decide +kernel) rfl) pa_nil))))) (pw_or1 (pt_not (pt_chain op_le op_le pe_int (pe_callB call_len_str (by rfl) T.z_len PySem.boot_len (pa_cons (pv 0) pa_nil)) (pe_glob (v := .int 8) (by rfl) T.g_LONGEST_NAME ⟨_, rfl⟩)))))) (pss_one (ps_ret pe_bl)) pss_nil)
      (pss_one (ps_ret (pe_callB (cr_all rfl) (by rfl) T.z_all (by decide +kernel) (pa_cons (pe_lc (own := [("sign", 1)]) (g := gName 1) (tt := tYes) rfl sc_is_name.nd (pi_str (pv 0)) (blkOk_by (N := ["thing", "sign"]) (sc := defScope s_is_name) (by decide +kernel)) (fun _ _ _ _ _ => (pg_name (i := 1) sc_is_name.nd rfl (Or.inl rfl))) (fun _ _ _ _ _ => pts_nil) (fun _ _ _ _ _ => (pe_chain op_le_str op_le_str pe_str (pv 1) pe_str))) pa_nil))))), ?_⟩
  obtain ⟨t1, ty1, k1⟩ := isi_str th
  refine ⟨_, rfl, v, _, t1, _, _, rfl, .ty _, ty1, k1, _, rfl, ?_⟩
  by_cases hs : isS v = true
  · obtain ⟨z, rfl⟩ : ∃ z, v = .str z := by
      cases v with
      | str z => exact ⟨z, rfl⟩
      | _ => cases hs
    have hz := hz z rfl
    have hzl : z.length ≤ sizeLine := Nat.le_trans hz (by decide)
    have nmE : nm (.str z) = (decide (1 ≤ z.length) && decide (z.length ≤ 8) && z.cps.toList.all lower) := rfl
    rw [hs]
    refine iteF ?_
    refine ⟨_, rfl, z, rfl, hzl, _, _, rfl, rfl, _, rfl, ?_⟩
    by_cases h1 : 1 ≤ z.length
    · rw [decide_eq_true (show (1 : Int) ≤ (z.length : Int) by omega)]
      refine iteT ⟨_, _, rfl, rfl, _, rfl, ?_⟩
      by_cases h2 : z.length ≤ 8
      · rw [decide_eq_true (show (z.length : Int) ≤ 8 by omega)]
        refine iteF ?_
        refine ⟨_, rfl, z, rfl, fun D hD => lc_all hD hz lower ?_ ?_⟩
        · intro c H2 R C s2 r
          refine ⟨rfl, yesT ?_⟩
          refine ⟨_, rfl, _, _, rfl, rfl, _, rfl, ?_⟩
          rw [ge_a]
          refine ite2 (fun e => ?_) (fun e => ?_)
          · refine ⟨_, _, rfl, rfl, ?_⟩
            rw [le_z]
            have : lower c = decide (c ≤ 122) := by unfold lower; rw [e, Bool.true_and]
            rw [← this]
            exact r
          · rw [Bool.not_eq_true] at e
            have : lower c = false := by unfold lower; rw [e, Bool.false_and]
            rw [← this]
            exact r
        · intro H' s1 e1
          refine ⟨D, z.cps.toList.map lower, rfl, SqL.of e1, ?_⟩
          have q := q H' s1
          have : nm (.str z) = (z.cps.toList.map lower).all id := by
            rw [nmE, decide_eq_true h1, decide_eq_true h2, Bool.true_and, Bool.true_and, List.all_map]
            rfl
          rw [this] at q
          exact q
      · rw [decide_eq_false (show ¬ (z.length : Int) ≤ 8 by omega)]
        refine iteT ?_
        have q := q H (Same.refl H)
        rw [nmE, decide_eq_false h2, Bool.and_false, Bool.false_and] at q
        exact q
    · rw [decide_eq_false (show ¬ (1 : Int) ≤ (z.length : Int) by omega)]
      refine iteF ⟨_, rfl, ?_⟩
      refine iteT ?_
      have q := q H (Same.refl H)
      rw [nmE, decide_eq_false h1, Bool.false_and, Bool.false_and] at q
      exact q
  · rw [Bool.not_eq_true] at hs
    rw [hs]
    refine iteT (iteT ?_)
    have q := q H (Same.refl H)
    rw [nm_no hs] at q
    exact q
theorem ok_PearlError_init (T : Tx K mg) : FnOk P w K mg base CX0 1 T.A_PearlError_init T.fd_PearlError_init ["self", "why"] (spPearl K "why") := by
  refine okD T.F_PearlError_init sc_PearlError_init (fun vs H Q E h => ?_) (fun cdv A outer s H vs Q E hr h => ?_)
  · obtain ⟨a, C, v, rfl, T1, hno, ha, q⟩ := h
    rfl
  obtain ⟨a, C, v, rfl, T1, hno, ha, q⟩ := h
  refine ⟨_, (pss_cons (ps_expr (pe_veinit (by rfl) T.z_ValueError T.vV (pa_cons (pv 0) (pa_cons (pv 1) pa_nil))))
      (pss_one (ps_ost (pv 0) (pv 1)))), ?_⟩
  refine ⟨_, rfl, _, rfl, a, C, [v], rfl, (by show 1 ≤ 1000; decide), T1, ha, ?_⟩
  exact ⟨_, rfl, _, rfl, a, C, rfl, T1, hno, .inl ⟨ha, q⟩⟩
def spMeasure (K : PySem.W.Frag) : Sp := fun vs H Q _ => ∃ v, vs = [v] ∧ Th K H v ∧ Q (.bl (whl v 1 1000000)) H
theorem ok_is_measure (T : Tx K mg) : FnOk P w K mg base CX0 3 T.A_is_measure T.fd_is_measure ["thing"] (spMeasure K) := by
  refine T.F_is_measure.ok sc_is_measure (fun vs H Q E h => ?_) (fun cdv A outer s H vs Q E hr h => ?_)
  · obtain ⟨v, rfl, th, q⟩ := h
    rfl
  obtain ⟨v, rfl, th, q⟩ := h
  refine ⟨_, (pss_one (ps_ret (pe_call (ok_is_whole T) (hr.mono (by decide)) (by rfl) T.g_is_whole T.F_is_whole.kp T.b_is_whole .nil pass0 (pa_cons (pv 0) (pa_cons pe_int (pa_cons (pe_glob (v := .int 1000000) (by rfl) T.g_GREATEST_MEASURE ⟨_, rfl⟩) pa_nil)))))), ?_⟩
  exact ⟨_, rfl, v, 1, 1000000, rfl, th, q⟩
/-- a bead as data -/
structure Rw where
  num : Int
  ac : Int
  we : Int
  sh : Str
  fo : Str
  dr : Bool
deriving DecidableEq
theorem short_name {z : Str} (h : nm (.str z) = true) : z.length ≤ 100000 := by
  have nmE : nm (.str z) = (decide (1 ≤ z.length) && decide (z.length ≤ 8) && z.cps.toList.all lower) := rfl
  rw [nmE] at h
  simp only [Bool.and_eq_true, decide_eq_true_eq] at h
  omega
def bf (r : Rw) : List (Str × V) := putF "drilled" (.bl r.dr) (putF "form" (.str r.fo) (putF "shade" (.str r.sh) (putF "weight" (.int r.we) (putF "across" (.int r.ac) (putF "number" (.int r.num) [])))))
theorem bf_number (r : Rw) : (bf r).lookup ("number" : Str) = some (.int r.num) := by
  unfold bf
  rw [lookup_putF, if_neg (by decide +kernel), lookup_putF, if_neg (by decide +kernel), lookup_putF, if_neg (by decide +kernel), lookup_putF, if_neg (by decide +kernel), lookup_putF, if_neg (by decide +kernel), lookup_putF, if_pos rfl]
theorem bf_across (r : Rw) : (bf r).lookup ("across" : Str) = some (.int r.ac) := by
  unfold bf
  rw [lookup_putF, if_neg (by decide +kernel), lookup_putF, if_neg (by decide +kernel), lookup_putF, if_neg (by decide +kernel), lookup_putF, if_neg (by decide +kernel), lookup_putF, if_pos rfl]
theorem bf_weight (r : Rw) : (bf r).lookup ("weight" : Str) = some (.int r.we) := by
  unfold bf
  rw [lookup_putF, if_neg (by decide +kernel), lookup_putF, if_neg (by decide +kernel), lookup_putF, if_neg (by decide +kernel), lookup_putF, if_pos rfl]
theorem bf_shade (r : Rw) : (bf r).lookup ("shade" : Str) = some (.str r.sh) := by
  unfold bf
  rw [lookup_putF, if_neg (by decide +kernel), lookup_putF, if_neg (by decide +kernel), lookup_putF, if_pos rfl]
theorem bf_form (r : Rw) : (bf r).lookup ("form" : Str) = some (.str r.fo) := by
  unfold bf
  rw [lookup_putF, if_neg (by decide +kernel), lookup_putF, if_pos rfl]
theorem bf_drilled (r : Rw) : (bf r).lookup ("drilled" : Str) = some (.bl r.dr) := by
  unfold bf
  rw [lookup_putF, if_pos rfl]
theorem bf_no (r : Rw) {m : Str} (h1 : ¬ m = "drilled") (h2 : ¬ m = "form") (h3 : ¬ m = "shade") (h4 : ¬ m = "weight") (h5 : ¬ m = "across") (h6 : ¬ m = "number") : (bf r).lookup m = none := by
  unfold bf
  rw [lookup_putF, if_neg h1, lookup_putF, if_neg h2, lookup_putF, if_neg h3, lookup_putF, if_neg h4, lookup_putF, if_neg h5, lookup_putF, if_neg h6]
  rfl
theorem few {fs : List (Str × V)} {f : Str} {v : V} {n : Nat} (h : fs.length ≤ n) : (putF f v fs).length ≤ n + 1 := Nat.le_trans (length_putF f v fs) (by omega)
theorem few0 : ([] : List (Str × V)).length ≤ 0 := Nat.le_refl _
def BeadAt (C : Addr) (H : Hp) (p : Addr) (r : Rw) : Prop := ∃ dx, H p = some (.ins C dx (bf r))
/-- six things that make a bead -/
def okRw (a b c d e f : V) : Bool := whl a 1 1000000000 && whl b 1 1000000 && whl c 1 1000000 && nm d && nm e && isB f
def asRw (a b c d e f : V) : Option Rw := match a, b, c, d, e, f with
  | .int x, .int y, .int z, .str s, .str t, .bl g => if okRw a b c d e f = true then some ⟨x, y, z, s, t, g⟩ else none
  | _, _, _, _, _, _ => none
def GoodRw (r : Rw) : Prop := whl (.int r.num) 1 1000000000 = true ∧ whl (.int r.ac) 1 1000000 = true ∧ whl (.int r.we) 1 1000000 = true ∧ nm (.str r.sh) = true ∧ nm (.str r.fo) = true
theorem okRw_good {r : Rw} : okRw (.int r.num) (.int r.ac) (.int r.we) (.str r.sh) (.str r.fo) (.bl r.dr) = true ↔ GoodRw r := by
  unfold okRw GoodRw
  simp only [Bool.and_eq_true, and_assoc]
  exact ⟨fun h => ⟨h.1, h.2.1, h.2.2.1, h.2.2.2.1, h.2.2.2.2.1⟩, fun h => ⟨h.1, h.2.1, h.2.2.1, h.2.2.2.1, h.2.2.2.2, rfl⟩⟩
theorem asRw_some {a b c d e f : V} {r : Rw} (h : asRw a b c d e f = some r) : a = .int r.num ∧ b = .int r.ac ∧ c = .int r.we ∧ d = .str r.sh ∧ e = .str r.fo ∧ f = .bl r.dr ∧ GoodRw r := by
  unfold asRw at h
  split at h
  · split at h
    · rename_i g
      cases h
      exact ⟨rfl, rfl, rfl, rfl, rfl, rfl, okRw_good.mp g⟩
    · cases h
  · cases h
theorem asRw_good {r : Rw} (g : GoodRw r) : asRw (.int r.num) (.int r.ac) (.int r.we) (.str r.sh) (.str r.fo) (.bl r.dr) = some r := if_pos (okRw_good.mpr g)
theorem asRw_ok {a b c d e f : V} {r : Rw} (h : asRw a b c d e f = some r) : okRw a b c d e f = true := by
  obtain ⟨rfl, rfl, rfl, rfl, rfl, rfl, g⟩ := asRw_some h
  exact okRw_good.mpr g
theorem asRw_no {a b c d e f : V} (h : okRw a b c d e f = false) : asRw a b c d e f = none := by
  cases eq : asRw a b c d e f with
  | none => rfl
  | some r =>
    rw [asRw_ok eq] at h
    cases h
theorem whl_int {v : V} {lo hi : Int} (h : whl v lo hi = true) : ∃ i, v = .int i := by
  cases v with
  | int i => exact ⟨i, rfl⟩
  | _ => cases h
theorem nm_str {v : V} (h : nm v = true) : ∃ z, v = .str z := by
  cases v with
  | str z => exact ⟨z, rfl⟩
  | _ => cases h
theorem notT {b : Bool} (h : (!b) = true) : b = false := by cases b <;> simp_all
theorem notF {b : Bool} (h : ¬ (!b) = true) : b = true := by cases b <;> simp_all
/-- texts are short -/
def Sh (v : V) : Prop := ∀ z, v = .str z → z.length ≤ 100000
def spBeadX (K : PySem.W.Frag) (C CB : Addr) : Sp := fun vs H Q E => ∃ (p dx : Addr) (a b c d e f : V), vs = [.ref p, a, b, c, d, e, f] ∧ H p = some (.ins C dx []) ∧ Th K H a ∧ Th K H b ∧ Th K H c ∧ Th K H d ∧ Th K H e ∧ Th K H f ∧ Sh d ∧ Sh e ∧
  (∀ r, asRw a b c d e f = some r → ∀ H' : Hp, BeadAt C H' p r → (∀ b o, H b = some o → b ≠ p → H' b = some o) → Q .non H') ∧
  (asRw a b c d e f = none → ∀ (H' : Hp) (dd : Addr) (z : Str), Same H H' → H' dd = some (.xd [("why", .str z)]) → E (.ref CB) (some dd) H')
theorem ok_Bead_init (T : Tx K mg) : FnOk P w K mg base (L2.CX P w) 4 T.A_Bead_init T.fd_Bead_init ["self", "number", "across", "weight", "shade", "form", "drilled"] (spBeadX K T.C_Bead T.C_BadBead) := by
  refine T.F_Bead_init.ok (CX := L2.CX P w) sc_Bead_init (fun vs H Q E h => ?_) (fun cdv A outer s H vs Q E hr h => ?_)
  · obtain ⟨p, dx, a, b, c, d, e, f, rfl, hp, ta, tb, tc, td, te, tf, shd, she, qy, qn⟩ := h
    rfl
  obtain ⟨p, dx, a, b, c, d, e, f, rfl, hp, ta, tb, tc, td, te, tf, shd, she, qy, qn⟩ := h
  refine ⟨_, (pss_cons (ps_if (pt_not (pt_val (pe_call (ok_is_number T) (hr.mono (by decide)) (by rfl) T.g_is_number T.F_is_number.kp T.b_is_number .nil pass0 (pa_cons (pv 1) pa_nil)))) (pss_one (ps_raise rfl (takes_of rfl rfl rfl rfl) (pmk_oex T.ox_BadBead T.in_BadBead T.ti_BadBead (ok_PearlError_init T) (hr.mono (by decide)) T.b_PearlError_init .nil pass0 (by rfl) T.g_BadBead (pa_cons pe_str pa_nil)))) pss_nil)
      (pss_cons (ps_if (PW.pt (pw_or (pt_not (pt_val (pe_call (ok_is_measure T) (hr.mono (by decide)) (by rfl) T.g_is_measure T.F_is_measure.kp T.b_is_measure .nil pass0 (pa_cons (pv 2) pa_nil)))) (pw_or1 (pt_not (pt_val (pe_call (ok_is_measure T) (hr.mono (by decide)) (by rfl) T.g_is_measure T.F_is_measure.kp T.b_is_measure .nil pass0 (pa_cons (pv 3) pa_nil))))))) (pss_one (ps_raise rfl (takes_of rfl rfl rfl rfl) (pmk_oex T.ox_BadBead T.in_BadBead T.ti_BadBead (ok_PearlError_init T) (hr.mono (by decide)) T.b_PearlError_init .nil pass0 (by rfl) T.g_BadBead (pa_cons pe_str pa_nil)))) pss_nil)
      (pss_cons (ps_if (PW.pt (pw_or (pt_not (pt_val (pe_call (ok_is_name T) (hr.mono (by decide)) (by rfl) T.g_is_name T.F_is_name.kp T.b_is_name .nil pass0 (pa_cons (pv 4) pa_nil)))) (pw_or1 (pt_not (pt_val (pe_call (ok_is_name T) (hr.mono (by decide)) (by rfl) T.g_is_name T.F_is_name.kp T.b_is_name .nil pass0 (pa_cons (pv 5) pa_nil))))))) (pss_one (ps_raise rfl (takes_of rfl rfl rfl rfl) (pmk_oex T.ox_BadBead T.in_BadBead T.ti_BadBead (ok_PearlError_init T) (hr.mono (by decide)) T.b_PearlError_init .nil pass0 (by rfl) T.g_BadBead (pa_cons pe_str pa_nil)))) pss_nil)
      (pss_cons (ps_if (pt_not (pt_val (pe_callB call_isi (by rfl) T.z_isinstance (by decide +kernel) (pa_cons (pv 6) (pa_cons (pe_bltn (v := .ty "bool") (by rfl) T.z_bool (by decide +kernel) rfl) pa_nil))))) (pss_one (ps_raise rfl (takes_of rfl rfl rfl rfl) (pmk_oex T.ox_BadBead T.in_BadBead T.ti_BadBead (ok_PearlError_init T) (hr.mono (by decide)) T.b_PearlError_init .nil pass0 (by rfl) T.g_BadBead (pa_cons pe_str pa_nil)))) pss_nil)
      (pss_cons (ps_fld (pv 0) (pv 1) rfl)
      (pss_cons (ps_fld (pv 0) (pv 2) rfl)
      (pss_cons (ps_fld (pv 0) (pv 3) rfl)
      (pss_cons (ps_fld (pv 0) (pv 4) rfl)
      (pss_cons (ps_fld (pv 0) (pv 5) rfl)
      (pss_one (ps_fld (pv 0) (pv 6) rfl))))))))))), ?_⟩
  have bad : ∀ (z : Str) (H1 : Hp), Same H H1 → okRw a b c d e f = false → [V.str z].length ≤ 1000 ∧ ∀ x, H1 x = none → spPearl K "why" (.ref x :: ([V.str z] ++ [])) (upd H1 x (exo x T.C_BadBead none)) (fun v H2 => v = .non ∧ ∃ (d : Addr) (fs : List (Str × V)), H2 x = some (exo x T.C_BadBead (some d)) ∧ H2 d = some (exd d fs) ∧ H1 d = none ∧ E (.ref T.C_BadBead) (some d) (upd (del H2 x) d (.xd fs))) (fun _ _ _ => False) := fun z H1 s1 hz => by
    refine ⟨(by show 1 ≤ 1000; decide), fun x hx => ⟨x, T.C_BadBead, .str z, rfl, T.ox_BadBead, T.nf_BadBead_why, upd_same, fun dd hd hne => ⟨rfl, dd, [("why", .str z)], upd_same, ?_, ?_, ?_⟩⟩⟩
    · rw [upd_ne hne]
      exact upd_same
    · rw [upd_ne hne] at hd
      exact hd
    · rw [upd_ne hne] at hd
      exact qn (asRw_no hz) _ dd z (s1.trans (pearl_same hx hd)) upd_same
  have s0 := Same.refl H
  refine ⟨_, rfl, a, rfl, ta, _, rfl, ite2 (fun k => bad _ _ s0 (by unfold okRw; rw [notT k]; rfl)) (fun k1 => ?_)⟩
  have k1 := notF k1
  refine ⟨_, rfl, b, rfl, tb, _, rfl, ite2 (fun k => bad _ _ s0 (by unfold okRw; rw [notT k, Bool.and_false]; rfl)) (fun k2 => ?_)⟩
  have k2 := notF k2
  refine ⟨_, rfl, c, rfl, tc, _, rfl, ite2 (fun k => bad _ _ s0 (by unfold okRw; rw [notT k, Bool.and_false]; rfl)) (fun k3 => ?_)⟩
  have k3 := notF k3
  refine ⟨_, rfl, d, rfl, td, shd, fun H1 s1 => ⟨_, rfl, ite2 (fun k => bad _ _ s1 (by unfold okRw; rw [notT k, Bool.and_false]; rfl)) (fun k4 => ?_)⟩⟩
  have k4 := notF k4
  refine ⟨_, rfl, e, rfl, te.same s1, she, fun H2 s2 => ⟨_, rfl, ite2 (fun k => bad _ _ (s1.trans s2) (by unfold okRw; rw [notT k, Bool.and_false]; rfl)) (fun k5 => ?_)⟩⟩
  have k5 := notF k5
  obtain ⟨t2, ty2, kk⟩ := isi_bool (tf.same (s1.trans s2))
  refine ⟨_, rfl, f, _, t2, _, _, rfl, .ty _, ty2, kk, _, rfl, ite2 (fun k => bad _ _ (s1.trans s2) (by unfold okRw; rw [notT k, Bool.and_false])) (fun k6 => ?_)⟩
  have k6 := notF k6
  have hok : okRw a b c d e f = true := by
    unfold okRw
    rw [k1, k2, k3, k4, k5, k6]
    rfl
  obtain ⟨x, rfl⟩ := whl_int k1
  obtain ⟨y, rfl⟩ := whl_int k2
  obtain ⟨z, rfl⟩ := whl_int k3
  obtain ⟨sh, rfl⟩ := nm_str k4
  obtain ⟨fo, rfl⟩ := nm_str k5
  obtain ⟨g, rfl⟩ : ∃ g, f = .bl g := by
    cases f with
    | bl g => exact ⟨g, rfl⟩
    | _ => cases k6
  have er : asRw (.int x) (.int y) (.int z) (.str sh) (.str fo) (.bl g) = some ⟨x, y, z, sh, fo, g⟩ := if_pos hok
  have h2 := s2 _ _ (s1 _ _ hp)
  refine ⟨_, rfl, _, rfl, p, _, dx, _, rfl, h2, T.cl_Bead, T.n_Bead_number, by decide, ?_⟩
  refine ⟨_, rfl, _, rfl, p, _, dx, _, rfl, upd_same, T.cl_Bead, T.n_Bead_across, Nat.lt_of_le_of_lt (few few0) (by decide), ?_⟩
  refine ⟨_, rfl, _, rfl, p, _, dx, _, rfl, upd_same, T.cl_Bead, T.n_Bead_weight, Nat.lt_of_le_of_lt (few (few few0)) (by decide), ?_⟩
  refine ⟨_, rfl, _, rfl, p, _, dx, _, rfl, upd_same, T.cl_Bead, T.n_Bead_shade, Nat.lt_of_le_of_lt (few (few (few few0))) (by decide), ?_⟩
  refine ⟨_, rfl, _, rfl, p, _, dx, _, rfl, upd_same, T.cl_Bead, T.n_Bead_form, Nat.lt_of_le_of_lt (few (few (few (few few0)))) (by decide), ?_⟩
  refine ⟨_, rfl, _, rfl, p, _, dx, _, rfl, upd_same, T.cl_Bead, T.n_Bead_drilled, Nat.lt_of_le_of_lt (few (few (few (few (few few0))))) (by decide), ?_⟩
  refine qy _ er _ ⟨dx, upd_same⟩ fun b o e hb => ?_
  rw [upd_ne hb, upd_ne hb, upd_ne hb, upd_ne hb, upd_ne hb, upd_ne hb]
  exact s2 _ _ (s1 _ _ e)
def rowVals (r : Rw) : List V := [.int r.num, .int r.ac, .int r.we, .str r.sh, .str r.fo, .bl r.dr]
def spRow (C : Addr) : Sp := fun vs H Q _ => ∃ (p : Addr) (r : Rw), vs = [.ref p] ∧ BeadAt C H p r ∧ ∀ t, H t = none → Q (.ref t) (upd H t (.tup (rowVals r)))
theorem ok_Bead_row (T : Tx K mg) : FnOk P w K mg base CX0 1 T.A_Bead_row T.fd_Bead_row ["self"] (spRow T.C_Bead) := by
  refine T.F_Bead_row.ok sc_Bead_row (fun vs H Q E h => ?_) (fun cdv A outer s H vs Q E hr h => ?_)
  · obtain ⟨p, r, rfl, ⟨dx, hp⟩, q⟩ := h
    rfl
  obtain ⟨p, r, rfl, ⟨dx, hp⟩, q⟩ := h
  refine ⟨_, (pss_one (ps_ret (pe_tup (pa_cons (pe_fld (pv 0) rfl) (pa_cons (pe_fld (pv 0) rfl) (pa_cons (pe_fld (pv 0) rfl) (pa_cons (pe_fld (pv 0) rfl) (pa_cons (pe_fld (pv 0) rfl) (pa_cons (pe_fld (pv 0) rfl) pa_nil))))))))), ?_⟩
  refine ⟨_, rfl, p, _, dx, _, _, rfl, hp, T.cl_Bead, T.n_Bead_number, bf_number r, ?_⟩
  refine ⟨_, rfl, p, _, dx, _, _, rfl, hp, T.cl_Bead, T.n_Bead_across, bf_across r, ?_⟩
  refine ⟨_, rfl, p, _, dx, _, _, rfl, hp, T.cl_Bead, T.n_Bead_weight, bf_weight r, ?_⟩
  refine ⟨_, rfl, p, _, dx, _, _, rfl, hp, T.cl_Bead, T.n_Bead_shade, bf_shade r, ?_⟩
  refine ⟨_, rfl, p, _, dx, _, _, rfl, hp, T.cl_Bead, T.n_Bead_form, bf_form r, ?_⟩
  refine ⟨_, rfl, p, _, dx, _, _, rfl, hp, T.cl_Bead, T.n_Bead_drilled, bf_drilled r, ?_⟩
  exact ⟨(by show 6 ≤ sizeLine; decide), fun t ht => q t ht⟩
def PM : Int → Prop := fun b => 0 ≤ b ∧ b < 2147483647
def spCell (K : PySem.W.Frag) : Sp := fun vs H Q _ => ∃ (a : Addr) (ns : List Int), vs = [.ref a, .int 0] ∧ SqL K H a (ns.map V.int) ∧ Q (.int (ns.headD 0)) H
theorem ok_cell_at (T : Tx K mg) : FnOk P w K mg base CX0 1 T.A_cell_at T.fd_cell_at ["_law_script", "_law_k"] (spCell K) := by
  refine T.F_cell_at.ok sc_cell_at (fun vs H Q E h => ?_) (fun cdv A outer s H vs Q E hr h => ?_)
  · obtain ⟨a, ns, rfl, hS, q⟩ := h
    rfl
  obtain ⟨a, ns, rfl, hS, q⟩ := h
  refine ⟨_, (pss_cons (ps_if (pt_cmpR op_lt (pv 1) (pe_callB call_len_seq (by rfl) T.z_len PySem.boot_len (pa_cons (pv 0) pa_nil)) (nomark _)) (pss_one (ps_ret (pe_ix ix_list (pv 0) (pv 1) (fun _ _ => rfl)))) pss_nil)
      (pss_one (ps_ret pe_int))), ?_⟩
  refine ⟨_, rfl, _, rfl, a, _, rfl, .inl hS, _, _, rfl, rfl, _, rfl, ?_⟩
  cases ns with
  | nil => exact iteF q
  | cons n r =>
    rw [decide_eq_true (show (0 : Int) < (((n :: r).map V.int).length : Int) by rw [List.length_map, List.length_cons]; omega)]
    exact iteT ⟨_, rfl, _, rfl, a, _, _, _, rfl, rfl, hS, atI_nat (j := 0) rfl, q⟩
def spDraws : Sp := fun vs H Q _ => ∃ (n : Int), vs = [.int n] ∧ ∀ (d : Addr) (H' : Hp), H d = none → Same H H' → Dr PM d 0 H' → Q (.ref d) H'
theorem ok_draws (T : Tx K mg) : FnOk P w K mg base CX0 1 T.A_draws T.fd_draws ["_law_cell"] (spDraws) := by
  refine T.F_draws.ok sc_draws (fun vs H Q E h => ?_) (fun cdv A outer s H vs Q E hr h => ?_)
  · obtain ⟨n, rfl, q⟩ := h
    rfl
  obtain ⟨n, rfl, q⟩ := h
  refine ⟨_, (pss_one (ps_ret (pe_lst (pa_cons (pe_op op_mul (pv 0) (pe_callTy call_int1 (by rfl) T.z_int (by decide +kernel) (pa_cons (pe_cmpR op_ge (pv 0) (pe_op op_pow pe_int pe_int) (nomark _)) pa_nil))) (pa_cons (pe_op op_mod (pv 0) pe_int) (pa_cons pe_int pa_nil)))))), ?_⟩
  refine ⟨_, rfl, _, rfl, _, _, rfl, rfl, ⟨by decide, by decide, by decide⟩, _, _, rfl, rfl, .inr ⟨_, rfl, _, _, rfl, rfl, .inr ?_, ?_⟩⟩
  · split <;> decide
  · refine ⟨_, rfl, _, _, rfl, rfl, (by show (0 : Int) < 2147483647; decide), (by show 3 ≤ sizeLine; decide), fun d hd => q d _ hd (same_upd hd) ⟨_, _, _, upd_same, ⟨Int.emod_nonneg _ (by decide), Int.emod_lt_of_pos _ (by decide)⟩, Int.le_refl _, Int.le_refl _⟩⟩
def spOne : Sp := fun vs H Q _ => ∃ (d : Addr) (m : Int) (n : Nat), vs = [.ref d, .int m] ∧ 0 < m ∧ m.natAbs.log2 < 9000 ∧ Dr PM d n H ∧ n ≤ 1000000 ∧
  ∀ (H' : Hp) (r : Int), 0 ≤ r → r < m → But d H H' → Dr PM d (n + 1) H' → Q (.int r) H'
theorem ok_one (T : Tx K mg) : FnOk P w K mg base CX0 1 T.A_one T.fd_one ["_law_draws_here", "_law_many"] (spOne) := by
  refine T.F_one.ok sc_one (fun vs H Q E h => ?_) (fun cdv A outer s H vs Q E hr h => ?_)
  · obtain ⟨d, m, n, rfl, hm, hl, ⟨a, b, c, hd, ⟨hb0, hb1⟩, hc0, hc1⟩, hn, q⟩ := h
    rfl
  obtain ⟨d, m, n, rfl, hm, hl, ⟨a, b, c, hd, ⟨hb0, hb1⟩, hc0, hc1⟩, hn, q⟩ := h
  refine ⟨_, (pss_cons (ps_if (pt_cmpR op_gt (pe_ix ix_list (pv 0) pe_int (fun _ _ => rfl)) pe_int (nomark _)) (pss_cons (ps_set (i := 2) sc_one.nd rfl (Or.inl rfl) (pe_op op_mod (pe_ix ix_list (pv 0) pe_int (fun _ _ => rfl)) (pv 1)))
      (pss_cons (ps_asg (pe_op op_fdivW (pe_ix ix_list (pv 0) pe_int (fun _ _ => rfl)) (pv 1)) (pg_sub (pv 0) pe_int set_list))
      (pss_one (ps_ret (pv 2))))) pss_nil)
      (pss_cons (ps_asg (pe_op op_add (pe_ix ix_list (pv 0) pe_int (fun _ _ => rfl)) pe_int) (pg_sub (pv 0) pe_int set_list))
      (pss_cons (ps_set (i := 3) sc_one.nd rfl (Or.inl rfl) (pe_op op_mod (pe_op op_pow (pe_op op_add (pe_op op_add (pe_ix ix_list (pv 0) pe_int (fun _ _ => rfl)) (pe_op op_mul pe_int (pe_ix ix_list (pv 0) pe_int (fun _ _ => rfl)))) pe_int) pe_int) pe_int))
      (pss_cons (ps_set (i := 3) sc_one.nd rfl (Or.inl rfl) (pe_op op_mod (pe_op op_mul (pv 3) (pe_op op_add (pe_op op_add (pe_op op_fdiv (pv 3) pe_int) pe_int) (pe_ix ix_list (pv 0) pe_int (fun _ _ => rfl)))) pe_int))
      (pss_one (ps_ret (pe_op op_mod (pe_op op_mod (pe_op op_mul (pv 3) (pe_op op_add (pe_op op_fdiv (pv 3) pe_int) pe_int)) pe_int) (pv 1)))))))), ?_⟩
  refine ⟨_, rfl, d, _, _, _, rfl, rfl, SqL.of hd, atI_nat (j := 0) rfl, _, _, rfl, rfl, _, rfl, ite2 (fun e => ?_) (fun e => ?_)⟩
  · refine ⟨_, rfl, d, _, _, _, rfl, rfl, SqL.of hd, atI_nat (j := 0) rfl, _, rfl, _, _, rfl, rfl, hm, ?_⟩
    refine ⟨_, rfl, d, _, _, _, rfl, rfl, SqL.of hd, atI_nat (j := 0) rfl, _, rfl, _, _, rfl, rfl, ⟨hm, hl⟩, ?_⟩
    refine ⟨_, rfl, d, _, _, 0, rfl, rfl, hd, rfl, ?_⟩
    exact ⟨_, rfl, q _ _ (Int.emod_nonneg _ (by omega)) (Int.emod_lt_of_pos _ hm) But.at_ ⟨_, _, _, upd_same, ⟨hb0, hb1⟩, hc0, by omega⟩⟩
  · refine ⟨_, rfl, d, _, _, _, rfl, rfl, SqL.of hd, atI_nat (j := 2) rfl, _, _, rfl, rfl, ?_⟩
    refine ⟨_, rfl, d, _, _, 2, rfl, rfl, hd, rfl, ?_⟩
    have hd' : (upd H d (.lst [.int a, .int b, .int (c + 1)])) d = some (.lst [.int a, .int b, .int (c + 1)]) := upd_same
    refine ⟨_, rfl, d, _, _, _, rfl, rfl, SqL.of hd', atI_nat (j := 1) rfl, _, rfl, d, _, _, _, rfl, rfl, SqL.of hd', atI_nat (j := 2) rfl, _, _, rfl, rfl, .inl ⟨by decide, by decide⟩, _, _, rfl, rfl, _, _, rfl, rfl, _, _, rfl, rfl, ⟨by decide, by decide, ?_⟩, _, _, rfl, rfl, (by show (0 : Int) < 2147483647; decide), ?_⟩
    · have e64 : (2 : Nat) ^ 64 = 18446744073709551616 := by decide
      rw [e64]
      omega
    · generalize hx : (b + 7919 * (c + 1) + 1) ^ (5 : Int).toNat % 2147483647 = x
      have hx0 : 0 ≤ x := by rw [← hx]; exact Int.emod_nonneg _ (by decide)
      have hx1 : x < 2147483647 := by rw [← hx]; exact Int.emod_lt_of_pos _ (by decide)
      have e64 : (2 : Int) ^ 64 = 18446744073709551616 := by decide
      refine ⟨_, rfl, _, rfl, _, _, rfl, rfl, ⟨by decide, by decide⟩, _, _, rfl, rfl, _, rfl, d, _, _, _, rfl, rfl, SqL.of hd', atI_nat (j := 2) rfl, _, _, rfl, rfl, _, _, rfl, rfl, .inl ⟨?_, ?_⟩, _, _, rfl, rfl, (by show (0 : Int) < 2147483629; decide), ?_⟩
      · rw [e64]; omega
      · rw [e64]; omega
      · generalize hy : x * (x / 1009 + 69621 + (c + 1)) % 2147483629 = y
        have hy0 : 0 ≤ y := by rw [← hy]; exact Int.emod_nonneg _ (by decide)
        have hy1 : y < 2147483629 := by rw [← hy]; exact Int.emod_lt_of_pos _ (by decide)
        refine ⟨_, rfl, _, rfl, _, _, rfl, rfl, ⟨by decide, by decide⟩, _, _, rfl, rfl, _, _, rfl, rfl, .inl ⟨?_, ?_⟩, _, _, rfl, rfl, (by show (0 : Int) < 2147483399; decide), _, rfl, _, _, rfl, rfl, hm, ?_⟩
        · rw [e64]; omega
        · rw [e64]; omega
        · exact q _ _ (Int.emod_nonneg _ (by omega)) (Int.emod_lt_of_pos _ hm) But.at_ ⟨_, _, _, upd_same, ⟨hb0, hb1⟩, by omega, by omega⟩
def spOf (K : PySem.W.Frag) : Sp := fun vs H Q _ => ∃ (d b : Addr) (n : Nat) (xs : List V), vs = [.ref d, .ref b] ∧ b ≠ d ∧ SqL K H b xs ∧ xs ≠ [] ∧ xs.length ≤ 1000 ∧ Dr PM d n H ∧ n ≤ 1000000 ∧
  ∀ (H' : Hp) (v : V), v ∈ xs → But d H H' → Dr PM d (n + 1) H' → Q v H'
theorem ok_of (T : Tx K mg) : FnOk P w K mg base CX0 2 T.A_of T.fd_of ["_law_draws_here", "_law_some_here"] (spOf K) := by
  refine T.F_of.ok sc_of (fun vs H Q E h => ?_) (fun cdv A outer s H vs Q E hr h => ?_)
  · obtain ⟨d, b, n, xs, rfl, hbd, hS, hne, hlen, dr, hn, q⟩ := h
    rfl
  obtain ⟨d, b, n, xs, rfl, hbd, hS, hne, hlen, dr, hn, q⟩ := h
  refine ⟨_, (pss_one (ps_ret (pe_ix ix_list (pv 1) (pe_call (ok_one T) (hr.mono (by decide)) (by rfl) T.g_one T.F_one.kp T.b_one .nil pass0 (pa_cons (pv 0) (pa_cons (pe_callB call_len_seq (by rfl) T.z_len PySem.boot_len (pa_cons (pv 1) pa_nil)) pa_nil))) (fun _ _ => rfl)))), ?_⟩
  have hl : 0 < (xs.length : Int) := by
    cases xs with
    | nil => exact absurd rfl hne
    | cons x r => rw [List.length_cons]; omega
  refine ⟨_, rfl, _, rfl, _, rfl, b, xs, rfl, .inl hS, d, _, n, rfl, hl, log_tiny hl (by omega), dr, hn, fun H' r h0 h1 bt dr' => ?_⟩
  obtain ⟨j, rfl⟩ : ∃ j : Nat, r = (j : Int) := ⟨r.toNat, by omega⟩
  have hj : j < xs.length := by omega
  exact ⟨b, xs, _, _, rfl, rfl, but_seq bt hbd hS, atI_nat (List.getElem?_eq_getElem hj), q H' _ (List.getElem_mem hj) bt dr'⟩
def spWord : Sp := fun vs H Q _ => ∃ (d : Addr) (n : Nat), vs = [.ref d] ∧ Dr PM d n H ∧ n ≤ 100000 ∧
  ∀ (H' : Hp) (z : Str), nm (.str z) = true → But d H H' → Dr PM d (n + 10) H' → Q (.str z) H'
theorem ok_word (T : Tx K mg) : FnOk P w K mg base CX0 2 T.A_word T.fd_word ["_law_draws_here"] (spWord) := by
  refine T.F_word.ok sc_word (fun vs H Q E h => ?_) (fun cdv A outer s H vs Q E hr h => ?_)
  · obtain ⟨d, n, rfl, dr, hn, q⟩ := h
    rfl
  obtain ⟨d, n, rfl, dr, hn, q⟩ := h
  refine ⟨_, (pss_cons (ps_set (i := 1) sc_word.nd rfl (Or.inr rfl) pe_str)
      (pss_one (ps_ret (pe_bm PySem.F.plainAttrs_str PySem.F.slot_str_join PySem.F.type_str_join mt_join pe_str (pa_cons (pe_lc (own := [("_law_k", 2)]) (g := gName 2) (tt := tYes) rfl sc_word.nd (pi_range1 (by rfl) T.z_range (pa_cons (pe_op op_add pe_int (pe_call (ok_one T) (hr.mono (by decide)) (by rfl) T.g_one T.F_one.kp T.b_one .nil pass0 (pa_cons (pv 0) (pa_cons pe_int pa_nil)))) pa_nil)) (blkOk_by (N := ["_law_draws_here", "_law_letters", "_law_k"]) (sc := defScope s_word) (by decide +kernel)) (fun _ _ _ _ _ => (pg_name (i := 2) sc_word.nd rfl (Or.inl rfl))) (fun _ _ _ _ _ => pts_nil) (fun _ _ _ _ _ => (pe_ix ix_str (pv 1) (pe_call (ok_one T) (hr.mono (by decide)) (by rfl) T.g_one T.F_one.kp T.b_one .nil pass0 (pa_cons (pv 0) (pa_cons pe_int pa_nil))) (fun _ _ => rfl)))) pa_nil))))), ?_⟩
  refine ⟨rfl, _, rfl, d, 8, n, rfl, by decide, log_tiny (by decide) (by decide), dr, by omega, fun H1 r h0 h1 b1 dr1 => ?_⟩
  refine ⟨_, _, rfl, rfl, _, rfl, by omega, by omega, fun D hD => lc_draw (d := d) (n := n + 1) (k := (1 + r).toNat) hD dr1 (by omega) lower ?_ ?_⟩
  · intro i H2 R C hi dr2 hR
    refine ⟨rfl, yesT ?_⟩
    refine ⟨_, rfl, _, rfl, d, 26, n + 1 + i, rfl, by decide, log_tiny (by decide) (by decide), dr2, by omega, fun H3 r2 g0 g1 b3 dr3 => ?_⟩
    obtain ⟨c, hc, hl⟩ := az_at g0 g1
    exact ⟨_, _, c, rfl, rfl, (by decide +kernel), hc, hR H3 c hl b3 dr3⟩
  · intro H' cs hl hp b2 dr2 e2
    refine ⟨_, D, cs.map (fun c => ⟨#[c]⟩), rfl, rfl, .inl (SqL.of (by rw [map_sg]; exact e2)), ?_, ?_⟩
    · rw [size_signs, List.length_map]
      show _ + _ * 0 ≤ _
      omega
    · refine q H' _ ?_ (b1.trans b2) (dr2.mono (by omega))
      have ez := join_text (y := "") rfl cs
      have lz := join_len (y := "") rfl cs
      generalize Txt.join ("" : Str) (cs.map fun c => (⟨#[c]⟩ : Str)) = z at ez lz
      show (decide (1 ≤ z.length) && decide (z.length ≤ 8) && z.cps.toList.all lower) = true
      rw [decide_eq_true (show 1 ≤ z.length by omega), decide_eq_true (show z.length ≤ 8 by omega), ez, Bool.true_and, Bool.true_and, List.all_eq_true]
      exact hp
theorem one_of {xs : List V} {v : V} (h : v ∈ xs) : v ∈ xs := h
def spSize : Sp := fun vs H Q _ => ∃ (d : Addr) (n : Nat), vs = [.ref d] ∧ Dr PM d n H ∧ n ≤ 100000 ∧
  ∀ (H' : Hp) (x : Int), 1 ≤ x → x ≤ 1000000 → But d H H' → Dr PM d (n + 3) H' → Q (.int x) H'
theorem ok_size (T : Tx K mg) : FnOk P w K mg base CX0 3 T.A_size T.fd_size ["_law_draws_here"] (spSize) := by
  refine T.F_size.ok sc_size (fun vs H Q E h => ?_) (fun cdv A outer s H vs Q E hr h => ?_)
  · obtain ⟨d, n, rfl, dr, hn, q⟩ := h
    rfl
  obtain ⟨d, n, rfl, dr, hn, q⟩ := h
  refine ⟨_, (pss_one (ps_ret (pe_call (ok_of T) (hr.mono (by decide)) (by rfl) T.g_of T.F_of.kp T.b_of .nil pass0 (pa_cons (pv 0) (pa_cons (pe_lst (pa_cons (pe_op op_add pe_int (pe_call (ok_one T) (hr.mono (by decide)) (by rfl) T.g_one T.F_one.kp T.b_one .nil pass0 (pa_cons (pv 0) (pa_cons pe_int pa_nil)))) (pa_cons (pe_op op_add pe_int (pe_call (ok_one T) (hr.mono (by decide)) (by rfl) T.g_one T.F_one.kp T.b_one .nil pass0 (pa_cons (pv 0) (pa_cons pe_int pa_nil)))) (pa_cons pe_int (pa_cons pe_int pa_nil))))) pa_nil))))), ?_⟩
  refine ⟨_, rfl, _, rfl, d, 9, n, rfl, by decide, log_tiny (by decide) (by decide), dr, by omega, fun H1 r1 a1 c1 b1 dr1 => ⟨_, _, rfl, rfl, ?_⟩⟩
  refine ⟨_, rfl, d, 1000000, n + 1, rfl, by decide, log_tiny (by decide) (by decide), dr1, by omega, fun H2 r2 a2 c2 b2 dr2 => ⟨_, _, rfl, rfl, ?_⟩⟩
  refine ⟨(by show 4 ≤ sizeLine; decide), fun l hl => ?_⟩
  have nl := dr2.ne hl
  refine ⟨d, l, n + 2, _, rfl, nl, SqL.of upd_same, by simp, by show 4 ≤ 1000; decide, dr2.upd nl, by omega, fun H4 v hv b4 dr4 => ?_⟩
  have bt : But d H H4 := (b1.trans b2).trans ((But.new hl).trans b4)
  have fin : ∀ x : Int, 1 ≤ x → x ≤ 1000000 → v = .int x → Q v H4 := fun x h0 h1 e => by
    rw [e]
    exact q H4 x h0 h1 bt dr4
  simp only [List.mem_cons, List.not_mem_nil, or_false] at hv
  rcases hv with e | e | e | e
  · exact fin _ (by omega) (by omega) e
  · exact fin _ (by omega) (by omega) e
  · exact fin _ (by decide) (by decide) e
  · exact fin _ (by decide) (by decide) e
/-- the six things that are drawn -/
def thingsV (r : Rw) : List V := [.int r.num, .int r.ac, .int r.we, .str r.sh, .str r.fo, .bl r.dr]
def GoodTh (r : Rw) : Prop := 1 ≤ r.num ∧ r.num ≤ 1000000000 ∧ 1 ≤ r.ac ∧ r.ac ≤ 1000000 ∧ 1 ≤ r.we ∧ r.we ≤ 1000000 ∧ nm (.str r.sh) = true ∧ nm (.str r.fo) = true
def spThings : Sp := fun vs H Q _ => ∃ (d : Addr) (n : Nat), vs = [.ref d] ∧ Dr PM d n H ∧ n ≤ 50000 ∧
  ∀ (H' : Hp) (t : Addr) (r : Rw), H' t = some (.tup (thingsV r)) → GoodTh r → H t = none → But d H H' → Dr PM d (n + 40) H' → Q (.ref t) H'
theorem ok_things (T : Tx K mg) : FnOk P w K mg base CX0 4 T.A_things T.fd_things ["_law_draws_here"] (spThings) := by
  refine T.F_things.ok sc_things (fun vs H Q E h => ?_) (fun cdv A outer s H vs Q E hr h => ?_)
  · obtain ⟨d, n, rfl, dr, hn, q⟩ := h
    rfl
  obtain ⟨d, n, rfl, dr, hn, q⟩ := h
  refine ⟨_, (pss_cons (ps_set (i := 1) sc_things.nd rfl (Or.inl rfl) (pe_call (ok_of T) (hr.mono (by decide)) (by rfl) T.g_of T.F_of.kp T.b_of .nil pass0 (pa_cons (pv 0) (pa_cons (pe_lst (pa_cons (pe_op op_add pe_int (pe_call (ok_one T) (hr.mono (by decide)) (by rfl) T.g_one T.F_one.kp T.b_one .nil pass0 (pa_cons (pv 0) (pa_cons pe_int pa_nil)))) (pa_cons (pe_op op_add pe_int (pe_call (ok_one T) (hr.mono (by decide)) (by rfl) T.g_one T.F_one.kp T.b_one .nil pass0 (pa_cons (pv 0) (pa_cons pe_int pa_nil)))) (pa_cons pe_int pa_nil)))) pa_nil))))
      (pss_cons (ps_set (i := 2) sc_things.nd rfl (Or.inl rfl) (pe_call (ok_of T) (hr.mono (by decide)) (by rfl) T.g_of T.F_of.kp T.b_of .nil pass0 (pa_cons (pv 0) (pa_cons (pe_lst (pa_cons (pe_call (ok_word T) (hr.mono (by decide)) (by rfl) T.g_word T.F_word.kp T.b_word .nil pass0 (pa_cons (pv 0) pa_nil)) (pa_cons pe_str (pa_cons pe_str pa_nil)))) pa_nil))))
      (pss_cons (ps_set (i := 3) sc_things.nd rfl (Or.inl rfl) (pe_call (ok_of T) (hr.mono (by decide)) (by rfl) T.g_of T.F_of.kp T.b_of .nil pass0 (pa_cons (pv 0) (pa_cons (pe_lst (pa_cons (pe_call (ok_word T) (hr.mono (by decide)) (by rfl) T.g_word T.F_word.kp T.b_word .nil pass0 (pa_cons (pv 0) pa_nil)) (pa_cons pe_str (pa_cons pe_str pa_nil)))) pa_nil))))
      (pss_one (ps_ret (pe_tup (pa_cons (pv 1) (pa_cons (pe_call (ok_size T) (hr.mono (by decide)) (by rfl) T.g_size T.F_size.kp T.b_size .nil pass0 (pa_cons (pv 0) pa_nil)) (pa_cons (pe_call (ok_size T) (hr.mono (by decide)) (by rfl) T.g_size T.F_size.kp T.b_size .nil pass0 (pa_cons (pv 0) pa_nil)) (pa_cons (pv 2) (pa_cons (pv 3) (pa_cons (pe_cmpR op_eq (pe_call (ok_one T) (hr.mono (by decide)) (by rfl) T.g_one T.F_one.kp T.b_one .nil pass0 (pa_cons (pv 0) (pa_cons pe_int pa_nil))) pe_int (nomark _)) pa_nil)))))))))))), ?_⟩
  refine ⟨_, rfl, _, rfl, d, 99, n, rfl, by decide, log_tiny (by decide) (by decide), dr, by omega, fun H1 r1 a1 c1 b1 dr1 => ⟨_, _, rfl, rfl, ?_⟩⟩
  refine ⟨_, rfl, d, 1000000000, n + 1, rfl, by decide, log_tiny (by decide) (by decide), dr1, by omega, fun H2 r2 a2 c2 b2 dr2 => ⟨_, _, rfl, rfl, ?_⟩⟩
  refine ⟨(by show 3 ≤ sizeLine; decide), fun l1 hl1 => ?_⟩
  have n1 := dr2.ne hl1
  refine ⟨d, l1, n + 2, _, rfl, n1, SqL.of upd_same, by simp, by show 3 ≤ 1000; decide, dr2.upd n1, by omega, fun H3 v1 hv1 b3 dr3 => ?_⟩
  obtain ⟨x, rfl, x1, x2⟩ : ∃ x : Int, v1 = .int x ∧ 1 ≤ x ∧ x ≤ 1000000000 := by
    simp only [List.mem_cons, List.not_mem_nil, or_false] at hv1
    rcases hv1 with e | e | e
    · exact ⟨_, e, by omega, by omega⟩
    · exact ⟨_, e, by omega, by omega⟩
    · exact ⟨_, e, by decide, by decide⟩
  have bt3 : But d H H3 := (b1.trans b2).trans ((But.new hl1).trans b3)
  refine ⟨_, rfl, _, rfl, d, n + 3, rfl, dr3, by omega, fun H4 z4 hz4 b4 dr4 => ?_⟩
  refine ⟨(by show 3 ≤ sizeLine; decide), fun l2 hl2 => ?_⟩
  have n2 := dr4.ne hl2
  refine ⟨d, l2, n + 13, _, rfl, n2, SqL.of upd_same, by simp, by show 3 ≤ 1000; decide, dr4.upd n2, by omega, fun H5 v2 hv2 b5 dr5 => ?_⟩
  obtain ⟨sh, rfl, hsh⟩ : ∃ z : Str, v2 = .str z ∧ nm (.str z) = true := by
    simp only [List.mem_cons, List.not_mem_nil, or_false] at hv2
    rcases hv2 with e | e | e
    · exact ⟨_, e, hz4⟩
    · exact ⟨_, e, by decide +kernel⟩
    · exact ⟨_, e, by decide +kernel⟩
  have bt5 : But d H H5 := (bt3.trans b4).trans ((But.new hl2).trans b5)
  refine ⟨_, rfl, _, rfl, d, n + 14, rfl, dr5, by omega, fun H6 z6 hz6 b6 dr6 => ?_⟩
  refine ⟨(by show 3 ≤ sizeLine; decide), fun l3 hl3 => ?_⟩
  have n3 := dr6.ne hl3
  refine ⟨d, l3, n + 24, _, rfl, n3, SqL.of upd_same, by simp, by show 3 ≤ 1000; decide, dr6.upd n3, by omega, fun H7 v3 hv3 b7 dr7 => ?_⟩
  obtain ⟨fo, rfl, hfo⟩ : ∃ z : Str, v3 = .str z ∧ nm (.str z) = true := by
    simp only [List.mem_cons, List.not_mem_nil, or_false] at hv3
    rcases hv3 with e | e | e
    · exact ⟨_, e, hz6⟩
    · exact ⟨_, e, by decide +kernel⟩
    · exact ⟨_, e, by decide +kernel⟩
  have bt7 : But d H H7 := (bt5.trans b6).trans ((But.new hl3).trans b7)
  refine ⟨_, rfl, _, rfl, d, n + 25, rfl, dr7, by omega, fun H8 y a8 c8 b8 dr8 => ?_⟩
  refine ⟨_, rfl, d, n + 28, rfl, dr8, by omega, fun H9 g a9 c9 b9 dr9 => ?_⟩
  refine ⟨_, rfl, _, rfl, _, rfl, d, 2, n + 31, rfl, by decide, log_tiny (by decide) (by decide), dr9, by omega, fun H10 r10 a10 c10 b10 dr10 => ?_⟩
  refine ⟨rfl, (by show 6 ≤ sizeLine; decide), fun t ht => ?_⟩
  have nt := dr10.ne ht
  have bt : But d H H10 := ((bt7.trans b8).trans b9).trans b10
  exact q _ t ⟨x, y, g, sh, fo, decide (V.int r10 = V.int 1)⟩ upd_same ⟨x1, x2, a8, c8, a9, c9, hsh, hfo⟩ (bt.free nt ht) (bt.trans (But.new ht)) ((dr10.upd nt).mono (by omega))
end
end KB
namespace KB
open PySem PySem.Spec PyProof.Rows L2 KA LamX
section
variable {P : Program} {w : World} {K : PySem.W.Frag} {mg : Str → Option Value} {base : Heap}
/-- the beads of a list; the rows of a list -/
def BdL (C : Addr) (H : Hp) (xs : List V) (rs : List Rw) : Prop := xs.length = rs.length ∧ ∀ (i : Nat) r, rs[i]? = some r → ∃ p, xs[i]? = some (.ref p) ∧ BeadAt C H p r
def RwL (H : Hp) (xs : List V) (rs : List Rw) : Prop := xs.length = rs.length ∧ ∀ (i : Nat) r, rs[i]? = some r → ∃ t, xs[i]? = some (.ref t) ∧ H t = some (.tup (rowVals r))
theorem BeadAt.nl {C : Addr} {H H' : Hp} {p : Addr} {r : Rw} (h : BeadAt C H p r) (s : NL H H') : BeadAt C H' p r := by
  obtain ⟨dx, h⟩ := h
  exact ⟨dx, s _ _ (fun xs z => by cases z) h⟩
theorem BdL.nl {C : Addr} {H H' : Hp} {xs : List V} {rs : List Rw} (h : BdL C H xs rs) (s : NL H H') : BdL C H' xs rs := ⟨h.1, fun i r hr => by
  obtain ⟨p, h1, h2⟩ := h.2 i r hr
  exact ⟨p, h1, h2.nl s⟩⟩
theorem RwL.nl {H H' : Hp} {xs : List V} {rs : List Rw} (h : RwL H xs rs) (s : NL H H') : RwL H' xs rs := ⟨h.1, fun i r hr => by
  obtain ⟨p, h1, h2⟩ := h.2 i r hr
  exact ⟨p, h1, s _ _ (fun xs z => by cases z) h2⟩⟩
theorem BdL.snoc {C : Addr} {H : Hp} {xs : List V} {rs : List Rw} {p : Addr} {r : Rw} (h : BdL C H xs rs) (hp : BeadAt C H p r) : BdL C H (xs ++ [.ref p]) (rs ++ [r]) := by
  refine ⟨by rw [List.length_append, List.length_append, h.1]; rfl, fun i z hz => ?_⟩
  by_cases hi : i < rs.length
  · rw [List.getElem?_append_left hi] at hz
    obtain ⟨p', h1, h2⟩ := h.2 i z hz
    exact ⟨p', by rw [List.getElem?_append_left (by rw [h.1]; exact hi)]; exact h1, h2⟩
  · rw [List.getElem?_append_right (by omega)] at hz
    have hlt := (List.getElem?_eq_some_iff.mp hz).1
    rw [List.length_singleton] at hlt
    have e : i = rs.length := by omega
    subst e
    rw [Nat.sub_self] at hz
    cases hz
    exact ⟨p, by rw [← h.1, List.getElem?_append_right (Nat.le_refl _), Nat.sub_self]; rfl, hp⟩
theorem RwL.snoc {H : Hp} {xs : List V} {rs : List Rw} {p : Addr} {r : Rw} (h : RwL H xs rs) (hp : H p = some (.tup (rowVals r))) : RwL H (xs ++ [.ref p]) (rs ++ [r]) := by
  refine ⟨by rw [List.length_append, List.length_append, h.1]; rfl, fun i z hz => ?_⟩
  by_cases hi : i < rs.length
  · rw [List.getElem?_append_left hi] at hz
    obtain ⟨p', h1, h2⟩ := h.2 i z hz
    exact ⟨p', by rw [List.getElem?_append_left (by rw [h.1]; exact hi)]; exact h1, h2⟩
  · rw [List.getElem?_append_right (by omega)] at hz
    have hlt := (List.getElem?_eq_some_iff.mp hz).1
    rw [List.length_singleton] at hlt
    have e : i = rs.length := by omega
    subst e
    rw [Nat.sub_self] at hz
    cases hz
    exact ⟨p, by rw [← h.1, List.getElem?_append_right (Nat.le_refl _), Nat.sub_self]; rfl, hp⟩
theorem name_short {z : Str} (h : nm (.str z) = true) : Sh (.str z) := fun y e => by
  cases e
  exact short_name h
theorem bead_made {K : PySem.W.Frag} {C CB : Addr} {r : Rw} (g : GoodRw r) {H : Hp} {x dx : Addr} (hx : H x = none) (hd : H dx = none) (hne : dx ≠ x) {Q : Hp → Prop} {E : XK} (q : ∀ H', Same H H' → BeadAt C H' x r → Q H') :
    spBeadX K C CB (.ref x :: thingsV r) (upd (upd H dx (.own x)) x (.ins C dx [])) (fun v H' => v = .non ∧ Q H') E := by
  have s0 : Same H (upd (upd H dx (.own x)) x (.ins C dx [])) := fun b o z => by rw [upd_ne (ne_of_none z hx), upd_ne (ne_of_none z hd)]; exact z
  have e : asRw (.int r.num) (.int r.ac) (.int r.we) (.str r.sh) (.str r.fo) (.bl r.dr) = some r := asRw_good g
  obtain ⟨_, _, _, g1, g2⟩ := id g
  refine ⟨x, dx, _, _, _, _, _, _, rfl, upd_same, .int _, .int _, .int _, .str _, .str _, .bl _, name_short g1, name_short g2, fun u hu H' hR k => ⟨rfl, ?_⟩, fun hu => by rw [e] at hu; cases hu⟩
  have : u = r := Option.some.inj (hu.symm.trans e)
  subst this
  exact q H' (fun b o z => k b o (s0 b o z) (ne_of_none z hx)) hR
def spBeadOf (C : Addr) : Sp := fun vs H Q _ => ∃ (t : Addr) (r : Rw), vs = [.ref t] ∧ H t = some (.tup (rowVals r)) ∧ GoodRw r ∧ ∀ (H' : Hp) (p : Addr), Same H H' → BeadAt C H' p r → Q (.ref p) H'
theorem ok_bead (T : Tx K mg) : FnOk P w K mg base CX0 6 T.A_bead T.fd_bead ["_law_things_here"] (spBeadOf T.C_Bead) := by
  refine T.F_bead.ok sc_bead (fun vs H Q E h => ?_) (fun cdv A outer s H vs Q E hr h => ?_)
  · obtain ⟨p, r, rfl, hp, hg, q⟩ := h
    rfl
  obtain ⟨p, r, rfl, hp, hg, q⟩ := h
  refine ⟨_, (pss_one (ps_ret (pe_make T.mk_Bead (ok_Bead_init T) (hr.mono (by decide)) (by rfl) T.g_Bead T.b_Bead_init .nil passF (pa_cons (pe_ix ix_tup (pv 0) pe_int (fun _ _ => rfl)) (pa_cons (pe_ix ix_tup (pv 0) pe_int (fun _ _ => rfl)) (pa_cons (pe_ix ix_tup (pv 0) pe_int (fun _ _ => rfl)) (pa_cons (pe_ix ix_tup (pv 0) pe_int (fun _ _ => rfl)) (pa_cons (pe_ix ix_tup (pv 0) pe_int (fun _ _ => rfl)) (pa_cons (pe_ix ix_tup (pv 0) pe_int (fun _ _ => rfl)) pa_nil))))))))), ?_⟩
  have hp : SqT K H p (rowVals r) := .inl (.inl hp)
  refine ⟨_, rfl, p, _, _, _, rfl, rfl, hp, atI_nat (j := 0) rfl, _, rfl, p, _, _, _, rfl, rfl, hp, atI_nat (j := 1) rfl, _, rfl, p, _, _, _, rfl, rfl, hp, atI_nat (j := 2) rfl, _, rfl, p, _, _, _, rfl, rfl, hp, atI_nat (j := 3) rfl, _, rfl, p, _, _, _, rfl, rfl, hp, atI_nat (j := 4) rfl, _, rfl, p, _, _, _, rfl, rfl, hp, atI_nat (j := 5) rfl, ?_⟩
  intro x dx nx ndx nex
  exact bead_made hg nx ndx nex fun H' s' hB => q H' x s' hB
def keyVals (r : Rw) : List V := [.int r.ac, .int r.we, .str r.sh, .str r.fo, .bl r.dr, .int r.num]
def keyD (r : Rw) : PyData := .tuple [.int r.ac, .int r.we, .str r.sh, .str r.fo, .bool r.dr, .int r.num]
def spKeyB (C : Addr) : Sp := fun vs H Q _ => ∃ (p : Addr) (r : Rw), vs = [.ref p] ∧ BeadAt C H p r ∧ ∀ t, H t = none → Q (.ref t) (upd H t (.tup (keyVals r)))
theorem ok_Bead_key (T : Tx K mg) : FnOk P w K mg base CX0 1 T.A_Bead_key T.fd_Bead_key ["self"] (spKeyB T.C_Bead) := by
  refine T.F_Bead_key.ok sc_Bead_key (fun vs H Q E h => ?_) (fun cdv A outer s H vs Q E hr h => ?_)
  · obtain ⟨p, r, rfl, ⟨dx, hp⟩, q⟩ := h
    rfl
  obtain ⟨p, r, rfl, ⟨dx, hp⟩, q⟩ := h
  refine ⟨_, (pss_one (ps_ret (pe_tup (pa_cons (pe_fld (pv 0) rfl) (pa_cons (pe_fld (pv 0) rfl) (pa_cons (pe_fld (pv 0) rfl) (pa_cons (pe_fld (pv 0) rfl) (pa_cons (pe_fld (pv 0) rfl) (pa_cons (pe_fld (pv 0) rfl) pa_nil))))))))), ?_⟩
  exact ⟨_, rfl, p, _, dx, _, _, rfl, hp, T.cl_Bead, T.n_Bead_across, bf_across r, _, rfl, p, _, dx, _, _, rfl, hp, T.cl_Bead, T.n_Bead_weight, bf_weight r, _, rfl, p, _, dx, _, _, rfl, hp, T.cl_Bead, T.n_Bead_shade, bf_shade r, _, rfl, p, _, dx, _, _, rfl, hp, T.cl_Bead, T.n_Bead_form, bf_form r, _, rfl, p, _, dx, _, _, rfl, hp, T.cl_Bead, T.n_Bead_drilled, bf_drilled r, _, rfl, p, _, dx, _, _, rfl, hp, T.cl_Bead, T.n_Bead_number, bf_number r, (by show 6 ≤ sizeLine; decide), q⟩
def DKey (C : Addr) : V → PyData → Hp → Prop := fun y k H => ∃ (p : Addr) (r : Rw), y = .ref p ∧ BeadAt C H p r ∧ k = keyD r
theorem monKey {C : Addr} : ∀ x k H H', Ext H H' → DKey C x k H → DKey C x k H' := fun x k H H' e d => by
  obtain ⟨p, r, h1, h2, h3⟩ := d
  exact ⟨p, r, h1, h2.nl (NL.of e), h3⟩
theorem kfs_key (r : Rw) : KFs (keyVals r) [.int r.ac, .int r.we, .str r.sh, .str r.fo, .bool r.dr, .int r.num] := .cons (.int _) (.cons (.int _) (.cons (.str _) (.cons (.str _) (.cons (.bl _) (.cons (.int _) .nil)))))
theorem impKey (T : Tx K mg) : ∀ y k H, DKey T.C_Bead y k H → tMeth T.C_Bead "key" (spKeyB T.C_Bead) [] E0 (tVar 0) tNil (L2.start ["bead"] [y]) H fun z H' => Ext H H' ∧ KD K H' z k := by
  rintro y k H ⟨p, r, rfl, ⟨dx, hp⟩, rfl⟩
  refine ⟨_, rfl, p, dx, _, rfl, hp, bf_no r (by decide +kernel) (by decide +kernel) (by decide +kernel) (by decide +kernel) (by decide +kernel) (by decide +kernel), p, r, rfl, ⟨dx, hp⟩, fun t ht => ⟨Ext.upd ht, .tup (.inl (.inl upd_same)) (kfs_key r)⟩⟩
theorem BeadAt.exn {C : Addr} {H H' : Hp} {p : Addr} {r : Rw} (h : BeadAt C H p r) (s : ExtN H H') : BeadAt C H' p r := by
  obtain ⟨dx, h⟩ := h
  exact ⟨dx, s _ _ h fun ps z => by cases z⟩
theorem BdL.exn {C : Addr} {H H' : Hp} {xs : List V} {rs : List Rw} (h : BdL C H xs rs) (s : ExtN H H') : BdL C H' xs rs := ⟨h.1, fun i r hr => by
  obtain ⟨p, h1, h2⟩ := h.2 i r hr
  exact ⟨p, h1, h2.exn s⟩⟩
theorem RwL.exn {H H' : Hp} {xs : List V} {rs : List Rw} (h : RwL H xs rs) (s : ExtN H H') : RwL H' xs rs := ⟨h.1, fun i r hr => by
  obtain ⟨p, h1, h2⟩ := h.2 i r hr
  exact ⟨p, h1, s _ _ h2 fun ps z => by cases z⟩⟩
theorem lst_exn {H H' : Hp} {a : Addr} {xs : List V} (s : ExtN H H') (h : H a = some (.lst xs)) : H' a = some (.lst xs) := s _ _ h fun ps z => by cases z
/-- a list of beads by its pairs -/
theorem bdl_of {C : Addr} {H : Hp} {zs : List (V × Rw)} (h : ∀ z ∈ zs, ∃ p, z.1 = .ref p ∧ BeadAt C H p z.2) : BdL C H (zs.map Prod.fst) (zs.map Prod.snd) := by
  refine ⟨by rw [List.length_map, List.length_map], fun i r hr => ?_⟩
  rw [List.getElem?_map] at hr
  cases e : zs[i]? with
  | none => rw [e] at hr; cases hr
  | some z =>
    rw [e] at hr
    cases hr
    obtain ⟨p, h1, h2⟩ := h z (List.mem_of_getElem? e)
    exact ⟨p, by rw [List.getElem?_map, e]; exact congrArg some h1, h2⟩
theorem bdl_zip {C : Addr} {H : Hp} {xs : List V} {rs : List Rw} (h : BdL C H xs rs) : ∀ z ∈ xs.zip rs, ∃ p, z.1 = .ref p ∧ BeadAt C H p z.2 := fun z hz => by
  obtain ⟨i, hi⟩ := List.getElem?_of_mem hz
  rw [List.getElem?_zip_eq_some] at hi
  obtain ⟨p, h1, h2⟩ := h.2 i _ hi.2
  rw [hi.1] at h1
  exact ⟨p, Option.some.inj h1, h2⟩
/-- beads told in order -/
noncomputable def ordR (rs : List Rw) : List Rw := rs.mergeSort (PySem.W.dataLe false keyD)
theorem srt_key {C : Addr} {H : Hp} {xs : List V} {rs : List Rw} (h : BdL C H xs rs) : BdL C H (srtV xs (rs.map keyD)) (ordR rs) := by
  have e1 : srtV xs (rs.map keyD) = ((xs.zip rs).mergeSort (PySem.W.dataLe false fun p : V × Rw => keyD p.2)).map Prod.fst := by
    unfold srtV
    have : xs.zip (rs.map keyD) = (xs.zip rs).map fun p => (p.1, keyD p.2) := by
      rw [List.zip_map_right]
      rfl
    have m := List.map_mergeSort (l := xs.zip rs) (f := fun p : V × Rw => (p.1, keyD p.2)) (r := PySem.W.dataLe false fun p : V × Rw => keyD p.2) (s := PySem.W.dataLe false fun p : V × PyData => p.2) (fun a _ b _ => rfl)
    rw [this, ← m, List.map_map]
    rfl
  have e2 : ordR rs = ((xs.zip rs).mergeSort (PySem.W.dataLe false fun p : V × Rw => keyD p.2)).map Prod.snd := by
    unfold ordR
    have m := List.map_mergeSort (l := xs.zip rs) (f := fun p : V × Rw => p.2) (r := PySem.W.dataLe false fun p : V × Rw => keyD p.2) (s := PySem.W.dataLe false keyD) (fun a _ b _ => rfl)
    have e : (xs.zip rs).map (fun p : V × Rw => p.2) = rs := List.map_snd_zip (by rw [h.1]; exact Nat.le_refl _)
    rw [e] at m
    exact m.symm
  rw [e1, e2]
  refine bdl_of fun z hz => ?_
  exact bdl_zip h z ((List.mergeSort_perm _ _).mem_iff.mp hz)
theorem alike_key (rs : List Rw) : PySem.W.AllAlike (rs.map keyD) := fun d hd d' hd' => by
  obtain ⟨a, _, rfl⟩ := List.mem_map.mp hd
  obtain ⟨b, _, rfl⟩ := List.mem_map.mp hd'
  rfl
theorem sortable_key (rs : List Rw) : PySem.W.Sortable (rs.map keyD) := .inl fun d hd => by
  obtain ⟨a, _, rfl⟩ := List.mem_map.mp hd
  exact ⟨_, _, rfl⟩
def spOrder (C : Addr) (Tb : List (Addr × Str)) : Sp := fun vs H Q _ => ∃ (b : Addr) (xs : List V) (rs : List Rw), vs = [.ref b] ∧ H b = some (.lst xs) ∧ BdL C H xs rs ∧ xs.length ≤ 1000 ∧ Tabs Tb H ∧
  ∀ (H' : Hp) (l : Addr) (ys : List V), ExtN H H' → Tabs Tb H' → (∀ b o, H b = some o → (∀ ps, o ≠ .tbl ps) → b ≠ l) → H' l = some (.lst ys) → BdL C H' ys (ordR rs) → Q (.ref l) H'
theorem ok_in_order (T : Tx K mg) (TB : TBs T base) : FnOk P w K mg base CX0 6 T.A_in_order T.fd_in_order ["beads"] (spOrder T.C_Bead (lamT T)) := by
  refine okC T.F_in_order T.cd_in_order sc_in_order (fun vs H Q E h => ?_) (fun A outer s H vs Q E hr h => ?_)
  · obtain ⟨b, xs, rs, rfl, hb, hB, hlen, hT, q⟩ := h
    rfl
  obtain ⟨b, xs, rs, rfl, hb, hB, hlen, hT, q⟩ := h
  refine ⟨_, (pss_one (ps_ret (pe_sortLam (n := 2) (T := lamT T) (N := ["bead"]) (a := "bead") (D := DKey T.C_Bead) (by rfl) T.z_sorted (pa_cons (pv 0) pa_nil) TB.t_in_order rfl (List.mem_singleton.mpr rfl) (fun p hp _ => by rw [List.mem_singleton.mp hp] <;> rfl) ⟨rfl, rfl, rfl, by decide +kernel, rfl, by decide +kernel, by decide +kernel⟩ (fun f A outer s H cdv hr => (pe_meth0 (pv 0) T.cl_Bead T.m_Bead_key (ok_Bead_key T) (hr.mono (by decide)) T.b_Bead_key .nil pass0)) (impKey T) monKey (hr.mono (by decide))))), ?_⟩
  refine ⟨_, rfl, hT, fun H1 f c' eN T1 hf hc => ?_⟩
  have hB1 := hB.exn eN
  refine ⟨b, f, xs, rs.map keyD, rfl, rfl, SqL.of (lst_exn eN hb), small1000 hlen, by rw [List.length_map, hB.1], alike_key rs, sortable_key rs, fun d hd => ?_, fun i x k hx hk => ?_, fun H2 l x2 el hl => ?_⟩
  · obtain ⟨a, _, rfl⟩ := List.mem_map.mp hd
    show PyData.depth (.tuple _) ≤ 8
    simp [PyData.depth, PyData.depthAll]
  · rw [List.getElem?_map] at hk
    cases e : rs[i]? with
    | none => rw [e] at hk; cases hk
    | some r =>
      rw [e] at hk
      cases hk
      obtain ⟨p, h1, h2⟩ := hB1.2 i r e
      rw [hx] at h1
      cases h1
      exact ⟨c', hf, hc, p, r, rfl, h2, rfl⟩
  · exact q H2 l _ (eN.trans (ExtN.of x2)) (T1.ext x2) (fun c o h n => ne_of_none (eN c o h n) hl) el (srt_key (hB1.nl (NL.of x2)))
end
end KB
namespace KB
open PySem PySem.Spec PyProof.Rows L2 KA LamX
section
variable {P : Program} {w : World} {K : PySem.W.Frag} {mg : Str → Option Value} {base : Heap}
theorem But.nl6 {d : Addr} {n : Nat} {H H' : Hp} (b : But d H H') (dr : Dr PM d n H) : NL H H' := fun c o hn h => b c o (fun z => by
  obtain ⟨x, y, k, e, _⟩ := dr
  rw [z, e] at h
  exact hn _ (Option.some.inj h).symm) h
theorem whl_mk {i lo hi : Int} (h1 : lo ≤ i) (h2 : i ≤ hi) : whl (.int i) lo hi = true := by
  show (decide (lo ≤ i) && decide (i ≤ hi)) = true
  rw [decide_eq_true h1, decide_eq_true h2]
  rfl
theorem goodTh6 {r : Rw} (h : GoodTh r) : GoodRw r := by
  obtain ⟨h1, h2, h3, h4, h5, h6, h7, h8⟩ := h
  exact ⟨whl_mk h1 h2, whl_mk h3 h4, whl_mk h5 h6, h7, h8⟩
theorem RwL.mem {H : Hp} {xs : List V} {rs : List Rw} {v : V} (h : RwL H xs rs) (hv : v ∈ xs) : ∃ t r, v = .ref t ∧ r ∈ rs ∧ H t = some (.tup (rowVals r)) := by
  obtain ⟨i, hi, rfl⟩ := List.getElem_of_mem hv
  have hir : i < rs.length := by rw [← h.1]; exact hi
  obtain ⟨t, e, ht⟩ := h.2 i _ (List.getElem?_eq_getElem hir)
  rw [List.getElem?_eq_getElem hi] at e
  exact ⟨t, _, Option.some.inj e, List.getElem_mem hir, ht⟩
def tailV (r : Rw) : List V := [.int r.ac, .int r.we, .str r.sh, .str r.fo, .bl r.dr]
theorem cut_tail (r : Rw) : cutV (rowVals r) (some 1) none = tailV r := rfl
def numd (v : Int) (r : Rw) : Rw := ⟨v, r.ac, r.we, r.sh, r.fo, r.dr⟩
theorem numd_at {H : Hp} {u : Addr} {v : Int} {r : Rw} : upd H u (.tup ([V.int v] ++ cutV (rowVals r) (some 1) none)) u = some (.tup (rowVals (numd v r))) := upd_same
theorem numd_good {v : Int} {r : Rw} (h1 : 1 ≤ v) (h2 : v ≤ 1000000000) (g : GoodRw r) : GoodRw (numd v r) := ⟨whl_mk h1 h2, g.2.1, g.2.2.1, g.2.2.2.1, g.2.2.2.2⟩
def LN (fi : Int) (n : Nat) (rs : List Rw) : Prop := rs.length = n ∧ ∀ (j : Nat) r, rs[j]? = some r → r.num = 1 + (fi + 37 * (0 + (j : Int))) % 1009
theorem LN.snoc {fi : Int} {k : Nat} {rs : List Rw} {r : Rw} (h : LN fi k rs) : LN fi (k + 1) (rs ++ [numd (1 + (fi + 37 * (0 + (k : Int))) % 1009) r]) := by
  refine ⟨by rw [List.length_append, h.1]; rfl, fun j z hz => ?_⟩
  by_cases hj : j < rs.length
  · rw [List.getElem?_append_left hj] at hz
    exact h.2 j z hz
  · rw [List.getElem?_append_right (by omega)] at hz
    have hlt := (List.getElem?_eq_some_iff.mp hz).1
    rw [List.length_singleton] at hlt
    have e : j = rs.length := by omega
    subst e
    rw [Nat.sub_self] at hz
    cases hz
    rw [h.1]
    rfl
def spSome : Sp := fun vs H Q _ => ∃ (d : Addr) (n m : Nat), vs = [.ref d, .int (m : Int)] ∧ Dr PM d n H ∧ n ≤ 1000 ∧ m ≤ 20 ∧
  ∀ (H' : Hp) (l : Addr) (xs : List V) (rs : List Rw) (fi : Int), H l = none → l ≠ d → H' l = some (.lst xs) → RwL H' xs rs → LN fi m rs → (∀ r ∈ rs, GoodRw r) → But d H H' → Dr PM d (n + 3000) H' → Q (.ref l) H'
theorem ok_some (T : Tx K mg) : FnOk P w K mg base CX0 7 T.A_some T.fd_some ["_law_draws_here", "_law_many"] (spSome) := by
  refine T.F_some.ok sc_some (fun vs H Q E h => ?_) (fun cdv A outer s H vs Q E hr h => ?_)
  · obtain ⟨d, n, m, rfl, dr, hn, hm, q⟩ := h
    rfl
  obtain ⟨d, n, m, rfl, dr, hn, hm, q⟩ := h
  refine ⟨_, (pss_cons (ps_set (i := 2) sc_some.nd rfl (Or.inl rfl) (pe_lst pa_nil))
      (pss_cons (ps_set (i := 3) sc_some.nd rfl (Or.inl rfl) (pe_call (ok_one T) (hr.mono (by decide)) (by rfl) T.g_one T.F_one.kp T.b_one .nil pass0 (pa_cons (pv 0) (pa_cons pe_int pa_nil))))
      (pss_cons (ps_for PassesOwn.never rfl (pi_range1 (by rfl) T.z_range (pa_cons (pv 1) pa_nil)) (pg_name (i := 4) sc_some.nd rfl (Or.inl rfl))
        (pss_cons (ps_set (i := 5) sc_some.nd rfl (Or.inl rfl) (pe_call (ok_things T) (hr.mono (by decide)) (by rfl) T.g_things T.F_things.kp T.b_things .nil pass0 (pa_cons (pv 0) pa_nil)))
      (pss_cons (ps_if (PW.pt (pw_and (pt_cmpR (op_neB (rcB_list true monB_flat eqB_flat) (hr.mono (by decide))) (pv 2) (pe_lst pa_nil) (nomark _)) (pw_and1 (pt_cmpR op_eq (pe_call (ok_one T) (hr.mono (by decide)) (by rfl) T.g_one T.F_one.kp T.b_one .nil pass0 (pa_cons (pv 0) (pa_cons pe_int pa_nil))) pe_int (nomark _))))) (pss_cons (ps_set (i := 5) sc_some.nd rfl (Or.inl rfl) (pe_call (ok_of T) (hr.mono (by decide)) (by rfl) T.g_of T.F_of.kp T.b_of .nil pass0 (pa_cons (pv 0) (pa_cons (pv 2) pa_nil))))
      (pss_cons (ps_set (i := 6) sc_some.nd rfl (Or.inl rfl) (pe_op op_add pe_int (pe_call (ok_one T) (hr.mono (by decide)) (by rfl) T.g_one T.F_one.kp T.b_one .nil pass0 (pa_cons (pv 0) (pa_cons pe_int pa_nil)))))
      (pss_one (ps_if (pt_cmpR op_lt (pv 6) pe_int (nomark _)) (pss_one (ps_set (i := 5) sc_some.nd rfl (Or.inl rfl) (pe_op op_catA (pe_op op_catA (pe_slice sl_tupA (pv 5) po_none (po_some (pv 6))) (pe_tup (pa_cons (pe_ix ix_tup (pe_call (ok_things T) (hr.mono (by decide)) (by rfl) T.g_things T.F_things.kp T.b_things .nil pass0 (pa_cons (pv 0) pa_nil)) (pv 6) (fun _ _ => rfl)) pa_nil))) (pe_slice sl_tupA (pv 5) (po_some (pe_op op_add (pv 6) pe_int)) po_none)))) pss_nil)))) pss_nil)
      (pss_one (ps_expr (pe_bm PySem.F.plainAttrs_list PySem.F.slot_list_append PySem.F.type_list_append mt_append (pv 2) (pa_cons (pe_op op_catA (pe_tup (pa_cons (pe_op op_add pe_int (pe_op op_mod (pe_op op_add (pv 3) (pe_op op_mul pe_int (pv 4))) pe_int)) pa_nil)) (pe_slice sl_tupA (pv 5) (po_some pe_int) po_none)) pa_nil)))))))
      (pss_one (ps_ret (pv 2)))))), ?_⟩
  refine ⟨(by show 0 ≤ sizeLine; decide), fun l hl => ?_⟩
  have z0 := same_upd hl (o := .lst [])
  have nl : l ≠ d := dr.ne hl
  refine ⟨_, rfl, d, 1000, n, rfl, by decide, log_tiny (by decide) (by decide), dr.same z0, by omega, fun H0 fi a0 c0 b0 dr0 => ?_⟩
  refine ⟨_, rfl, _, rfl, by omega, by omega, for_range (lo := 0) (n := (m : Int).toNat) (fun i σ H' => ∃ w4 w5 w6 xs rs, σ = [some (.ref d), some (.int (m : Int)), some (.ref l), some (.int fi), w4, w5, w6] ∧ H' l = some (.lst xs) ∧ RwL H' xs rs ∧ LN fi i rs ∧ (∀ r ∈ rs, GoodRw r) ∧ But d H H' ∧ Dr PM d (n + 1 + 100 * i) H') ⟨_, _, _, [], [], rfl, b0 _ _ nl upd_same, ⟨rfl, fun i r h => by simp at h⟩, ⟨rfl, fun i r h => by simp at h⟩, (fun r h => by cases h), (But.of z0).trans b0, dr0⟩ ?_ ?_⟩
  · rintro k σ H1 hk ⟨w4, w5, w6, xs, rs, rfl, el, hRw, lrs, hG, bt, dr1⟩
    have hk : k ≤ m := by omega
    have nv1 : 1 ≤ (1 + (fi + 37 * (0 + (k : Int))) % 1009) := by omega
    have nv2 : (1 + (fi + 37 * (0 + (k : Int))) % 1009) ≤ 1000000000 := by omega
    refine ⟨_, rfl, d, _, rfl, dr1, by omega, fun H2 t r et gt ht b2 dr2 => ?_⟩
    have nt : t ≠ d := fun z => by
      obtain ⟨_, _, _, e, _⟩ := dr2
      rw [z, e] at et
      cases et
    have g2 := goodTh6 gt
    refine ⟨_, rfl, (by show 0 ≤ sizeLine; decide), fun l0 hl0 => ?_⟩
    have z3 := same_upd hl0 (o := .lst [])
    refine ⟨_, ⟨l, l0, xs, [], fun _ => true, rfl, rfl, z3 _ _ (b2 _ _ nl el), upd_same, fun _ i x y _ hy => by simp at hy, rfl⟩, fun H3 x3 => ⟨_, rfl, ite2 (fun e => ?_) (fun e => ?_)⟩⟩
    · have hne : xs ≠ [] := fun z => by
        subst z
        cases e
      have b3 := b2.trans (But.of (z3.trans x3))
      have dr3 := dr2.same (z3.trans x3)
      have et3 := (z3.trans x3) _ _ et
      refine ⟨_, rfl, d, 2, _, rfl, by decide, log_tiny (by decide) (by decide), dr3, by omega, fun H4 r4 a4 c4 b4 dr4 => ⟨rfl, _, rfl, ite2 (fun e4 => ?_) (fun e4 => ?_)⟩⟩
      · have b14 := b3.trans b4
        have hL4 := b14 _ _ nl el
        refine ⟨_, rfl, _, rfl, d, l, _, xs, rfl, nl, SqL.of hL4, hne, by rw [hRw.1, lrs.1]; omega, dr4, by omega, fun H5 v5 hv5 b5 dr5 => ?_⟩
        have b15 := b14.trans b5
        have hR5 := hRw.nl (But.nl6 b15 dr1)
        obtain ⟨t5, r5, rfl, hr5, et5⟩ := hR5.mem hv5
        have g5 := hG r5 hr5
        refine ⟨_, rfl, d, 9, _, rfl, by decide, log_tiny (by decide) (by decide), dr5, by omega, fun H6 r6 a6 c6 b6 dr6 => ⟨_, _, rfl, rfl, ?_⟩⟩
        have b16 := b15.trans b6
        have et6 := (But.nl6 b6 dr5) _ _ (fun xs z => by cases z) et5
        by_cases h6 : r6 < 5
        · refine ⟨_, rfl, _, _, rfl, rfl, _, rfl, ?_⟩
          rw [decide_eq_true (show 1 + r6 < 6 by omega)]
          refine iteT ?_
          have cs : r6 = 0 ∨ r6 = 1 ∨ r6 = 2 ∨ r6 = 3 ∨ r6 = 4 := by omega
          rcases cs with rfl | rfl | rfl | rfl | rfl
          · refine ⟨_, rfl, _, rfl, _, rfl, t5, _, rfl, .inl (.inl et6), fun h => absurd h.2 (by show ¬ (1 : Nat) = 6; decide), fun _ q1 hq1 => ?_⟩
            have v1 := same_upd hq1 (o := .tup [.int r5.num])
            refine ⟨_, rfl, d, _, rfl, dr6.same v1, by omega, fun H7 t7 rr et7 gt7 ht7 b7 dr7 => ?_⟩
            have gR := goodTh6 gt7
            refine ⟨_, rfl, t7, _, _, _, rfl, rfl, .inl (.inl et7), atI_nat (j := 1) rfl, (by show 1 ≤ sizeLine; decide), fun q2 hq2 => ?_⟩
            have v2 := same_upd hq2 (o := .tup [.int rr.ac])
            have nq1 : q1 ≠ d := dr6.ne hq1
            refine ⟨q1, q2, [.int r5.num], [.int rr.ac], rfl, rfl, .inl (.inl (v2 _ _ (b7 _ _ nq1 upd_same))), .inl (.inl upd_same), (by show 1 + 1 ≤ sizeLine; decide), (fun h => by cases h), (fun _ h => by cases h), fun _ _ q3 hq3 => ?_⟩
            have v3 := same_upd hq3 (o := .tup ([.int r5.num] ++ [.int rr.ac]))
            have nd7 := But.nl6 b7 (dr6.same v1)
            have et9 := v3 _ _ (v2 _ _ (nd7 _ _ (fun xs z => by cases z) (v1 _ _ et6)))
            refine ⟨_, rfl, _, rfl, _, _, rfl, rfl, _, rfl, t5, _, rfl, .inl (.inl et9), fun h => absurd h.1 (by show ¬ (2 : Nat) = 0; decide), fun _ q4 hq4 => ?_⟩
            have v4 := same_upd hq4 (o := .tup ([.int r5.we, .str r5.sh, .str r5.fo, .bl r5.dr] : List V))
            refine ⟨q3, q4, [.int r5.num] ++ [.int rr.ac], [.int r5.we, .str r5.sh, .str r5.fo, .bl r5.dr], rfl, rfl, .inl (.inl (v4 _ _ upd_same)), .inl (.inl upd_same), (by show 2 + 4 ≤ sizeLine; decide), (fun h => by cases h), (fun _ h => by cases h), fun _ _ q5 hq5 => ?_⟩
            have v5 := same_upd hq5 (o := .tup (rowVals (Rw.mk r5.num rr.ac r5.we r5.sh r5.fo r5.dr)))
            have b19 := ((b16.trans (But.of v1)).trans b7).trans (But.of (((v2.trans v3).trans v4).trans v5))
            have dr9 := dr7.same (((v2.trans v3).trans v4).trans v5)
            have g9 : GoodRw (Rw.mk r5.num rr.ac r5.we r5.sh r5.fo r5.dr) := ⟨g5.1, gR.2.1, g5.2.2.1, g5.2.2.2.1, g5.2.2.2.2⟩
            have et10 : (upd (upd (upd (upd H7 q2 (.tup [.int rr.ac])) q3 (.tup ([.int r5.num] ++ [.int rr.ac]))) q4 (.tup ([.int r5.we, .str r5.sh, .str r5.fo, .bl r5.dr] : List V))) q5 (.tup (rowVals (Rw.mk r5.num rr.ac r5.we r5.sh r5.fo r5.dr)))) q5 = some (.tup (rowVals (Rw.mk r5.num rr.ac r5.we r5.sh r5.fo r5.dr))) := upd_same
            have hL := b19 _ _ nl el
            have hR := hRw.nl (But.nl6 b19 dr1)
            refine ⟨_, rfl, .inl ⟨rfl, _, SqL.of hL⟩, _, rfl, _, rfl, _, _, rfl, rfl, .inl ⟨by decide, by decide⟩, _, _, rfl, rfl, _, _, rfl, rfl, (by show (0 : Int) < 1009; decide), _, _, rfl, rfl, (by show 1 ≤ sizeLine; decide), fun tt htt => ?_⟩
            have y1 := same_upd htt (o := .tup [V.int (1 + (fi + 37 * (0 + (k : Int))) % 1009)])
            refine ⟨_, rfl, _, rfl, q5, _, rfl, .inl (.inl (y1 _ _ et10)), fun h => absurd h.1 (by show ¬ (1 : Nat) = 0; decide), fun _ sl hsl => ?_⟩
            have y2 := same_upd hsl (o := .tup (tailV (Rw.mk r5.num rr.ac r5.we r5.sh r5.fo r5.dr)))
            refine ⟨tt, sl, _, _, rfl, rfl, .inl (.inl (y2 _ _ upd_same)), .inl (.inl upd_same), (by show 1 + 5 ≤ sizeLine; decide), (fun h => by cases h), (fun _ h => by cases h), fun _ _ u hu => ?_⟩
            have y3 := same_upd hu (o := .tup ([V.int (1 + (fi + 37 * (0 + (k : Int))) % 1009)] ++ cutV (rowVals (Rw.mk r5.num rr.ac r5.we r5.sh r5.fo r5.dr)) (some 1) none))
            have y13 := (y1.trans y2).trans y3
            have gr := g9
            refine ⟨l, xs, _, rfl, rfl, y13 _ _ hL, (by rw [hRw.1, lrs.1]; exact Nat.lt_of_lt_of_le (show k < 10000 by omega) (by decide)), ?_⟩
            refine ⟨_, _, _, _, rs ++ [numd (1 + (fi + 37 * (0 + (k : Int))) % 1009) (Rw.mk r5.num rr.ac r5.we r5.sh r5.fo r5.dr)], rfl, upd_same, ((hR.nl (NL.of y13)).snoc numd_at).nl (NL.at_ (y13 _ _ hL)), lrs.snoc, fun z hz => ?_, ?_, ((dr9.same y13).upd nl).mono (by omega)⟩
            · rcases List.mem_append.mp hz with hz | hz
              · exact hG z hz
              · rw [List.mem_singleton] at hz
                subst hz
                exact numd_good nv1 nv2 gr
            · exact (bt.trans (b19.trans (But.of y13))).mut hl
          · refine ⟨_, rfl, _, rfl, _, rfl, t5, _, rfl, .inl (.inl et6), fun h => absurd h.2 (by show ¬ (2 : Nat) = 6; decide), fun _ q1 hq1 => ?_⟩
            have v1 := same_upd hq1 (o := .tup [.int r5.num, .int r5.ac])
            refine ⟨_, rfl, d, _, rfl, dr6.same v1, by omega, fun H7 t7 rr et7 gt7 ht7 b7 dr7 => ?_⟩
            have gR := goodTh6 gt7
            refine ⟨_, rfl, t7, _, _, _, rfl, rfl, .inl (.inl et7), atI_nat (j := 2) rfl, (by show 1 ≤ sizeLine; decide), fun q2 hq2 => ?_⟩
            have v2 := same_upd hq2 (o := .tup [.int rr.we])
            have nq1 : q1 ≠ d := dr6.ne hq1
            refine ⟨q1, q2, [.int r5.num, .int r5.ac], [.int rr.we], rfl, rfl, .inl (.inl (v2 _ _ (b7 _ _ nq1 upd_same))), .inl (.inl upd_same), (by show 2 + 1 ≤ sizeLine; decide), (fun h => by cases h), (fun _ h => by cases h), fun _ _ q3 hq3 => ?_⟩
            have v3 := same_upd hq3 (o := .tup ([.int r5.num, .int r5.ac] ++ [.int rr.we]))
            have nd7 := But.nl6 b7 (dr6.same v1)
            have et9 := v3 _ _ (v2 _ _ (nd7 _ _ (fun xs z => by cases z) (v1 _ _ et6)))
            refine ⟨_, rfl, _, rfl, _, _, rfl, rfl, _, rfl, t5, _, rfl, .inl (.inl et9), fun h => absurd h.1 (by show ¬ (3 : Nat) = 0; decide), fun _ q4 hq4 => ?_⟩
            have v4 := same_upd hq4 (o := .tup ([.str r5.sh, .str r5.fo, .bl r5.dr] : List V))
            refine ⟨q3, q4, [.int r5.num, .int r5.ac] ++ [.int rr.we], [.str r5.sh, .str r5.fo, .bl r5.dr], rfl, rfl, .inl (.inl (v4 _ _ upd_same)), .inl (.inl upd_same), (by show 3 + 3 ≤ sizeLine; decide), (fun h => by cases h), (fun _ h => by cases h), fun _ _ q5 hq5 => ?_⟩
            have v5 := same_upd hq5 (o := .tup (rowVals (Rw.mk r5.num r5.ac rr.we r5.sh r5.fo r5.dr)))
            have b19 := ((b16.trans (But.of v1)).trans b7).trans (But.of (((v2.trans v3).trans v4).trans v5))
            have dr9 := dr7.same (((v2.trans v3).trans v4).trans v5)
            have g9 : GoodRw (Rw.mk r5.num r5.ac rr.we r5.sh r5.fo r5.dr) := ⟨g5.1, g5.2.1, gR.2.2.1, g5.2.2.2.1, g5.2.2.2.2⟩
            have et10 : (upd (upd (upd (upd H7 q2 (.tup [.int rr.we])) q3 (.tup ([.int r5.num, .int r5.ac] ++ [.int rr.we]))) q4 (.tup ([.str r5.sh, .str r5.fo, .bl r5.dr] : List V))) q5 (.tup (rowVals (Rw.mk r5.num r5.ac rr.we r5.sh r5.fo r5.dr)))) q5 = some (.tup (rowVals (Rw.mk r5.num r5.ac rr.we r5.sh r5.fo r5.dr))) := upd_same
            have hL := b19 _ _ nl el
            have hR := hRw.nl (But.nl6 b19 dr1)
            refine ⟨_, rfl, .inl ⟨rfl, _, SqL.of hL⟩, _, rfl, _, rfl, _, _, rfl, rfl, .inl ⟨by decide, by decide⟩, _, _, rfl, rfl, _, _, rfl, rfl, (by show (0 : Int) < 1009; decide), _, _, rfl, rfl, (by show 1 ≤ sizeLine; decide), fun tt htt => ?_⟩
            have y1 := same_upd htt (o := .tup [V.int (1 + (fi + 37 * (0 + (k : Int))) % 1009)])
            refine ⟨_, rfl, _, rfl, q5, _, rfl, .inl (.inl (y1 _ _ et10)), fun h => absurd h.1 (by show ¬ (1 : Nat) = 0; decide), fun _ sl hsl => ?_⟩
            have y2 := same_upd hsl (o := .tup (tailV (Rw.mk r5.num r5.ac rr.we r5.sh r5.fo r5.dr)))
            refine ⟨tt, sl, _, _, rfl, rfl, .inl (.inl (y2 _ _ upd_same)), .inl (.inl upd_same), (by show 1 + 5 ≤ sizeLine; decide), (fun h => by cases h), (fun _ h => by cases h), fun _ _ u hu => ?_⟩
            have y3 := same_upd hu (o := .tup ([V.int (1 + (fi + 37 * (0 + (k : Int))) % 1009)] ++ cutV (rowVals (Rw.mk r5.num r5.ac rr.we r5.sh r5.fo r5.dr)) (some 1) none))
            have y13 := (y1.trans y2).trans y3
            have gr := g9
            refine ⟨l, xs, _, rfl, rfl, y13 _ _ hL, (by rw [hRw.1, lrs.1]; exact Nat.lt_of_lt_of_le (show k < 10000 by omega) (by decide)), ?_⟩
            refine ⟨_, _, _, _, rs ++ [numd (1 + (fi + 37 * (0 + (k : Int))) % 1009) (Rw.mk r5.num r5.ac rr.we r5.sh r5.fo r5.dr)], rfl, upd_same, ((hR.nl (NL.of y13)).snoc numd_at).nl (NL.at_ (y13 _ _ hL)), lrs.snoc, fun z hz => ?_, ?_, ((dr9.same y13).upd nl).mono (by omega)⟩
            · rcases List.mem_append.mp hz with hz | hz
              · exact hG z hz
              · rw [List.mem_singleton] at hz
                subst hz
                exact numd_good nv1 nv2 gr
            · exact (bt.trans (b19.trans (But.of y13))).mut hl
          · refine ⟨_, rfl, _, rfl, _, rfl, t5, _, rfl, .inl (.inl et6), fun h => absurd h.2 (by show ¬ (3 : Nat) = 6; decide), fun _ q1 hq1 => ?_⟩
            have v1 := same_upd hq1 (o := .tup [.int r5.num, .int r5.ac, .int r5.we])
            refine ⟨_, rfl, d, _, rfl, dr6.same v1, by omega, fun H7 t7 rr et7 gt7 ht7 b7 dr7 => ?_⟩
            have gR := goodTh6 gt7
            refine ⟨_, rfl, t7, _, _, _, rfl, rfl, .inl (.inl et7), atI_nat (j := 3) rfl, (by show 1 ≤ sizeLine; decide), fun q2 hq2 => ?_⟩
            have v2 := same_upd hq2 (o := .tup [.str rr.sh])
            have nq1 : q1 ≠ d := dr6.ne hq1
            refine ⟨q1, q2, [.int r5.num, .int r5.ac, .int r5.we], [.str rr.sh], rfl, rfl, .inl (.inl (v2 _ _ (b7 _ _ nq1 upd_same))), .inl (.inl upd_same), (by show 3 + 1 ≤ sizeLine; decide), (fun h => by cases h), (fun _ h => by cases h), fun _ _ q3 hq3 => ?_⟩
            have v3 := same_upd hq3 (o := .tup ([.int r5.num, .int r5.ac, .int r5.we] ++ [.str rr.sh]))
            have nd7 := But.nl6 b7 (dr6.same v1)
            have et9 := v3 _ _ (v2 _ _ (nd7 _ _ (fun xs z => by cases z) (v1 _ _ et6)))
            refine ⟨_, rfl, _, rfl, _, _, rfl, rfl, _, rfl, t5, _, rfl, .inl (.inl et9), fun h => absurd h.1 (by show ¬ (4 : Nat) = 0; decide), fun _ q4 hq4 => ?_⟩
            have v4 := same_upd hq4 (o := .tup ([.str r5.fo, .bl r5.dr] : List V))
            refine ⟨q3, q4, [.int r5.num, .int r5.ac, .int r5.we] ++ [.str rr.sh], [.str r5.fo, .bl r5.dr], rfl, rfl, .inl (.inl (v4 _ _ upd_same)), .inl (.inl upd_same), (by show 4 + 2 ≤ sizeLine; decide), (fun h => by cases h), (fun _ h => by cases h), fun _ _ q5 hq5 => ?_⟩
            have v5 := same_upd hq5 (o := .tup (rowVals (Rw.mk r5.num r5.ac r5.we rr.sh r5.fo r5.dr)))
            have b19 := ((b16.trans (But.of v1)).trans b7).trans (But.of (((v2.trans v3).trans v4).trans v5))
            have dr9 := dr7.same (((v2.trans v3).trans v4).trans v5)
            have g9 : GoodRw (Rw.mk r5.num r5.ac r5.we rr.sh r5.fo r5.dr) := ⟨g5.1, g5.2.1, g5.2.2.1, gR.2.2.2.1, g5.2.2.2.2⟩
            have et10 : (upd (upd (upd (upd H7 q2 (.tup [.str rr.sh])) q3 (.tup ([.int r5.num, .int r5.ac, .int r5.we] ++ [.str rr.sh]))) q4 (.tup ([.str r5.fo, .bl r5.dr] : List V))) q5 (.tup (rowVals (Rw.mk r5.num r5.ac r5.we rr.sh r5.fo r5.dr)))) q5 = some (.tup (rowVals (Rw.mk r5.num r5.ac r5.we rr.sh r5.fo r5.dr))) := upd_same
            have hL := b19 _ _ nl el
            have hR := hRw.nl (But.nl6 b19 dr1)
            refine ⟨_, rfl, .inl ⟨rfl, _, SqL.of hL⟩, _, rfl, _, rfl, _, _, rfl, rfl, .inl ⟨by decide, by decide⟩, _, _, rfl, rfl, _, _, rfl, rfl, (by show (0 : Int) < 1009; decide), _, _, rfl, rfl, (by show 1 ≤ sizeLine; decide), fun tt htt => ?_⟩
            have y1 := same_upd htt (o := .tup [V.int (1 + (fi + 37 * (0 + (k : Int))) % 1009)])
            refine ⟨_, rfl, _, rfl, q5, _, rfl, .inl (.inl (y1 _ _ et10)), fun h => absurd h.1 (by show ¬ (1 : Nat) = 0; decide), fun _ sl hsl => ?_⟩
            have y2 := same_upd hsl (o := .tup (tailV (Rw.mk r5.num r5.ac r5.we rr.sh r5.fo r5.dr)))
            refine ⟨tt, sl, _, _, rfl, rfl, .inl (.inl (y2 _ _ upd_same)), .inl (.inl upd_same), (by show 1 + 5 ≤ sizeLine; decide), (fun h => by cases h), (fun _ h => by cases h), fun _ _ u hu => ?_⟩
            have y3 := same_upd hu (o := .tup ([V.int (1 + (fi + 37 * (0 + (k : Int))) % 1009)] ++ cutV (rowVals (Rw.mk r5.num r5.ac r5.we rr.sh r5.fo r5.dr)) (some 1) none))
            have y13 := (y1.trans y2).trans y3
            have gr := g9
            refine ⟨l, xs, _, rfl, rfl, y13 _ _ hL, (by rw [hRw.1, lrs.1]; exact Nat.lt_of_lt_of_le (show k < 10000 by omega) (by decide)), ?_⟩
            refine ⟨_, _, _, _, rs ++ [numd (1 + (fi + 37 * (0 + (k : Int))) % 1009) (Rw.mk r5.num r5.ac r5.we rr.sh r5.fo r5.dr)], rfl, upd_same, ((hR.nl (NL.of y13)).snoc numd_at).nl (NL.at_ (y13 _ _ hL)), lrs.snoc, fun z hz => ?_, ?_, ((dr9.same y13).upd nl).mono (by omega)⟩
            · rcases List.mem_append.mp hz with hz | hz
              · exact hG z hz
              · rw [List.mem_singleton] at hz
                subst hz
                exact numd_good nv1 nv2 gr
            · exact (bt.trans (b19.trans (But.of y13))).mut hl
          · refine ⟨_, rfl, _, rfl, _, rfl, t5, _, rfl, .inl (.inl et6), fun h => absurd h.2 (by show ¬ (4 : Nat) = 6; decide), fun _ q1 hq1 => ?_⟩
            have v1 := same_upd hq1 (o := .tup [.int r5.num, .int r5.ac, .int r5.we, .str r5.sh])
            refine ⟨_, rfl, d, _, rfl, dr6.same v1, by omega, fun H7 t7 rr et7 gt7 ht7 b7 dr7 => ?_⟩
            have gR := goodTh6 gt7
            refine ⟨_, rfl, t7, _, _, _, rfl, rfl, .inl (.inl et7), atI_nat (j := 4) rfl, (by show 1 ≤ sizeLine; decide), fun q2 hq2 => ?_⟩
            have v2 := same_upd hq2 (o := .tup [.str rr.fo])
            have nq1 : q1 ≠ d := dr6.ne hq1
            refine ⟨q1, q2, [.int r5.num, .int r5.ac, .int r5.we, .str r5.sh], [.str rr.fo], rfl, rfl, .inl (.inl (v2 _ _ (b7 _ _ nq1 upd_same))), .inl (.inl upd_same), (by show 4 + 1 ≤ sizeLine; decide), (fun h => by cases h), (fun _ h => by cases h), fun _ _ q3 hq3 => ?_⟩
            have v3 := same_upd hq3 (o := .tup ([.int r5.num, .int r5.ac, .int r5.we, .str r5.sh] ++ [.str rr.fo]))
            have nd7 := But.nl6 b7 (dr6.same v1)
            have et9 := v3 _ _ (v2 _ _ (nd7 _ _ (fun xs z => by cases z) (v1 _ _ et6)))
            refine ⟨_, rfl, _, rfl, _, _, rfl, rfl, _, rfl, t5, _, rfl, .inl (.inl et9), fun h => absurd h.1 (by show ¬ (5 : Nat) = 0; decide), fun _ q4 hq4 => ?_⟩
            have v4 := same_upd hq4 (o := .tup ([.bl r5.dr] : List V))
            refine ⟨q3, q4, [.int r5.num, .int r5.ac, .int r5.we, .str r5.sh] ++ [.str rr.fo], [.bl r5.dr], rfl, rfl, .inl (.inl (v4 _ _ upd_same)), .inl (.inl upd_same), (by show 5 + 1 ≤ sizeLine; decide), (fun h => by cases h), (fun _ h => by cases h), fun _ _ q5 hq5 => ?_⟩
            have v5 := same_upd hq5 (o := .tup (rowVals (Rw.mk r5.num r5.ac r5.we r5.sh rr.fo r5.dr)))
            have b19 := ((b16.trans (But.of v1)).trans b7).trans (But.of (((v2.trans v3).trans v4).trans v5))
            have dr9 := dr7.same (((v2.trans v3).trans v4).trans v5)
            have g9 : GoodRw (Rw.mk r5.num r5.ac r5.we r5.sh rr.fo r5.dr) := ⟨g5.1, g5.2.1, g5.2.2.1, g5.2.2.2.1, gR.2.2.2.2⟩
            have et10 : (upd (upd (upd (upd H7 q2 (.tup [.str rr.fo])) q3 (.tup ([.int r5.num, .int r5.ac, .int r5.we, .str r5.sh] ++ [.str rr.fo]))) q4 (.tup ([.bl r5.dr] : List V))) q5 (.tup (rowVals (Rw.mk r5.num r5.ac r5.we r5.sh rr.fo r5.dr)))) q5 = some (.tup (rowVals (Rw.mk r5.num r5.ac r5.we r5.sh rr.fo r5.dr))) := upd_same
            have hL := b19 _ _ nl el
            have hR := hRw.nl (But.nl6 b19 dr1)
            refine ⟨_, rfl, .inl ⟨rfl, _, SqL.of hL⟩, _, rfl, _, rfl, _, _, rfl, rfl, .inl ⟨by decide, by decide⟩, _, _, rfl, rfl, _, _, rfl, rfl, (by show (0 : Int) < 1009; decide), _, _, rfl, rfl, (by show 1 ≤ sizeLine; decide), fun tt htt => ?_⟩
            have y1 := same_upd htt (o := .tup [V.int (1 + (fi + 37 * (0 + (k : Int))) % 1009)])
            refine ⟨_, rfl, _, rfl, q5, _, rfl, .inl (.inl (y1 _ _ et10)), fun h => absurd h.1 (by show ¬ (1 : Nat) = 0; decide), fun _ sl hsl => ?_⟩
            have y2 := same_upd hsl (o := .tup (tailV (Rw.mk r5.num r5.ac r5.we r5.sh rr.fo r5.dr)))
            refine ⟨tt, sl, _, _, rfl, rfl, .inl (.inl (y2 _ _ upd_same)), .inl (.inl upd_same), (by show 1 + 5 ≤ sizeLine; decide), (fun h => by cases h), (fun _ h => by cases h), fun _ _ u hu => ?_⟩
            have y3 := same_upd hu (o := .tup ([V.int (1 + (fi + 37 * (0 + (k : Int))) % 1009)] ++ cutV (rowVals (Rw.mk r5.num r5.ac r5.we r5.sh rr.fo r5.dr)) (some 1) none))
            have y13 := (y1.trans y2).trans y3
            have gr := g9
            refine ⟨l, xs, _, rfl, rfl, y13 _ _ hL, (by rw [hRw.1, lrs.1]; exact Nat.lt_of_lt_of_le (show k < 10000 by omega) (by decide)), ?_⟩
            refine ⟨_, _, _, _, rs ++ [numd (1 + (fi + 37 * (0 + (k : Int))) % 1009) (Rw.mk r5.num r5.ac r5.we r5.sh rr.fo r5.dr)], rfl, upd_same, ((hR.nl (NL.of y13)).snoc numd_at).nl (NL.at_ (y13 _ _ hL)), lrs.snoc, fun z hz => ?_, ?_, ((dr9.same y13).upd nl).mono (by omega)⟩
            · rcases List.mem_append.mp hz with hz | hz
              · exact hG z hz
              · rw [List.mem_singleton] at hz
                subst hz
                exact numd_good nv1 nv2 gr
            · exact (bt.trans (b19.trans (But.of y13))).mut hl
          · refine ⟨_, rfl, _, rfl, _, rfl, t5, _, rfl, .inl (.inl et6), fun h => absurd h.2 (by show ¬ (5 : Nat) = 6; decide), fun _ q1 hq1 => ?_⟩
            have v1 := same_upd hq1 (o := .tup [.int r5.num, .int r5.ac, .int r5.we, .str r5.sh, .str r5.fo])
            refine ⟨_, rfl, d, _, rfl, dr6.same v1, by omega, fun H7 t7 rr et7 gt7 ht7 b7 dr7 => ?_⟩
            have gR := goodTh6 gt7
            refine ⟨_, rfl, t7, _, _, _, rfl, rfl, .inl (.inl et7), atI_nat (j := 5) rfl, (by show 1 ≤ sizeLine; decide), fun q2 hq2 => ?_⟩
            have v2 := same_upd hq2 (o := .tup [.bl rr.dr])
            have nq1 : q1 ≠ d := dr6.ne hq1
            refine ⟨q1, q2, [.int r5.num, .int r5.ac, .int r5.we, .str r5.sh, .str r5.fo], [.bl rr.dr], rfl, rfl, .inl (.inl (v2 _ _ (b7 _ _ nq1 upd_same))), .inl (.inl upd_same), (by show 5 + 1 ≤ sizeLine; decide), (fun h => by cases h), (fun _ h => by cases h), fun _ _ q3 hq3 => ?_⟩
            have v3 := same_upd hq3 (o := .tup ([.int r5.num, .int r5.ac, .int r5.we, .str r5.sh, .str r5.fo] ++ [.bl rr.dr]))
            have nd7 := But.nl6 b7 (dr6.same v1)
            have et9 := v3 _ _ (v2 _ _ (nd7 _ _ (fun xs z => by cases z) (v1 _ _ et6)))
            refine ⟨_, rfl, _, rfl, _, _, rfl, rfl, _, rfl, t5, _, rfl, .inl (.inl et9), fun h => absurd h.1 (by show ¬ (6 : Nat) = 0; decide), fun _ q4 hq4 => ?_⟩
            have v4 := same_upd hq4 (o := .tup ([] : List V))
            refine ⟨q3, q4, [.int r5.num, .int r5.ac, .int r5.we, .str r5.sh, .str r5.fo] ++ [.bl rr.dr], [], rfl, rfl, .inl (.inl (v4 _ _ upd_same)), .inl (.inl upd_same), (by show 6 + 0 ≤ sizeLine; decide), (fun h => by cases h), (fun _ _ => ?_), (fun _ h => absurd rfl h)⟩
            have b19 := ((b16.trans (But.of v1)).trans b7).trans (But.of ((v2.trans v3).trans v4))
            have dr9 := dr7.same ((v2.trans v3).trans v4)
            have g9 : GoodRw (Rw.mk r5.num r5.ac r5.we r5.sh r5.fo rr.dr) := ⟨g5.1, g5.2.1, g5.2.2.1, g5.2.2.2.1, g5.2.2.2.2⟩
            have et10 : (upd (upd (upd H7 q2 (.tup [.bl rr.dr])) q3 (.tup ([.int r5.num, .int r5.ac, .int r5.we, .str r5.sh, .str r5.fo] ++ [.bl rr.dr]))) q4 (.tup ([] : List V))) q3 = some (.tup (rowVals (Rw.mk r5.num r5.ac r5.we r5.sh r5.fo rr.dr))) := v4 _ _ upd_same
            have hL := b19 _ _ nl el
            have hR := hRw.nl (But.nl6 b19 dr1)
            refine ⟨_, rfl, .inl ⟨rfl, _, SqL.of hL⟩, _, rfl, _, rfl, _, _, rfl, rfl, .inl ⟨by decide, by decide⟩, _, _, rfl, rfl, _, _, rfl, rfl, (by show (0 : Int) < 1009; decide), _, _, rfl, rfl, (by show 1 ≤ sizeLine; decide), fun tt htt => ?_⟩
            have y1 := same_upd htt (o := .tup [V.int (1 + (fi + 37 * (0 + (k : Int))) % 1009)])
            refine ⟨_, rfl, _, rfl, q3, _, rfl, .inl (.inl (y1 _ _ et10)), fun h => absurd h.1 (by show ¬ (1 : Nat) = 0; decide), fun _ sl hsl => ?_⟩
            have y2 := same_upd hsl (o := .tup (tailV (Rw.mk r5.num r5.ac r5.we r5.sh r5.fo rr.dr)))
            refine ⟨tt, sl, _, _, rfl, rfl, .inl (.inl (y2 _ _ upd_same)), .inl (.inl upd_same), (by show 1 + 5 ≤ sizeLine; decide), (fun h => by cases h), (fun _ h => by cases h), fun _ _ u hu => ?_⟩
            have y3 := same_upd hu (o := .tup ([V.int (1 + (fi + 37 * (0 + (k : Int))) % 1009)] ++ cutV (rowVals (Rw.mk r5.num r5.ac r5.we r5.sh r5.fo rr.dr)) (some 1) none))
            have y13 := (y1.trans y2).trans y3
            have gr := g9
            refine ⟨l, xs, _, rfl, rfl, y13 _ _ hL, (by rw [hRw.1, lrs.1]; exact Nat.lt_of_lt_of_le (show k < 10000 by omega) (by decide)), ?_⟩
            refine ⟨_, _, _, _, rs ++ [numd (1 + (fi + 37 * (0 + (k : Int))) % 1009) (Rw.mk r5.num r5.ac r5.we r5.sh r5.fo rr.dr)], rfl, upd_same, ((hR.nl (NL.of y13)).snoc numd_at).nl (NL.at_ (y13 _ _ hL)), lrs.snoc, fun z hz => ?_, ?_, ((dr9.same y13).upd nl).mono (by omega)⟩
            · rcases List.mem_append.mp hz with hz | hz
              · exact hG z hz
              · rw [List.mem_singleton] at hz
                subst hz
                exact numd_good nv1 nv2 gr
            · exact (bt.trans (b19.trans (But.of y13))).mut hl
        · refine ⟨_, rfl, _, _, rfl, rfl, _, rfl, ?_⟩
          rw [decide_eq_false (show ¬ 1 + r6 < 6 by omega)]
          refine iteF ?_
          have hL := b16 _ _ nl el
          have hR := hRw.nl (But.nl6 b16 dr1)
          refine ⟨_, rfl, .inl ⟨rfl, _, SqL.of hL⟩, _, rfl, _, rfl, _, _, rfl, rfl, .inl ⟨by decide, by decide⟩, _, _, rfl, rfl, _, _, rfl, rfl, (by show (0 : Int) < 1009; decide), _, _, rfl, rfl, (by show 1 ≤ sizeLine; decide), fun tt htt => ?_⟩
          have y1 := same_upd htt (o := .tup [V.int (1 + (fi + 37 * (0 + (k : Int))) % 1009)])
          refine ⟨_, rfl, _, rfl, t5, _, rfl, .inl (.inl (y1 _ _ et6)), fun h => absurd h.1 (by show ¬ (1 : Nat) = 0; decide), fun _ sl hsl => ?_⟩
          have y2 := same_upd hsl (o := .tup (tailV r5))
          refine ⟨tt, sl, _, _, rfl, rfl, .inl (.inl (y2 _ _ upd_same)), .inl (.inl upd_same), (by show 1 + 5 ≤ sizeLine; decide), (fun h => by cases h), (fun _ h => by cases h), fun _ _ u hu => ?_⟩
          have y3 := same_upd hu (o := .tup ([V.int (1 + (fi + 37 * (0 + (k : Int))) % 1009)] ++ cutV (rowVals r5) (some 1) none))
          have y13 := (y1.trans y2).trans y3
          have gr := g5
          refine ⟨l, xs, _, rfl, rfl, y13 _ _ hL, (by rw [hRw.1, lrs.1]; exact Nat.lt_of_lt_of_le (show k < 10000 by omega) (by decide)), ?_⟩
          refine ⟨_, _, _, _, rs ++ [numd (1 + (fi + 37 * (0 + (k : Int))) % 1009) r5], rfl, upd_same, ((hR.nl (NL.of y13)).snoc numd_at).nl (NL.at_ (y13 _ _ hL)), lrs.snoc, fun z hz => ?_, ?_, ((dr6.same y13).upd nl).mono (by omega)⟩
          · rcases List.mem_append.mp hz with hz | hz
            · exact hG z hz
            · rw [List.mem_singleton] at hz
              subst hz
              exact numd_good nv1 nv2 gr
          · exact (bt.trans (b16.trans (But.of y13))).mut hl
      · have b34 := b3.trans b4
        have et4 := (But.nl6 b4 dr3) _ _ (fun xs z => by cases z) et3
        have hL := b34 _ _ nl el
        have hR := hRw.nl (But.nl6 b34 dr1)
        refine ⟨_, rfl, .inl ⟨rfl, _, SqL.of hL⟩, _, rfl, _, rfl, _, _, rfl, rfl, .inl ⟨by decide, by decide⟩, _, _, rfl, rfl, _, _, rfl, rfl, (by show (0 : Int) < 1009; decide), _, _, rfl, rfl, (by show 1 ≤ sizeLine; decide), fun tt htt => ?_⟩
        have y1 := same_upd htt (o := .tup [V.int (1 + (fi + 37 * (0 + (k : Int))) % 1009)])
        refine ⟨_, rfl, _, rfl, t, _, rfl, .inl (.inl (y1 _ _ et4)), fun h => absurd h.1 (by show ¬ (1 : Nat) = 0; decide), fun _ sl hsl => ?_⟩
        have y2 := same_upd hsl (o := .tup (tailV r))
        refine ⟨tt, sl, _, _, rfl, rfl, .inl (.inl (y2 _ _ upd_same)), .inl (.inl upd_same), (by show 1 + 5 ≤ sizeLine; decide), (fun h => by cases h), (fun _ h => by cases h), fun _ _ u hu => ?_⟩
        have y3 := same_upd hu (o := .tup ([V.int (1 + (fi + 37 * (0 + (k : Int))) % 1009)] ++ cutV (rowVals r) (some 1) none))
        have y13 := (y1.trans y2).trans y3
        have gr := g2
        refine ⟨l, xs, _, rfl, rfl, y13 _ _ hL, (by rw [hRw.1, lrs.1]; exact Nat.lt_of_lt_of_le (show k < 10000 by omega) (by decide)), ?_⟩
        refine ⟨_, _, _, _, rs ++ [numd (1 + (fi + 37 * (0 + (k : Int))) % 1009) r], rfl, upd_same, ((hR.nl (NL.of y13)).snoc numd_at).nl (NL.at_ (y13 _ _ hL)), lrs.snoc, fun z hz => ?_, ?_, ((dr4.same y13).upd nl).mono (by omega)⟩
        · rcases List.mem_append.mp hz with hz | hz
          · exact hG z hz
          · rw [List.mem_singleton] at hz
            subst hz
            exact numd_good nv1 nv2 gr
        · exact (bt.trans (b34.trans (But.of y13))).mut hl
    · have b3 := b2.trans (But.of (z3.trans x3))
      have dr3 := dr2.same (z3.trans x3)
      have et3 := (z3.trans x3) _ _ et
      have hL := b3 _ _ nl el
      have hR := hRw.nl (But.nl6 b3 dr1)
      refine ⟨_, rfl, .inl ⟨rfl, _, SqL.of hL⟩, _, rfl, _, rfl, _, _, rfl, rfl, .inl ⟨by decide, by decide⟩, _, _, rfl, rfl, _, _, rfl, rfl, (by show (0 : Int) < 1009; decide), _, _, rfl, rfl, (by show 1 ≤ sizeLine; decide), fun tt htt => ?_⟩
      have y1 := same_upd htt (o := .tup [V.int (1 + (fi + 37 * (0 + (k : Int))) % 1009)])
      refine ⟨_, rfl, _, rfl, t, _, rfl, .inl (.inl (y1 _ _ et3)), fun h => absurd h.1 (by show ¬ (1 : Nat) = 0; decide), fun _ sl hsl => ?_⟩
      have y2 := same_upd hsl (o := .tup (tailV r))
      refine ⟨tt, sl, _, _, rfl, rfl, .inl (.inl (y2 _ _ upd_same)), .inl (.inl upd_same), (by show 1 + 5 ≤ sizeLine; decide), (fun h => by cases h), (fun _ h => by cases h), fun _ _ u hu => ?_⟩
      have y3 := same_upd hu (o := .tup ([V.int (1 + (fi + 37 * (0 + (k : Int))) % 1009)] ++ cutV (rowVals r) (some 1) none))
      have y13 := (y1.trans y2).trans y3
      have gr := g2
      refine ⟨l, xs, _, rfl, rfl, y13 _ _ hL, (by rw [hRw.1, lrs.1]; exact Nat.lt_of_lt_of_le (show k < 10000 by omega) (by decide)), ?_⟩
      refine ⟨_, _, _, _, rs ++ [numd (1 + (fi + 37 * (0 + (k : Int))) % 1009) r], rfl, upd_same, ((hR.nl (NL.of y13)).snoc numd_at).nl (NL.at_ (y13 _ _ hL)), lrs.snoc, fun z hz => ?_, ?_, ((dr3.same y13).upd nl).mono (by omega)⟩
      · rcases List.mem_append.mp hz with hz | hz
        · exact hG z hz
        · rw [List.mem_singleton] at hz
          subst hz
          exact numd_good nv1 nv2 gr
      · exact (bt.trans (b3.trans (But.of y13))).mut hl
  · rintro σ H1 ⟨w4, w5, w6, xs, rs, rfl, el, hRw, lrs, hG, bt, dr1⟩
    exact ⟨_, rfl, q H1 l xs rs fi hl nl el hRw (by rw [Int.toNat_natCast] at lrs; exact lrs) hG bt (dr1.mono (by omega))⟩
end
end KB
namespace KB
open PySem PySem.Spec PyProof.Rows L2 KA LamX
theorem sh_name {z : Str} (h : nm (.str z) = true) : PyData.canLay0 (.str z) = true := by
  have nmE : nm (.str z) = (decide (1 ≤ z.length) && decide (z.length ≤ 8) && z.cps.toList.all lower) := rfl
  rw [nmE] at h
  simp only [Bool.and_eq_true] at h
  show z.cps.all (· < 0x110000) = true
  rw [← Array.all_toList, List.all_eq_true]
  intro c hc
  have := lower_lt (List.all_eq_true.mp h.2 c hc)
  exact decide_eq_true (by omega)
section
variable {P : Program} {w : World} {K : PySem.W.Frag} {mg : Str → Option Value} {base : Heap}
theorem nm_low {z : Str} (h : nm (.str z) = true) : z.length ≤ 8 ∧ ∀ c ∈ z.cps.toList, lower c = true := by
  have nmE : nm (.str z) = (decide (1 ≤ z.length) && decide (z.length ≤ 8) && z.cps.toList.all lower) := rfl
  rw [nmE] at h
  simp only [Bool.and_eq_true, decide_eq_true_eq] at h
  exact ⟨h.1.2, fun c hc => List.all_eq_true.mp h.2 c hc⟩
def spKeyR : Sp := fun vs H Q _ => ∃ (t : Addr) (r : Rw), vs = [.ref t] ∧ H t = some (.tup (rowVals r)) ∧ ∀ p, H p = none → Q (.ref p) (upd H p (.tup (keyVals r)))
theorem ok_key (T : Tx K mg) : FnOk P w K mg base CX0 1 T.A_key T.fd_key ["_law_row"] (spKeyR) := by
  refine T.F_key.ok sc_key (fun vs H Q E h => ?_) (fun cdv A outer s H vs Q E hr h => ?_)
  · obtain ⟨t, r, rfl, ht, q⟩ := h
    rfl
  obtain ⟨t, r, rfl, ht, q⟩ := h
  refine ⟨_, (pss_cons (ps_asg (pv 0) (pg_tup (by rfl) (pgs_cons (pg_name (i := 1) sc_key.nd rfl (Or.inl rfl)) (pgs_cons (pg_name (i := 2) sc_key.nd rfl (Or.inl rfl)) (pgs_cons (pg_name (i := 3) sc_key.nd rfl (Or.inl rfl)) (pgs_cons (pg_name (i := 4) sc_key.nd rfl (Or.inl rfl)) (pgs_cons (pg_name (i := 5) sc_key.nd rfl (Or.inl rfl)) (pgs_cons (pg_name (i := 6) sc_key.nd rfl (Or.inl rfl)) pgs_nil))))))))
      (pss_one (ps_ret (pe_tup (pa_cons (pv 2) (pa_cons (pv 3) (pa_cons (pv 4) (pa_cons (pv 5) (pa_cons (pv 6) (pa_cons (pv 1) pa_nil)))))))))), ?_⟩
  refine ⟨_, rfl, t, _, rfl, .inl (.inl ht), rfl, _, _, rfl, _, _, rfl, _, _, rfl, _, _, rfl, _, _, rfl, _, _, rfl, rfl, ?_⟩
  exact ⟨_, rfl, _, rfl, _, rfl, _, rfl, _, rfl, _, rfl, (by show 6 ≤ sizeLine; decide), fun p hp => q p hp⟩
def DRow : V → PyData → Hp → Prop := fun y k H => ∃ (t : Addr) (r : Rw), y = .ref t ∧ H t = some (.tup (rowVals r)) ∧ k = keyD r
theorem monRow : ∀ x k H H', Ext H H' → DRow x k H → DRow x k H' := fun x k H H' e d => by
  obtain ⟨p, r, h1, h2, h3⟩ := d
  exact ⟨p, r, h1, e _ _ h2, h3⟩
theorem impRow (T : Tx K mg) : ∀ y k H, DRow y k H → spKeyR [y] H (fun z H' => Ext H H' ∧ KD K H' z k) E0 := by
  rintro y k H ⟨p, r, rfl, hp, rfl⟩
  exact ⟨p, r, rfl, hp, fun t ht => ⟨Ext.upd ht, .tup (.inl (.inl upd_same)) (kfs_key r)⟩⟩
/-! ### what is a row of a bead, and what is none -/
def Wd (v : V) : Prop := ∀ z, v = .str z → nm (.str z) = true ∨ z = "Rose" ∨ z = ""
structure Six (K : PySem.W.Frag) (H : Hp) (a b c d e f : V) : Prop where
  ta : Th K H a
  tb : Th K H b
  tc : Th K H c
  td : Th K H d
  te : Th K H e
  tf : Th K H f
  wd : Wd d
  we : Wd e
theorem wd_sh {v : V} (h : Wd v) : Sh v := fun z hz => by
  rcases h z hz with h | rfl | rfl
  · exact short_name h
  · decide +kernel
  · decide +kernel
theorem Six.same {K : PySem.W.Frag} {H H' : Hp} {a b c d e f : V} (h : Six K H a b c d e f) (s : Same H H') : Six K H' a b c d e f := ⟨h.ta.same s, h.tb.same s, h.tc.same s, h.td.same s, h.te.same s, h.tf.same s, h.wd, h.we⟩
inductive ThX (K : PySem.W.Frag) (H : Hp) : V → Option Rw → Prop
  | no {v : V} {t : Value} (h : TyX K H v t) (k : PySem.W.kitOne K t (.type "tuple") = some false) : ThX K H v none
  | len {a : Addr} {xs : List V} (h : H a = some (.tup xs)) (k : xs.length ≠ 6) : ThX K H (.ref a) none
  | six {p : Addr} {a b c d e f : V} (h : H p = some (.tup [a, b, c, d, e, f])) (k : Six K H a b c d e f) : ThX K H (.ref p) (asRw a b c d e f)
theorem ThX.same {K : PySem.W.Frag} {H H' : Hp} {v : V} {o : Option Rw} (h : ThX K H v o) (s : Same H H') : ThX K H' v o := by
  cases h with
  | no h k => exact .no (tyx_same s h) k
  | len h k => exact .len (s _ _ h) k
  | six h k => exact .six (s _ _ h) (k.same s)
def spBeadOfX (K : PySem.W.Frag) (C CB : Addr) : Sp := fun vs H Q E => ∃ (v : V) (o : Option Rw), vs = [v] ∧ ThX K H v o ∧
  (∀ r, o = some r → ∀ (H' : Hp) (p : Addr), Same H H' → BeadAt C H' p r → Q (.ref p) H') ∧
  (o = none → ∀ (H' : Hp) (dd : Addr) (z : Str), Same H H' → H' dd = some (.xd [("why", .str z)]) → E (.ref CB) (some dd) H')
theorem ok_bead_of (T : Tx K mg) : FnOk P w K mg base (L2.CX P w) 6 T.A_bead_of T.fd_bead_of ["row"] (spBeadOfX K T.C_Bead T.C_BadBead) := by
  refine T.F_bead_of.okX sc_bead_of (fun vs H Q E h => ?_) (fun cdv A outer s H vs Q E hr h => ?_)
  · obtain ⟨v, o, rfl, hv, qy, qn⟩ := h
    rfl
  obtain ⟨v, o, rfl, hv, qy, qn⟩ := h
  refine ⟨_, (pss_cons (ps_if (PW.pt (pw_or (pt_not (pt_val (pe_callB call_isi (by rfl) T.z_isinstance (by decide +kernel) (pa_cons (pv 0) (pa_cons (pe_bltn (v := .ty "tuple") (by rfl) T.z_tuple (by decide +kernel) rfl) pa_nil))))) (pw_or1 (pt_cmpR op_ne (pe_callB call_len_seq (by rfl) T.z_len PySem.boot_len (pa_cons (pv 0) pa_nil)) (pe_glob (v := .int 6) (by rfl) T.g_ROW_LENGTH ⟨_, rfl⟩) (nomark _))))) (pss_one (ps_raise rfl (takes_of rfl rfl rfl rfl) (pmk_oex T.ox_BadBead T.in_BadBead T.ti_BadBead (ok_PearlError_init T) (hr.mono (by decide)) T.b_PearlError_init .nil pass0 (by rfl) T.g_BadBead (pa_cons pe_str pa_nil)))) pss_nil)
      (pss_cons (ps_asg (pv 0) (pg_tup (by rfl) (pgs_cons (pg_name (i := 1) sc_bead_of.nd rfl (Or.inl rfl)) (pgs_cons (pg_name (i := 2) sc_bead_of.nd rfl (Or.inl rfl)) (pgs_cons (pg_name (i := 3) sc_bead_of.nd rfl (Or.inl rfl)) (pgs_cons (pg_name (i := 4) sc_bead_of.nd rfl (Or.inl rfl)) (pgs_cons (pg_name (i := 5) sc_bead_of.nd rfl (Or.inl rfl)) (pgs_cons (pg_name (i := 6) sc_bead_of.nd rfl (Or.inl rfl)) pgs_nil))))))))
      (pss_one (ps_ret (pe_make T.mk_Bead (ok_Bead_init T) (hr.mono (by decide)) (by rfl) T.g_Bead T.b_Bead_init .nil (passes_call (takes_of rfl rfl rfl rfl) (fun _ _ _ _ h => h)) (pa_cons (pv 1) (pa_cons (pv 2) (pa_cons (pv 3) (pa_cons (pv 4) (pa_cons (pv 5) (pa_cons (pv 6) pa_nil))))))))))), ?_⟩
  have bad : ∀ (z : Str) (H1 : Hp), Same H H1 → o = none → [V.str z].length ≤ 1000 ∧ ∀ x, H1 x = none → spPearl K "why" (.ref x :: ([V.str z] ++ [])) (upd H1 x (exo x T.C_BadBead none)) (fun v H2 => v = .non ∧ ∃ (d : Addr) (fs : List (Str × V)), H2 x = some (exo x T.C_BadBead (some d)) ∧ H2 d = some (exd d fs) ∧ H1 d = none ∧ E (.ref T.C_BadBead) (some d) (upd (del H2 x) d (.xd fs))) E0 := fun z H1 s1 hz => by
    refine ⟨(by show 1 ≤ 1000; decide), fun x hx => ⟨x, T.C_BadBead, .str z, rfl, T.ox_BadBead, T.nf_BadBead_why, upd_same, fun dd hd hne => ⟨rfl, dd, [("why", .str z)], upd_same, ?_, ?_, ?_⟩⟩⟩
    · rw [upd_ne hne]
      exact upd_same
    · rw [upd_ne hne] at hd
      exact hd
    · rw [upd_ne hne] at hd
      exact qn hz _ dd z (s1.trans (pearl_same hx hd)) upd_same
  cases hv with
  | no h k => exact ⟨_, rfl, _, _, _, _, _, rfl, .ty _, h, k, _, rfl, iteT (iteT (bad _ _ (Same.refl _) rfl))⟩
  | len h k =>
    refine ⟨_, rfl, _, _, _, _, _, rfl, .ty _, .base (.tup h), kit_ty (r := true) (by decide +kernel), _, rfl, iteF ?_⟩
    refine ⟨_, rfl, _, _, rfl, .inr (.inl (.inl h)), rfl, _, rfl, ?_⟩
    rw [decide_eq_false (show ¬ V.int _ = V.int 6 by intro z; injection z with z; omega)]
    exact iteT (bad _ _ (Same.refl _) rfl)
  | six h k =>
    refine ⟨_, rfl, _, _, _, _, _, rfl, .ty _, .base (.tup h), kit_ty (r := true) (by decide +kernel), _, rfl, iteF ?_⟩
    refine ⟨_, rfl, _, _, rfl, .inr (.inl (.inl h)), rfl, _, rfl, iteF ?_⟩
    refine ⟨_, rfl, _, _, rfl, .inl (.inl h), rfl, _, _, rfl, _, _, rfl, _, _, rfl, _, _, rfl, _, _, rfl, _, _, rfl, rfl, ?_⟩
    refine ⟨_, rfl, _, rfl, _, rfl, _, rfl, _, rfl, _, rfl, ?_⟩
    intro x dx hx hdx hne
    have s0 : Same H (upd (upd H dx (.own x)) x (.ins T.C_Bead dx [])) := fun b o z => by rw [upd_ne (ne_of_none z hx), upd_ne (ne_of_none z hdx)]; exact z
    have k0 := k.same s0
    refine ⟨x, dx, _, _, _, _, _, _, rfl, upd_same, k0.ta, k0.tb, k0.tc, k0.td, k0.te, k0.tf, wd_sh k.wd, wd_sh k.we, fun u hu H' hR kk => ⟨rfl, ?_⟩, fun hu H' dd z s hdd => ?_⟩
    · exact qy u hu H' x (fun b o z => kk b o (s0 b o z) (ne_of_none z hx)) hR
    · exact qn hu H' dd z (s0.trans s) hdd
def spMade (K : PySem.W.Frag) : Sp := fun vs H Q _ => ∃ (v : V) (o : Option Rw), vs = [v] ∧ ThX K H v o ∧
  (∀ r, o = some r → ∀ (H' : Hp) (t : Addr), Same H H' → H' t = some (.tup (rowVals r)) → Q (.ref t) H') ∧ (o = none → ∀ H', Same H H' → Q .non H')
theorem ok_made (T : Tx K mg) : FnOk P w K mg base CX0 9 T.A_made T.fd_made ["_law_thing"] (spMade K) := by
  refine T.F_made.ok sc_made (fun vs H Q E h => ?_) (fun cdv A outer s H vs Q E hr h => ?_)
  · obtain ⟨v, o, rfl, hv, qy, qn⟩ := h
    rfl
  obtain ⟨v, o, rfl, hv, qy, qn⟩ := h
  refine ⟨_, (pss_cons (ps_try_as (i := 1) rfl rfl sc_made.nd rfl rfl ⟨rfl, by decide, .inl T.g_PearlError⟩ L2.takes0 (fun W pn xe tk _ => (pss_one (ps_ret (pe_meth0 (pe_callS (ok_bead_of T) (hr.mono (by decide)) (by rfl) T.g_bead_of T.F_bead_of.kp T.b_bead_of (fun σ => passAt tk σ) (pa_cons (pv 0) pa_nil)) T.cl_Bead T.m_Bead_row (ok_Bead_row T) (hr.mono (by decide)) T.b_Bead_row .nil pass0))))
        (fun a oe cls d pn hz hf => (pss_one (ps_if (PW.pt (pw_and (pt_val (pe_callB (call_isD hz hf) (by rfl) T.z_isinstance (by decide +kernel) (pa_cons (pv 1) (pa_cons (pe_glob (v := .ref T.C_BadBead) (by rfl) T.g_BadBead rfl) pa_nil)))) (pw_and1 (pt_not (pt_val (pe_callB (call_isDT hz hf) (by rfl) T.z_isinstance (by decide +kernel) (pa_cons (pv 1) (pa_cons (pe_tup (pa_cons (pe_glob (v := .ref T.C_BadDeed) (by rfl) T.g_BadDeed rfl) (pa_cons (pe_glob (v := .ref T.C_BadRule) (by rfl) T.g_BadRule rfl) (pa_cons (pe_glob (v := .ref T.C_NoRow) (by rfl) T.g_NoRow rfl) pa_nil)))) pa_nil)))))))) (pss_one (ps_ret pe_non)) pss_nil))))
      (pss_one (ps_ret pe_str))), ?_⟩
  refine ⟨_, rfl, v, o, rfl, hv, fun r hr H1 p s1 hB => ?_, fun hu H1 dd z s1 hdd => ?_⟩
  · obtain ⟨dx, hp⟩ := id hB
    exact ⟨p, dx, _, rfl, hp, bf_no _ (by decide +kernel) (by decide +kernel) (by decide +kernel) (by decide +kernel) (by decide +kernel) (by decide +kernel), p, r, rfl, hB, fun t ht => qy r hr _ t (s1.trans (same_upd ht)) upd_same⟩
  · refine ⟨true, T.em_BadBead_PearlError, fun _ x hx => ?_, fun z => by cases z⟩
    refine ⟨_, rfl, T.C_BadBead, dd, _, _, _, true, rfl, rfl, rfl, hdd, T.xc_BadBead, .own _, T.ki_me, _, rfl, iteT ?_⟩
    refine ⟨_, rfl, (by show 3 ≤ sizeLine; decide), fun tp htp => ?_⟩
    have s2 := same_upd htp (o := .tup [.ref T.C_BadDeed, .ref T.C_BadRule, .ref T.C_NoRow])
    exact ⟨T.C_BadBead, dd, tp, _, _, [.ref T.C_BadDeed, .ref T.C_BadRule, .ref T.C_NoRow], false, rfl, rfl, rfl, s2 _ _ hdd, T.xc_BadBead, upd_same, .cons (.own _) (.cons (.own _) (.cons (.own _) .nil)), T.ki_no, _, rfl, iteT (qn hu _ (s1.trans s2))⟩
/-! ### the odd ones -/
theorem low_same {z : Str} (h : nm (.str z) = true) : Txt.lower z = z := by
  obtain ⟨_, hl⟩ := nm_low h
  have e : z = SX.S (TL.tl z) := TL.ext_tl rfl
  have ha : (TL.tl z).all (fun c => decide (c < 128)) = true := by
    rw [List.all_eq_true]
    intro c hc
    have := lower_lt (hl c hc)
    exact decide_eq_true (by omega)
  rw [e, SX.lower_S ha]
  show SX.S ((TL.tl z).map PyProof.Rows.lo1) = SX.S (TL.tl z)
  have : (TL.tl z).map PyProof.Rows.lo1 = (TL.tl z).map id := List.map_congr_left fun c hc => by
    have := hl c hc
    unfold lower at this
    simp only [Bool.and_eq_true, decide_eq_true_eq] at this
    unfold PyProof.Rows.lo1
    rw [if_neg (by omega)]
    rfl
  rw [this, List.map_id]
def spHasOdd (K : PySem.W.Frag) : Sp := fun vs H Q _ => ∃ (p : Addr) (a b c d e f : V), vs = [.ref p] ∧ H p = some (.tup [a, b, c, d, e, f]) ∧ Six K H a b c d e f ∧ ∀ H', Same H H' → Q (.bl (!okRw a b c d e f)) H'
theorem ok_has_odd (T : Tx K mg) : FnOk P w K mg base CX0 2 T.A_has_odd T.fd_has_odd ["_law_row"] (spHasOdd K) := by
  refine T.F_has_odd.ok sc_has_odd (fun vs H Q E h => ?_) (fun cdv A outer s H vs Q E hr h => ?_)
  · obtain ⟨p, a, b, c, d, e, f, rfl, hp, k, q⟩ := h
    rfl
  obtain ⟨p, a, b, c, d, e, f, rfl, hp, k, q⟩ := h
  refine ⟨_, (pss_cons (ps_asg (pv 0) (pg_tup (by rfl) (pgs_cons (pg_name (i := 1) sc_has_odd.nd rfl (Or.inl rfl)) (pgs_cons (pg_name (i := 2) sc_has_odd.nd rfl (Or.inl rfl)) (pgs_cons (pg_name (i := 3) sc_has_odd.nd rfl (Or.inl rfl)) (pgs_cons (pg_name (i := 4) sc_has_odd.nd rfl (Or.inl rfl)) (pgs_cons (pg_name (i := 5) sc_has_odd.nd rfl (Or.inl rfl)) (pgs_cons (pg_name (i := 6) sc_has_odd.nd rfl (Or.inl rfl)) pgs_nil))))))))
      (pss_cons (ps_for PassesOwn.never rfl (pi_list (pe_lst (pa_cons (pe_tup (pa_cons (pv 1) (pa_cons pe_int pa_nil))) (pa_cons (pe_tup (pa_cons (pv 2) (pa_cons pe_int pa_nil))) (pa_cons (pe_tup (pa_cons (pv 3) (pa_cons pe_int pa_nil))) pa_nil))))) (pg_tup (by rfl) (pgs_cons (pg_name (i := 7) sc_has_odd.nd rfl (Or.inl rfl)) (pgs_cons (pg_name (i := 8) sc_has_odd.nd rfl (Or.inl rfl)) pgs_nil)))
        (pss_one (ps_if (PW.pt (pw_or (pt_not (pt_val (pe_callB call_isi (by rfl) T.z_isinstance (by decide +kernel) (pa_cons (pv 7) (pa_cons (pe_bltn (v := .ty "int") (by rfl) T.z_int (by decide +kernel) rfl) pa_nil))))) (pw_or (pt_val (pe_callB call_isi (by rfl) T.z_isinstance (by decide +kernel) (pa_cons (pv 7) (pa_cons (pe_bltn (v := .ty "bool") (by rfl) T.z_bool (by decide +kernel) rfl) pa_nil)))) (pw_or1 (pt_not (pt_chain op_le op_le pe_int (pv 7) (pv 8))))))) (pss_one (ps_ret pe_bl)) pss_nil)))
      (pss_cons (ps_for PassesOwn.never rfl (pi_list (pe_lst (pa_cons (pv 4) (pa_cons (pv 5) pa_nil)))) (pg_name (i := 9) sc_has_odd.nd rfl (Or.inl rfl))
        (pss_one (ps_if (PW.pt (pw_or (pt_not (pt_val (pe_callB call_isi (by rfl) T.z_isinstance (by decide +kernel) (pa_cons (pv 9) (pa_cons (pe_bltn (v := .ty "str") (by rfl) T.z_str (by decide +kernel) rfl) pa_nil))))) (pw_or (pt_not (pt_chain op_le op_le pe_int (pe_callB call_len_str (by rfl) T.z_len PySem.boot_len (pa_cons (pv 9) pa_nil)) pe_int)) (pw_or1 (pt_cmpR op_ne (pv 9) (pe_bm0 PySem.F.plainAttrs_str PySem.F.slot_str_lower PySem.F.type_str_lower mt_lower (pv 9)) (nomark _)))))) (pss_one (ps_ret pe_bl)) pss_nil)))
      (pss_one (ps_ret (pe_not (pe_callB call_isi (by rfl) T.z_isinstance (by decide +kernel) (pa_cons (pv 6) (pa_cons (pe_bltn (v := .ty "bool") (by rfl) T.z_bool (by decide +kernel) rfl) pa_nil))))))))), ?_⟩
  have yes : ∀ H', Same H H' → okRw a b c d e f = false → Q (.bl true) H' := fun H' s h => by
    have := q H' s
    rw [h] at this
    exact this
  refine ⟨_, rfl, p, _, rfl, .inl (.inl hp), rfl, _, _, rfl, _, _, rfl, _, _, rfl, _, _, rfl, _, _, rfl, _, _, rfl, rfl, ?_⟩
  refine ⟨_, rfl, (by show 2 ≤ sizeLine; decide), fun t1 h1 => ?_⟩
  have z1 := same_upd h1 (o := .tup [a, .int 1000000000])
  refine ⟨_, rfl, (by show 2 ≤ sizeLine; decide), fun t2 h2 => ?_⟩
  have z2 := same_upd h2 (o := .tup [b, .int 1000000])
  refine ⟨_, rfl, (by show 2 ≤ sizeLine; decide), fun t3 h3 => ?_⟩
  have z3 := same_upd h3 (o := .tup [c, .int 1000000])
  refine ⟨(by show 3 ≤ sizeLine; decide), fun l hl => ?_⟩
  have z4 := same_upd hl (o := .lst [V.ref t1, .ref t2, .ref t3])
  have e1 := z4 _ _ (z3 _ _ (z2 _ _ (show (upd H t1 (.tup [a, .int 1000000000])) t1 = _ from upd_same)))
  have e2 := z4 _ _ (z3 _ _ (show (upd (upd H t1 (.tup [a, .int 1000000000])) t2 (.tup [b, .int 1000000])) t2 = _ from upd_same))
  have e3 := z4 _ _ (show (upd (upd (upd H t1 (.tup [a, .int 1000000000])) t2 (.tup [b, .int 1000000])) t3 (.tup [c, .int 1000000])) t3 = _ from upd_same)
  have e4 : (upd (upd (upd (upd H t1 (.tup [a, .int 1000000000])) t2 (.tup [b, .int 1000000])) t3 (.tup [c, .int 1000000])) l (.lst [V.ref t1, .ref t2, .ref t3])) l = some (.lst [V.ref t1, .ref t2, .ref t3]) := upd_same
  have z := ((z1.trans z2).trans z3).trans z4
  generalize upd (upd (upd (upd H t1 (.tup [a, .int 1000000000])) t2 (.tup [b, .int 1000000])) t3 (.tup [c, .int 1000000])) l (.lst [V.ref t1, .ref t2, .ref t3]) = H4 at e1 e2 e3 e4 z ⊢
  refine ⟨l, rfl, ⟨_, SqL.of e4⟩, for_list (K := K) (a := l) (xs := [V.ref t1, .ref t2, .ref t3]) (fun i σ H' => ∃ w7 w8 w9, σ = [some (.ref p), some a, some b, some c, some d, some e, some f, w7, w8, w9] ∧ H' = H4 ∧ (1 ≤ i → whl a 1 1000000000 = true) ∧ (2 ≤ i → whl b 1 1000000 = true) ∧ (3 ≤ i → whl c 1 1000000 = true)) ⟨_, _, _, rfl, rfl, fun h => absurd h (by decide), fun h => absurd h (by decide), fun h => absurd h (by decide)⟩ (fun i σ H' _ h => ?_) ?_ ?_⟩
  · obtain ⟨_, _, _, _, rfl, _⟩ := h
    exact SqL.of e4
  · rintro i x σ H5 hi ⟨w7, w8, w9, rfl, rfl, k1, k2, k3⟩
    have key : ∃ (t : Addr) (v : V) (m : Int), x = .ref t ∧ H5 t = some (.tup [v, .int m]) ∧ Th K H5 v ∧ (whl v 1 m = false → okRw a b c d e f = false) ∧ (whl v 1 m = true → (1 ≤ i + 1 → whl a 1 1000000000 = true) ∧ (2 ≤ i + 1 → whl b 1 1000000 = true) ∧ (3 ≤ i + 1 → whl c 1 1000000 = true)) := by
      have hi3 : i < 3 := (List.getElem?_eq_some_iff.mp hi).1
      have : i = 0 ∨ i = 1 ∨ i = 2 := by omega
      rcases this with rfl | rfl | rfl
      · cases hi
        exact ⟨t1, a, _, rfl, e1, k.ta.same z, (fun h => by unfold okRw; rw [h]; rfl), (fun h => ⟨fun _ => h, fun h => absurd h (by decide), fun h => absurd h (by decide)⟩)⟩
      · cases hi
        exact ⟨t2, b, _, rfl, e2, k.tb.same z, (fun h => by unfold okRw; rw [h, Bool.and_false]; rfl), (fun h => ⟨fun _ => k1 (by decide), fun _ => h, fun h => absurd h (by decide)⟩)⟩
      · cases hi
        exact ⟨t3, c, _, rfl, e3, k.tc.same z, (fun h => by unfold okRw; rw [h, Bool.and_false]; rfl), (fun h => ⟨fun _ => k1 (by decide), fun _ => k2 (by decide), fun _ => h⟩)⟩
    obtain ⟨t, v, m, rfl, et, th, kn, ky⟩ := key
    refine ⟨t, _, rfl, .inl (.inl et), rfl, _, _, rfl, _, _, rfl, rfl, ?_⟩
    obtain ⟨ti, ty1, c1⟩ := isi_int th
    obtain ⟨tb, ty2, c2⟩ := isi_bool th
    refine ⟨_, rfl, v, _, ti, _, _, rfl, .ty _, ty1, c1, _, rfl, ?_⟩
    cases v with
    | int n =>
      refine iteF ⟨_, rfl, _, _, tb, _, _, rfl, .ty _, ty2, c2, _, rfl, iteF ?_⟩
      have we : whl (.int n) 1 m = (decide (1 ≤ n) && decide (n ≤ m)) := rfl
      refine ⟨_, rfl, _, _, rfl, rfl, _, rfl, ite2 (fun h => ?_) (fun h => ?_)⟩
      · refine ⟨_, rfl, _, _, rfl, rfl, _, rfl, ?_⟩
        rw [h, Bool.true_and] at we
        rw [← we]
        cases hw : whl (.int n) 1 m with
        | true => exact iteF ⟨_, _, _, rfl, rfl, ky hw⟩
        | false => exact iteT (yes _ z (kn hw))
      · rw [Bool.not_eq_true] at h
        rw [h, Bool.false_and] at we
        exact ⟨_, rfl, iteT (yes _ z (kn we))⟩
    | bl n => exact iteF ⟨_, rfl, _, _, tb, _, _, rfl, .ty _, ty2, c2, _, rfl, iteT (iteT (yes _ z (kn rfl)))⟩
    | str n => exact iteT (iteT (yes _ z (kn rfl)))
    | non => exact iteT (iteT (yes _ z (kn rfl)))
    | ref n => exact iteT (iteT (yes _ z (kn rfl)))
    | _ => nomatch th
  · rintro σ H5 ⟨w7, w8, w9, rfl, rfl, k1, k2, k3⟩
    have k1 := k1 (by simp)
    have k2 := k2 (by simp)
    have k3 := k3 (by simp)
    refine ⟨_, rfl, _, rfl, (by show 2 ≤ sizeLine; decide), fun l6 hl6 => ?_⟩
    have z6 := same_upd hl6 (o := .lst [d, e])
    have zz := z.trans z6
    refine ⟨l6, rfl, ⟨_, SqL.of upd_same⟩, for_list (K := K) (a := l6) (xs := [d, e]) (fun i σ H' => ∃ w7 w8 w9, σ = [some (.ref p), some a, some b, some c, some d, some e, some f, w7, w8, w9] ∧ Same H H' ∧ H' l6 = some (.lst [d, e]) ∧ (1 ≤ i → nm d = true) ∧ (2 ≤ i → nm e = true)) ⟨_, _, _, rfl, zz, upd_same, fun h => absurd h (by decide), fun h => absurd h (by decide)⟩ (fun i σ H' _ h => ?_) ?_ ?_⟩
    · obtain ⟨_, _, _, _, _, h, _⟩ := h
      exact SqL.of h
    · rintro i x σ H7 hi ⟨w7, w8, w9, rfl, s7, e7, m1, m2⟩
      have key : Th K H7 x ∧ Wd x ∧ (nm x = false → okRw a b c d e f = false) ∧ (nm x = true → (1 ≤ i + 1 → nm d = true) ∧ (2 ≤ i + 1 → nm e = true)) := by
        have hi3 : i < 2 := (List.getElem?_eq_some_iff.mp hi).1
        have : i = 0 ∨ i = 1 := by omega
        rcases this with rfl | rfl
        · cases hi
          exact ⟨k.td.same s7, k.wd, (fun h => by unfold okRw; rw [h, Bool.and_false]; rfl), (fun h => ⟨fun _ => h, fun h => absurd h (by decide)⟩)⟩
        · cases hi
          exact ⟨k.te.same s7, k.we, (fun h => by unfold okRw; rw [h, Bool.and_false]; rfl), (fun h => ⟨fun _ => m1 (by decide), fun _ => h⟩)⟩
      obtain ⟨th, wx, kn, ky⟩ := key
      obtain ⟨ti, ty1, c1⟩ := isi_str th
      refine ⟨_, rfl, x, _, ti, _, _, rfl, .ty _, ty1, c1, _, rfl, ?_⟩
      cases x with
      | str y =>
        rcases wx y rfl with hy | rfl | rfl
        · obtain ⟨hl8, _⟩ := nm_low hy
          have hl1 : 1 ≤ y.length := by
            have nmE : nm (.str y) = (decide (1 ≤ y.length) && decide (y.length ≤ 8) && y.cps.toList.all lower) := rfl
            rw [nmE] at hy
            simp only [Bool.and_eq_true, decide_eq_true_eq] at hy
            exact hy.1.1
          refine iteF ⟨_, rfl, y, rfl, Nat.le_trans hl8 (by decide), _, _, rfl, rfl, _, rfl, ?_⟩
          rw [decide_eq_true (show (1 : Int) ≤ (y.length : Int) by omega)]
          refine iteT ⟨_, _, rfl, rfl, _, rfl, ?_⟩
          rw [decide_eq_true (show (y.length : Int) ≤ 8 by omega)]
          refine iteF ⟨_, rfl, _, rfl, rfl, y, rfl, rfl, Nat.le_trans hl8 (by decide), rfl, _, rfl, ?_⟩
          rw [low_same hy, decide_eq_true rfl]
          exact iteF ⟨_, _, _, rfl, s7, e7, ky hy⟩
        · have hf : nm (.str "Rose") = false := by decide +kernel
          refine iteF ⟨_, rfl, _, rfl, (by decide +kernel), _, _, rfl, rfl, _, rfl, ?_⟩
          rw [decide_eq_true (show (1 : Int) ≤ (("Rose" : Str).length : Int) by decide +kernel)]
          refine iteT ⟨_, _, rfl, rfl, _, rfl, ?_⟩
          rw [decide_eq_true (show (("Rose" : Str).length : Int) ≤ 8 by decide +kernel)]
          refine iteF ⟨_, rfl, _, rfl, rfl, _, rfl, rfl, (by decide +kernel), rfl, _, rfl, ?_⟩
          rw [decide_eq_false (show ¬ V.str "Rose" = V.str (Txt.lower "Rose") by decide +kernel)]
          exact iteT (yes _ s7 (kn hf))
        · have hf : nm (.str "") = false := by decide +kernel
          refine iteF ⟨_, rfl, _, rfl, (by decide +kernel), _, _, rfl, rfl, _, rfl, ?_⟩
          rw [decide_eq_false (show ¬ (1 : Int) ≤ (("" : Str).length : Int) by decide +kernel)]
          exact iteF ⟨_, rfl, iteT (iteT (yes _ s7 (kn hf)))⟩
      | int n => exact iteT (iteT (yes _ s7 (kn rfl)))
      | bl n => exact iteT (iteT (yes _ s7 (kn rfl)))
      | non => exact iteT (iteT (yes _ s7 (kn rfl)))
      | ref n => exact iteT (iteT (yes _ s7 (kn rfl)))
      | _ => nomatch th
    · rintro σ H7 ⟨w7, w8, w9, rfl, s7, e7, m1, m2⟩
      have m1 := m1 (by simp)
      have m2 := m2 (by simp)
      obtain ⟨tb, ty2, c2⟩ := isi_bool (k.tf.same s7)
      refine ⟨_, rfl, f, _, tb, _, _, rfl, .ty _, ty2, c2, _, rfl, ?_⟩
      have := q H7 s7
      unfold okRw at this
      rw [k1, k2, k3, m1, m2] at this
      exact this
theorem asRw_yes {a b c d e f : V} (h : okRw a b c d e f = true) : ∃ r, asRw a b c d e f = some r := by
  have h0 := h
  unfold okRw at h
  simp only [Bool.and_eq_true] at h
  obtain ⟨⟨⟨⟨⟨h1, h2⟩, h3⟩, h4⟩, h5⟩, h6⟩ := h
  obtain ⟨x, rfl⟩ := whl_int h1
  obtain ⟨y, rfl⟩ := whl_int h2
  obtain ⟨z, rfl⟩ := whl_int h3
  obtain ⟨sh, rfl⟩ := nm_str h4
  obtain ⟨fo, rfl⟩ := nm_str h5
  obtain ⟨g, rfl⟩ : ∃ g, f = .bl g := by
    cases f with
    | bl g => exact ⟨g, rfl⟩
    | _ => cases h6
  exact ⟨_, if_pos h0⟩
theorem asRw_is (a b c d e f : V) : (asRw a b c d e f).isSome = okRw a b c d e f := by
  cases h : okRw a b c d e f with
  | true =>
    obtain ⟨r, hr⟩ := asRw_yes h
    rw [hr]
    rfl
  | false =>
    rw [asRw_no h]
    rfl
def spIsRow (K : PySem.W.Frag) : Sp := fun vs H Q _ => ∃ (v : V) (o : Option Rw), vs = [v] ∧ ThX K H v o ∧ ∀ H', Same H H' → Q (.bl o.isSome) H'
theorem ok_is_row (T : Tx K mg) : FnOk P w K mg base CX0 3 T.A_is_row T.fd_is_row ["_law_thing"] (spIsRow K) := by
  refine T.F_is_row.ok sc_is_row (fun vs H Q E h => ?_) (fun cdv A outer s H vs Q E hr h => ?_)
  · obtain ⟨v, o, rfl, hv, q⟩ := h
    rfl
  obtain ⟨v, o, rfl, hv, q⟩ := h
  refine ⟨_, (pss_one (ps_ret (pe_and (pe_callB call_isi (by rfl) T.z_isinstance (by decide +kernel) (pa_cons (pv 0) (pa_cons (pe_bltn (v := .ty "tuple") (by rfl) T.z_tuple (by decide +kernel) rfl) pa_nil))) (pe_and (pe_cmpR op_eq (pe_callB call_len_seq (by rfl) T.z_len PySem.boot_len (pa_cons (pv 0) pa_nil)) pe_int (nomark _)) (pe_one (pe_not (pe_call (ok_has_odd T) (hr.mono (by decide)) (by rfl) T.g_has_odd T.F_has_odd.kp T.b_has_odd .nil pass0 (pa_cons (pv 0) pa_nil)))))))), ?_⟩
  cases hv with
  | no h k => exact ⟨_, rfl, _, _, _, _, _, rfl, .ty _, h, k, _, rfl, iteF (q _ (Same.refl _))⟩
  | len h k =>
    refine ⟨_, rfl, _, _, _, _, _, rfl, .ty _, .base (.tup h), kit_ty (r := true) (by decide +kernel), _, rfl, iteT ?_⟩
    refine ⟨_, rfl, _, _, rfl, .inr (.inl (.inl h)), rfl, _, rfl, ?_⟩
    rw [decide_eq_false (show ¬ V.int _ = V.int 6 by intro z; injection z with z; omega)]
    exact iteF (q _ (Same.refl _))
  | six h k =>
    refine ⟨_, rfl, _, _, _, _, _, rfl, .ty _, .base (.tup h), kit_ty (r := true) (by decide +kernel), _, rfl, iteT ?_⟩
    refine ⟨_, rfl, _, _, rfl, .inr (.inl (.inl h)), rfl, _, rfl, iteT ?_⟩
    refine ⟨_, rfl, _, _, _, _, _, _, _, rfl, h, k, fun H1 s1 => ⟨_, rfl, ?_⟩⟩
    have := q H1 s1
    rw [asRw_is] at this
    rw [Bool.not_not]
    exact this
theorem seqIx {k n : Nat} (h : k < n) : seqIndex? (k : Int) n = some k := by
  unfold seqIndex?
  simp
  omega
theorem RwL.erase {H : Hp} {xs : List V} {rs : List Rw} (h : RwL H xs rs) (k : Nat) : RwL H (xs.eraseIdx k) (rs.eraseIdx k) := by
  refine ⟨by rw [List.length_eraseIdx, List.length_eraseIdx, h.1], fun i r hr => ?_⟩
  rw [List.getElem?_eraseIdx] at hr ⊢
  split at hr
  · rename_i hk
    rw [if_pos hk]
    exact h.2 i r hr
  · rename_i hk
    rw [if_neg hk]
    exact h.2 _ r hr
def spShuf : Sp := fun vs H Q _ => ∃ (d l : Addr) (n : Nat) (xs : List V) (rs : List Rw), vs = [.ref d, .ref l] ∧ l ≠ d ∧ H l = some (.lst xs) ∧ RwL H xs rs ∧ rs.length ≤ 20 ∧ (∀ r ∈ rs, GoodRw r) ∧ Dr PM d n H ∧ n ≤ 5000 ∧
  ∀ (H' : Hp) (m : Addr) (ys : List V) (qs : List Rw), H m = none → m ≠ d → H' m = some (.lst ys) → RwL H' ys qs → qs.length = rs.length → (∀ r ∈ qs, GoodRw r) → But d H H' → Dr PM d (n + 20) H' → Q (.ref m) H'
theorem ok_shuffled (T : Tx K mg) : FnOk P w K mg base CX0 2 T.A_shuffled T.fd_shuffled ["_law_draws_here", "_law_rows"] (spShuf) := by
  refine T.F_shuffled.ok sc_shuffled (fun vs H Q E h => ?_) (fun cdv A outer s H vs Q E hr h => ?_)
  · obtain ⟨d, l, n, xs, rs, rfl, nl, hl, hX, hlen, hG, dr, hn, q⟩ := h
    rfl
  obtain ⟨d, l, n, xs, rs, rfl, nl, hl, hX, hlen, hG, dr, hn, q⟩ := h
  refine ⟨_, (pss_cons (ps_set (i := 2) sc_shuffled.nd rfl (Or.inr rfl) (pe_callTy call_list_of (by rfl) T.z_list (by decide +kernel) (pa_cons (pv 1) pa_nil)))
      (pss_one (ps_ret (pe_lc (own := [("_law_k", 3)]) (g := gName 3) (tt := tYes) rfl sc_shuffled.nd (pi_range1 (by rfl) T.z_range (pa_cons (pe_callB call_len_seq (by rfl) T.z_len PySem.boot_len (pa_cons (pv 1) pa_nil)) pa_nil)) (blkOk_by (N := ["_law_draws_here", "_law_rows", "_law_left", "_law_k"]) (sc := defScope s_shuffled) (by decide +kernel)) (fun _ _ _ _ _ => (pg_name (i := 3) sc_shuffled.nd rfl (Or.inl rfl))) (fun _ _ _ _ _ => pts_nil) (fun _ _ _ _ _ => (pe_bmK (K' := K) rfl PySem.F.plainAttrs_list PySem.F.slot_list_pop PySem.F.type_list_pop mt_popAt (pv 2) (pa_cons (pe_call (ok_one T) (hr.mono (by decide)) (by rfl) T.g_one T.F_one.kp T.b_one .nil pass0 (pa_cons (pv 0) (pa_cons (pe_callB (call_len_seqK (K' := K) rfl) (by rfl) T.z_len PySem.boot_len (pa_cons (pv 2) pa_nil)) pa_nil))) pa_nil))))))), ?_⟩
  have hxl := hX.1
  refine ⟨_, rfl, l, xs, rfl, .inl (SqL.of hl), fun f hf => ?_⟩
  have z1 := same_upd hf (o := .lst xs)
  have nf : f ≠ d := dr.ne hf
  refine ⟨_, rfl, l, xs, rfl, .inl (SqL.of (z1 _ _ hl)), (xs.length : Int), rfl, by omega, by omega, fun D hD => ?_⟩
  have nD : D ≠ d := (dr.same z1).ne hD
  have nDf : f ≠ D := ne_of_none upd_same hD
  have hD0 : H D = none := by
    rw [upd_ne nDf.symm] at hD
    exact hD
  refine lc_range (lo := 0) (n := ((xs.length : Nat) : Int).toNat) (fun i H' => ∃ ls lr acc ar, H' f = some (.lst ls) ∧ RwL H' ls lr ∧ lr.length + i = rs.length ∧ (∀ r ∈ lr, GoodRw r) ∧ H' D = some (.lst acc) ∧ RwL H' acc ar ∧ ar.length = i ∧ (∀ r ∈ ar, GoodRw r) ∧ But d H H' ∧ Dr PM d (n + i) H') ?_ ?_ ?_
  · refine ⟨xs, rs, [], [], ?_, (hX.nl (NL.of z1)).nl (NL.of (same_upd hD)), rfl, hG, upd_same, ⟨rfl, fun i r h => by simp at h⟩, rfl, (fun r h => by cases h), But.of (z1.trans (same_upd hD)), (dr.same z1).upd nD⟩
    rw [upd_ne nDf]
    exact upd_same
  · rintro i H2 hi ⟨ls, lr, acc, ar, ef, hL, hlr, gL, eD, hA, har, gA, b2, dr2⟩
    rw [Int.toNat_natCast] at hi
    have hll := hL.1
    refine ⟨rfl, yesT ⟨_, rfl, .inl ⟨rfl, _, SqL.of ef⟩, _, rfl, _, rfl, f, ls, rfl, .inl (SqL.of ef), d, _, _, rfl, by omega, log_tiny (by omega) (by omega), dr2, by omega, fun H3 r3 a3 c3 b3 dr3 => ?_⟩⟩
    obtain ⟨k, rfl⟩ : ∃ k : Nat, r3 = (k : Int) := ⟨r3.toNat, by omega⟩
    have hk : k < ls.length := by omega
    have hkr : k < lr.length := by omega
    have ef3 := b3 _ _ nf ef
    have eD3 := b3 _ _ nD eD
    have n3 := But.nl6 b3 dr2
    obtain ⟨t, ht, htv⟩ := (hL.nl n3).2 k _ (List.getElem?_eq_getElem hkr)
    refine ⟨f, ls, _, k, .ref t, rfl, rfl, ef3, by omega, by omega, seqIx hk, ht, acc, ?_, ?_, ls.eraseIdx k, lr.eraseIdx k, acc ++ [.ref t], ar ++ [lr[k]], ?_, ?_, ?_, ?_, upd_same, ?_, ?_, ?_, ?_, ?_⟩
    · rw [upd_ne nDf.symm]
      exact eD3
    · rw [hA.1, har]
      exact Nat.lt_of_lt_of_le (show i < 10000 by omega) (by decide)
    · rw [upd_ne nDf, upd_same]
    · exact ((hL.nl n3).erase k).nl ((NL.at_ ef3).trans (NL.at_ (by rw [upd_ne nDf.symm]; exact eD3)))
    · rw [List.length_eraseIdx_of_lt hkr]
      omega
    · exact fun r hr => gL r (List.mem_of_mem_eraseIdx hr)
    · exact ((hA.nl n3).snoc htv).nl ((NL.at_ ef3).trans (NL.at_ (by rw [upd_ne nDf.symm]; exact eD3)))
    · rw [List.length_append, har]
      rfl
    · intro r hr
      rcases List.mem_append.mp hr with hr | hr
      · exact gA r hr
      · rw [List.mem_singleton] at hr
        subst hr
        exact gL _ (List.getElem_mem hkr)
    · exact ((b2.trans b3).mut hf).mut hD0
    · exact ((dr3.upd nf).upd nD).mono (by omega)
  · rintro H2 ⟨ls, lr, acc, ar, ef, hL, hlr, gL, eD, hA, har, gA, b2, dr2⟩
    rw [Int.toNat_natCast] at har
    exact q H2 D acc ar hD0 nD eD hA (by omega) gA b2 (dr2.mono (by omega))
end
end KB
namespace KB
open PySem PySem.Spec PyProof.Rows L2 KA LamX
section
variable {P : Program} {w : World} {K : PySem.W.Frag} {mg : Str → Option Value} {base : Heap}
/-- what is put for one of the six -/
inductive OddV (d : Addr) (H : Hp) : V → Prop
  | int (i : Int) : OddV d H (.int i)
  | non : OddV d H .non
  | rose : OddV d H (.str "Rose")
  | emp : OddV d H (.str "")
  | lst {l : Addr} {xs : List V} (n : l ≠ d) (h : H l = some (.lst xs)) : OddV d H (.ref l)
  | tup {l : Addr} {xs : List V} (n : l ≠ d) (h : H l = some (.tup xs)) : OddV d H (.ref l)
theorem OddV.but {d : Addr} {H H' : Hp} {v : V} (h : OddV d H v) (b : But d H H') : OddV d H' v := by
  cases h with
  | int i => exact .int i
  | non => exact .non
  | rose => exact .rose
  | emp => exact .emp
  | lst n h => exact .lst n (b _ _ n h)
  | tup n h => exact .tup n (b _ _ n h)
theorem OddV.th {d : Addr} {H : Hp} {v : V} (h : OddV d H v) : Th K H v ∧ Wd v := by
  cases h with
  | int i => exact ⟨.int i, fun z e => by cases e⟩
  | non => exact ⟨.non, fun z e => by cases e⟩
  | rose => exact ⟨.str _, fun z e => by cases e; exact .inr (.inl rfl)⟩
  | emp => exact ⟨.str _, fun z e => by cases e; exact .inr (.inr rfl)⟩
  | lst n h => exact ⟨.lst (.base (.lst h)), fun z e => by cases e⟩
  | tup n h => exact ⟨.tup (.base (.tup h)), fun z e => by cases e⟩
theorem row_th {r : Rw} (g : GoodRw r) {H : Hp} {y : V} (hy : y ∈ rowVals r) : Th K H y ∧ Wd y := by
  unfold rowVals at hy
  simp only [List.mem_cons, List.not_mem_nil, or_false] at hy
  rcases hy with rfl | rfl | rfl | rfl | rfl | rfl
  · exact ⟨.int _, fun z e => by cases e⟩
  · exact ⟨.int _, fun z e => by cases e⟩
  · exact ⟨.int _, fun z e => by cases e⟩
  · exact ⟨.str _, fun z e => by cases e; exact .inl g.2.2.2.1⟩
  · exact ⟨.str _, fun z e => by cases e; exact .inl g.2.2.2.2⟩
  · exact ⟨.bl _, fun z e => by cases e⟩
theorem six_of {H : Hp} {p : Addr} {xs : List V} (h : H p = some (.tup xs)) (hl : xs.length = 6) (hy : ∀ y ∈ xs, Th K H y ∧ Wd y) : ∃ o, ThX K H (.ref p) o := by
  match xs, hl with
  | [a, b, c, d, e, f], _ =>
    have m := fun y (hm : y ∈ [a, b, c, d, e, f]) => hy y hm
    exact ⟨_, .six h ⟨(m a (by simp)).1, (m b (by simp)).1, (m c (by simp)).1, (m d (by simp)).1, (m e (by simp)).1, (m f (by simp)).1, (m d (by simp)).2, (m e (by simp)).2⟩⟩
theorem nopart {σ : L2.St} {H : Hp} {R : Option Int → Hp → Prop} (h : R none H) : tNoPart σ H R := h
def spSpoilt (K : PySem.W.Frag) : Sp := fun vs H Q _ => ∃ (d t : Addr) (n : Nat) (r : Rw), vs = [.ref d, .ref t] ∧ H t = some (.tup (rowVals r)) ∧ GoodRw r ∧ Dr PM d n H ∧ n ≤ 9000 ∧
  ∀ (H' : Hp) (v : V) (o : Option Rw), ThX K H' v o → But d H H' → Dr PM d (n + 3) H' → Q v H'
theorem ok_spoilt (T : Tx K mg) : FnOk P w K mg base CX0 3 T.A_spoilt T.fd_spoilt ["_law_draws_here", "_law_row"] (spSpoilt K) := by
  refine T.F_spoilt.ok sc_spoilt (fun vs H Q E h => ?_) (fun cdv A outer s H vs Q E hr h => ?_)
  · obtain ⟨d, t, n, r, rfl, ht, hg, dr, hn, q⟩ := h
    rfl
  obtain ⟨d, t, n, r, rfl, ht, hg, dr, hn, q⟩ := h
  refine ⟨_, (pss_cons (ps_set (i := 2) sc_spoilt.nd rfl (Or.inl rfl) (pe_call (ok_one T) (hr.mono (by decide)) (by rfl) T.g_one T.F_one.kp T.b_one .nil pass0 (pa_cons (pv 0) (pa_cons pe_int pa_nil))))
      (pss_cons (ps_set (i := 3) sc_spoilt.nd rfl (Or.inl rfl) (pe_call (ok_of T) (hr.mono (by decide)) (by rfl) T.g_of T.F_of.kp T.b_of .nil pass0 (pa_cons (pv 0) (pa_cons (pe_lst (pa_cons pe_non (pa_cons pe_int (pa_cons (pe_un un_neg pe_int) (pa_cons pe_str (pa_cons pe_str (pa_cons (pe_op op_add (pe_op op_pow pe_int pe_int) pe_int) (pa_cons (pe_lst (pa_cons (pe_ix ix_tup (pv 1) (pv 2) (fun _ _ => rfl)) pa_nil)) (pa_cons (pe_tup (pa_cons (pe_ix ix_tup (pv 1) (pv 2) (fun _ _ => rfl)) pa_nil)) pa_nil))))))))) pa_nil))))
      (pss_cons (ps_set (i := 4) sc_spoilt.nd rfl (Or.inl rfl) (pe_lst (pa_cons (pe_callTy call_list_of (by rfl) T.z_list (by decide +kernel) (pa_cons (pv 1) pa_nil)) (pa_cons (pe_op op_catA (pe_slice sl_tupA (pv 1) po_none (po_some (pv 2))) (pe_slice sl_tupA (pv 1) (po_some (pe_op op_add (pv 2) pe_int)) po_none)) (pa_cons (pe_op op_catA (pv 1) (pe_tup (pa_cons (pe_ix ix_tup (pv 1) (pv 2) (fun _ _ => rfl)) pa_nil))) pa_nil)))))
      (pss_cons (ps_set (i := 4) sc_spoilt.nd rfl (Or.inl rfl) (pe_op op_cat (pv 4) (pe_lst (pa_cons (pe_tup pa_nil) (pa_cons pe_non (pa_cons pe_str (pa_cons pe_int (pa_cons (pe_tup (pa_cons (pv 1) pa_nil)) pa_nil))))))))
      (pss_cons (ps_expr (pe_bm PySem.F.plainAttrs_list PySem.F.slot_list_append PySem.F.type_list_append mt_append (pv 4) (pa_cons (pe_op op_catA (pe_op op_catA (pe_slice sl_tupA (pv 1) po_none (po_some (pv 2))) (pe_tup (pa_cons (pv 3) pa_nil))) (pe_slice sl_tupA (pv 1) (po_some (pe_op op_add (pv 2) pe_int)) po_none)) pa_nil)))
      (pss_one (ps_ret (pe_call (ok_of T) (hr.mono (by decide)) (by rfl) T.g_of T.F_of.kp T.b_of .nil pass0 (pa_cons (pv 0) (pa_cons (pe_op op_cat (pv 4) (pe_lst (pa_cons (pe_ix ix_list (pv 4) (pe_un un_neg pe_int) (fun _ _ => rfl)) (pa_cons (pe_op op_catA (pv 1) (pe_tup pa_nil)) pa_nil)))) pa_nil)))))))))), ?_⟩
  refine ⟨_, rfl, d, 6, n, rfl, by decide, log_tiny (by decide) (by decide), dr, by omega, fun H1 r1 a1 c1 b1 dr1 => ?_⟩
  obtain ⟨k, rfl⟩ : ∃ k : Nat, r1 = (k : Int) := ⟨r1.toNat, by omega⟩
  have nt : t ≠ d := fun z => by
    obtain ⟨_, _, _, e, _⟩ := dr
    rw [← z, ht] at e
    cases e
  have ht1 := b1 _ _ nt ht
  have hk : k < (rowVals r).length := by show k < 6; omega
  have hx : (rowVals r)[k]? = some (rowVals r)[k] := List.getElem?_eq_getElem hk
  have hxm : (rowVals r)[k] ∈ rowVals r := List.getElem_mem hk
  generalize (rowVals r)[k] = xk at hx hxm
  have hT1 : SqT K H1 t (rowVals r) := .inl (.inl ht1)
  refine ⟨_, rfl, _, rfl, _, _, rfl, rfl, ⟨by decide, by decide, by decide⟩, _, _, rfl, rfl, _, rfl, _, rfl, t, _, _, _, rfl, rfl, hT1, atI_nat hx, (by show 1 ≤ sizeLine; decide), fun l1 hl1 => ?_⟩
  have z1 := same_upd hl1 (o := .lst [xk])
  refine ⟨_, rfl, _, rfl, t, _, _, _, rfl, rfl, .inl (.inl (z1 _ _ ht1)), atI_nat hx, (by show 1 ≤ sizeLine; decide), fun l2 hl2 => ?_⟩
  have z2 := same_upd hl2 (o := .tup [xk])
  refine ⟨(by show 8 ≤ sizeLine; decide), fun l3 hl3 => ?_⟩
  have z3 := same_upd hl3 (o := .lst [V.non, .int 0, .int (-3), .str "Rose", .str "", .int (10 ^ (9 : Int).toNat + 1), .ref l1, .ref l2])
  have n1 : l1 ≠ d := dr1.ne hl1
  have n2 : l2 ≠ d := (dr1.same z1).ne hl2
  have n3 : l3 ≠ d := (dr1.same (z1.trans z2)).ne hl3
  have z13 := (z1.trans z2).trans z3
  refine ⟨d, l3, n + 1, _, rfl, n3, SqL.of upd_same, by simp, by show 8 ≤ 1000; decide, dr1.same z13, by omega, fun H4 v hv b4 dr4 => ?_⟩
  have b14 : But d H1 H4 := (But.of z13).trans b4
  have hodd : OddV d H4 v := by
    simp only [List.mem_cons, List.not_mem_nil, or_false] at hv
    rcases hv with rfl | rfl | rfl | rfl | rfl | rfl | rfl | rfl
    · exact .non
    · exact .int _
    · exact .int _
    · exact .rose
    · exact .emp
    · exact .int _
    · exact .lst n1 (b4 _ _ n1 ((z2.trans z3) _ _ upd_same))
    · exact .tup n2 (b4 _ _ n2 (z3 _ _ upd_same))
  have ht4 := b14 _ _ nt ht1
  have bt4 : But d H H4 := b1.trans b14
  clear hv z1 z2 z3 z13 b14 b4 dr1 b1 ht1 hT1
  refine ⟨_, rfl, t, _, rfl, .inr (.inl (.inl ht4)), fun m1 hm1 => ?_⟩
  have y1 := same_upd hm1 (o := .lst (rowVals r))
  refine ⟨_, rfl, _, rfl, _, rfl, sla_of (y1 _ _ ht4) fun H5 p5 s5 e5 => ?_⟩
  rw [cut_to] at e5
  have s45 := y1.trans s5
  refine ⟨_, rfl, _, rfl, _, _, rfl, rfl, _, rfl, ?_⟩
  refine nopart (sla_of (s45 _ _ ht4) fun H6 p6 s6 e6 => ?_)
  have c1 : ((k : Int) + 1) = ((k + 1 : Nat) : Int) := by omega
  rw [c1, cut_from] at e6
  refine cata_of (s6 _ _ e5) e6 ?_ fun H7 p7 s7 e7 => ?_
  · rw [List.length_take, List.length_drop]
    exact sz _ (by show _ + (6 - _) ≤ _; omega)
  have s47 := (s45.trans s6).trans s7
  have l7 : ((rowVals r).take k ++ (rowVals r).drop (k + 1)).length = 5 := by
    rw [List.length_append, List.length_take, List.length_drop]
    show min k 6 + (6 - (k + 1)) = 5
    omega
  generalize (rowVals r).take k ++ (rowVals r).drop (k + 1) = xs7 at e7 l7
  have ht7 := s47 _ _ ht4
  refine ⟨_, rfl, _, rfl, _, rfl, t, _, _, _, rfl, rfl, .inl (.inl ht7), atI_nat hx, (by show 1 ≤ sizeLine; decide), fun q8 hq8 => ?_⟩
  have y8 := same_upd hq8 (o := .tup [xk])
  refine cata_of (y8 _ _ ht7) upd_same (by show 6 + 1 ≤ sizeLine; decide) fun H9 p9 s9 e9 => ?_
  have l9 : (rowVals r ++ [xk]).length = 7 := rfl
  generalize rowVals r ++ [xk] = xs9 at e9 l9
  have s79 := y8.trans s9
  refine ⟨(by show 3 ≤ sizeLine; decide), fun L hL => ?_⟩
  have yL := same_upd hL (o := .lst [V.ref m1, .ref p7, .ref p9])
  have em1 : (upd H9 L (.lst [V.ref m1, .ref p7, .ref p9])) m1 = some (.lst (rowVals r)) := yL _ _ (s79 _ _ ((s5.trans (s6.trans s7)) _ _ upd_same))
  have ep7 := yL _ _ (s79 _ _ e7)
  have ep9 := yL _ _ e9
  have eL : (upd H9 L (.lst [V.ref m1, .ref p7, .ref p9])) L = some (.lst [V.ref m1, .ref p7, .ref p9]) := upd_same
  have s410 := (s47.trans s79).trans yL
  generalize upd H9 L (.lst [V.ref m1, .ref p7, .ref p9]) = H10 at em1 ep7 ep9 eL s410 ⊢
  refine ⟨_, rfl, (by show 0 ≤ sizeLine; decide), fun u0 hu0 => ?_⟩
  have x0 := same_upd hu0 (o := .tup [])
  refine ⟨_, rfl, (by show 1 ≤ sizeLine; decide), fun u1 hu1 => ?_⟩
  have x1 := same_upd hu1 (o := .tup [V.ref t])
  refine ⟨(by show 5 ≤ sizeLine; decide), fun L2 hL2 => ?_⟩
  have x2 := same_upd hL2 (o := .lst [V.ref u0, .non, .str "row", .int 7, .ref u1])
  have x02 := (x0.trans x1).trans x2
  refine ⟨L, L2, _, _, rfl, rfl, x02 _ _ eL, upd_same, (by show 3 + 5 ≤ sizeLine; decide), fun L3 hL3 => ?_⟩
  have x3 := same_upd hL3 (o := .lst ([V.ref m1, .ref p7, .ref p9] ++ [V.ref u0, .non, .str "row", .int 7, .ref u1]))
  have x03 := x02.trans x3
  have eu0 := (x1.trans (x2.trans x3)) _ _ (show (upd H10 u0 (.tup [])) u0 = _ from upd_same)
  have eu1 := (x2.trans x3) _ _ (show (upd (upd H10 u0 (.tup [])) u1 (.tup [V.ref t])) u1 = _ from upd_same)
  have eL3 : (upd (upd (upd (upd H10 u0 (.tup [])) u1 (.tup [V.ref t])) L2 (.lst [V.ref u0, .non, .str "row", .int 7, .ref u1])) L3 (.lst ([V.ref m1, .ref p7, .ref p9] ++ [V.ref u0, .non, .str "row", .int 7, .ref u1]))) L3 = some (.lst [V.ref m1, .ref p7, .ref p9, .ref u0, .non, .str "row", .int 7, .ref u1]) := upd_same
  have em1 := x03 _ _ em1
  have ep7 := x03 _ _ ep7
  have ep9 := x03 _ _ ep9
  have s411 := s410.trans x03
  have nm1 : m1 ≠ L3 := ne_of_none (x02 _ _ ‹_›) hL3
  have hL30 : H4 L3 = none := (s410.trans x02).free hL3
  generalize upd (upd (upd (upd H10 u0 (.tup [])) u1 (.tup [V.ref t])) L2 (.lst [V.ref u0, .non, .str "row", .int 7, .ref u1])) L3 (.lst ([V.ref m1, .ref p7, .ref p9] ++ [V.ref u0, .non, .str "row", .int 7, .ref u1])) = H11 at em1 ep7 ep9 eu0 eu1 eL3 s411 ⊢
  have ht11 := s411 _ _ ht4
  refine ⟨_, rfl, .inl ⟨rfl, _, SqL.of eL3⟩, _, rfl, _, rfl, _, rfl, sla_of ht11 fun H12 p12 s12 e12 => ?_⟩
  rw [cut_to] at e12
  refine ⟨_, rfl, (by show 1 ≤ sizeLine; decide), fun q13 hq13 => ?_⟩
  have y13 := same_upd hq13 (o := .tup [v])
  refine cata_of (y13 _ _ e12) upd_same (by rw [List.length_take]; exact sz _ (by show _ + 1 ≤ _; omega)) fun H14 p14 s14 e14 => ?_
  have s1114 := (s12.trans y13).trans s14
  refine ⟨_, rfl, _, rfl, _, _, rfl, rfl, _, rfl, nopart (sla_of (s1114 _ _ ht11) fun H15 p15 s15 e15 => ?_)⟩
  rw [c1, cut_from] at e15
  refine cata_of (s15 _ _ e14) e15 ?_ fun H16 p16 s16 e16 => ?_
  · rw [List.length_append, List.length_take, List.length_drop]
    exact sz _ (by show _ + 1 + (6 - _) ≤ _; omega)
  have l16 : ((rowVals r).take k ++ [v] ++ (rowVals r).drop (k + 1)).length = 6 := by
    rw [List.length_append, List.length_append, List.length_take, List.length_drop]
    show min k 6 + 1 + (6 - (k + 1)) = 6
    omega
  have m16 : ∀ y ∈ (rowVals r).take k ++ [v] ++ (rowVals r).drop (k + 1), y ∈ rowVals r ∨ y = v := fun y hy => by
    rcases List.mem_append.mp hy with hy | hy
    · rcases List.mem_append.mp hy with hy | hy
      · exact .inl (List.mem_of_mem_take hy)
      · exact .inr (List.mem_singleton.mp hy)
    · exact .inl (List.mem_of_mem_drop hy)
  generalize (rowVals r).take k ++ [v] ++ (rowVals r).drop (k + 1) = xs16 at e16 l16 m16
  have s1116 := (s1114.trans s15).trans s16
  refine ⟨L3, _, _, rfl, rfl, s1116 _ _ eL3, (by show 8 < sizeLine; decide), ?_⟩
  have bA : NL H16 (upd H16 L3 (.lst ([V.ref m1, V.ref p7, V.ref p9, V.ref u0, V.non, V.str "row", V.int 7, V.ref u1] ++ [V.ref p16]))) := NL.at_ (s1116 _ _ eL3)
  have em1 : (upd H16 L3 (.lst ([V.ref m1, V.ref p7, V.ref p9, V.ref u0, V.non, V.str "row", V.int 7, V.ref u1] ++ [V.ref p16]))) m1 = some (.lst (rowVals r)) := by
    rw [upd_ne nm1]
    exact s1116 _ _ em1
  have nT : ∀ xs ys : List V, HO.tup xs ≠ .lst ys := fun _ _ z => by cases z
  have ep7 := bA _ _ (nT _) (s1116 _ _ ep7)
  have ep9 := bA _ _ (nT _) (s1116 _ _ ep9)
  have eu0 := bA _ _ (nT _) (s1116 _ _ eu0)
  have eu1 := bA _ _ (nT _) (s1116 _ _ eu1)
  have ht17 := bA _ _ (nT _) (s1116 _ _ ht11)
  have e16 := bA _ _ (nT _) e16
  have nL3 : L3 ≠ d := dr4.ne hL30
  have b17 : But d H4 (upd H16 L3 (.lst ([V.ref m1, V.ref p7, V.ref p9, V.ref u0, V.non, V.str "row", V.int 7, V.ref u1] ++ [V.ref p16]))) := (But.of (s411.trans s1116)).mut hL30
  have dr17 := (dr4.same (s411.trans s1116)).upd (o := .lst ([V.ref m1, V.ref p7, V.ref p9, V.ref u0, V.non, V.str "row", V.int 7, V.ref u1] ++ [V.ref p16])) nL3
  have eL17 : (upd H16 L3 (.lst ([V.ref m1, V.ref p7, V.ref p9, V.ref u0, V.non, V.str "row", V.int 7, V.ref u1] ++ [V.ref p16]))) L3 = some (.lst [V.ref m1, V.ref p7, V.ref p9, V.ref u0, V.non, V.str "row", V.int 7, V.ref u1, V.ref p16]) := upd_same
  generalize upd H16 L3 (.lst ([V.ref m1, V.ref p7, V.ref p9, V.ref u0, V.non, V.str "row", V.int 7, V.ref u1] ++ [V.ref p16])) = H17 at bA em1 ep7 ep9 eu0 eu1 ht17 e16 b17 dr17 eL17 ⊢
  refine ⟨_, rfl, _, rfl, _, rfl, _, rfl, L3, _, _, _, rfl, rfl, SqL.of eL17, (show atI [V.ref m1, V.ref p7, V.ref p9, V.ref u0, V.non, V.str "row", V.int 7, V.ref u1, V.ref p16] (-1) = some (.ref p16) from rfl), _, rfl, (by show 0 ≤ sizeLine; decide), fun q18 hq18 => ?_⟩
  have x18 := same_upd hq18 (o := .tup [])
  refine cata_of (x18 _ _ ht17) upd_same (by show 6 + 0 ≤ sizeLine; decide) fun H19 p19 s19 e19 => ?_
  rw [List.append_nil] at e19
  refine ⟨(by show 2 ≤ sizeLine; decide), fun L4 hL4 => ?_⟩
  have x20 := same_upd hL4 (o := .lst [V.ref p16, .ref p19])
  have s1720 := (x18.trans s19).trans x20
  refine ⟨L3, L4, _, _, rfl, rfl, s1720 _ _ eL17, upd_same, (by show 9 + 2 ≤ sizeLine; decide), fun L5 hL5 => ?_⟩
  have x21 := same_upd hL5 (o := .lst ([V.ref m1, V.ref p7, V.ref p9, V.ref u0, V.non, V.str "row", V.int 7, V.ref u1, V.ref p16] ++ [V.ref p16, .ref p19]))
  have s1721 := s1720.trans x21
  have dr21 := dr17.same s1721
  have nL5 : L5 ≠ d := (dr17.same s1720).ne hL5
  refine ⟨d, L5, _, _, rfl, nL5, SqL.of upd_same, by simp, by show 11 ≤ 1000; decide, dr21, by omega, fun H22 y hy b22 dr22 => ?_⟩
  have bt : But d H H22 := bt4.trans ((b17.trans (But.of s1721)).trans b22)
  have b1722 : But d H17 H22 := (But.of s1721).trans b22
  have n22 : NL H17 H22 := (NL.of s1721).trans (But.nl6 b22 dr21)
  have hodd := hodd.but (b17.trans b1722)
  have go : ∀ o, ThX K H22 y o → Q y H22 := fun o h => q H22 y o h bt (dr22.mono (by omega))
  have ht22 := n22 _ _ (nT _) ht17
  have e1622 := n22 _ _ (nT _) e16
  have x16 : ∃ o, ThX K H22 (.ref p16) o := six_of e1622 l16 fun z hz => by
    rcases m16 z hz with hz | rfl
    · exact row_th hg hz
    · exact hodd.th
  have nm1d : m1 ≠ d := dr4.ne hm1
  simp only [List.cons_append, List.nil_append, List.mem_cons, List.not_mem_nil, or_false] at hy
  rcases hy with rfl | rfl | rfl | rfl | rfl | rfl | rfl | rfl | rfl | rfl | rfl
  · exact go _ (.no (.base (.lst (b1722 _ _ nm1d em1))) (kit_ty (r := false) (by decide +kernel)))
  · exact go _ (.len (n22 _ _ (nT _) ep7) (by omega))
  · exact go _ (.len (n22 _ _ (nT _) ep9) (by omega))
  · exact go _ (.len (n22 _ _ (nT _) eu0) (by decide))
  · exact go _ (.no (.base .non) (kit_ty (r := false) (by decide +kernel)))
  · exact go _ (.no (.base (.str _)) (kit_ty (r := false) (by decide +kernel)))
  · exact go _ (.no (.base (.int _)) (kit_ty (r := false) (by decide +kernel)))
  · exact go _ (.len (n22 _ _ (nT _) eu1) (by simp))
  · obtain ⟨o, h⟩ := x16
    exact go o h
  · obtain ⟨o, h⟩ := x16
    exact go o h
  · have e19 := (But.nl6 b22 dr21) _ _ (nT _) ((x20.trans x21) _ _ e19)
    obtain ⟨o, h⟩ := six_of (K := K) e19 rfl fun z hz => row_th hg hz
    exact go o h
end
end KB
namespace KB
open PySem PySem.Spec PyProof.Rows L2 KA LamX
section
variable {P : Program} {w : World} {K : PySem.W.Frag} {mg : Str → Option Value} {base : Heap}
def rowD (r : Rw) : PyData := .tuple [.int r.num, .int r.ac, .int r.we, .str r.sh, .str r.fo, .bool r.dr]
theorem row_dp {H : Hp} {t : Addr} {r : Rw} (h : H t = some (.tup (rowVals r))) : Dp K H (.ref t) (rowD r) :=
  .tup (.inl (.inl h)) (.cons (.int _) (.cons (.int _) (.cons (.int _) (.cons (.str _) (.cons (.str _) (.cons (.bl _) .nil))))))
theorem dpAll_of {H : Hp} : ∀ {vs : List V} {rs : List Rw}, RwL H vs rs → DpAll K H vs (rs.map rowD)
  | [], [], _ => .nil
  | [], _ :: _, h => by have := h.1; simp at this
  | _ :: _, [], h => by have := h.1; simp at this
  | v :: vs, r :: rs, h => by
    refine .cons ?_ (dpAll_of (vs := vs) (rs := rs) ⟨by have := h.1; simpa using this, fun i z hz => h.2 (i + 1) z hz⟩)
    obtain ⟨t, e, ht⟩ := h.2 0 r rfl
    cases e
    exact row_dp ht
theorem rowD_ok {r : Rw} (g : GoodRw r) : PyData.canLay0 (rowD r) = true ∧ PyData.depth (rowD r) ≤ 1 := by
  constructor
  · show (true && (true && (true && (PyData.canLay0 (.str r.sh) && (PyData.canLay0 (.str r.fo) && (true && true)))))) = true
    rw [sh_name g.2.2.2.1, sh_name g.2.2.2.2]
    rfl
  · exact Nat.le_refl _
theorem rowsD_ok : ∀ {rs : List Rw}, (∀ r ∈ rs, GoodRw r) → PyData.canLayAll0 (rs.map rowD) = true ∧ PyData.depthAll (rs.map rowD) ≤ 1
  | [], _ => ⟨rfl, by decide⟩
  | o :: rs, h => by
    obtain ⟨a, b⟩ := rowsD_ok (rs := rs) fun r hr => h r (List.mem_cons_of_mem _ hr)
    obtain ⟨c, d⟩ := rowD_ok (r := o) (h o (List.mem_cons_self ..))
    constructor
    · show (PyData.canLay0 (rowD o) && PyData.canLayAll0 (rs.map rowD)) = true
      rw [a, c]
      rfl
    · show max (PyData.depth (rowD o)) (PyData.depthAll (rs.map rowD)) ≤ 1
      omega
theorem rowsD_shaped {rs : List Rw} (h : ∀ r ∈ rs, GoodRw r) : SeqAt.shaped (.list (rs.map rowD)) = true := by
  obtain ⟨a, b⟩ := rowsD_ok h
  show (PyData.canLayAll0 (rs.map rowD) && decide (PyData.depthAll (rs.map rowD) + 1 ≤ 64)) = true
  rw [a, decide_eq_true (by omega)]
  rfl
theorem atI_0 {xs : List V} {k : Nat} {v : V} (h : xs[k]? = some v) : atI xs (0 + (k : Int)) = some v := by
  rw [Int.zero_add]
  exact atI_nat h
theorem row_comp (T : Tx K mg) {a : Addr} {xs : List V} {rs : List Rw} {H : Hp} {D : Addr} {c : Nat} (hD : H D = none) (hS : SqL K H a xs) (hB : BdL T.C_Bead H xs rs) (hl : xs.length ≤ 10000)
    {vs : List Nat} {σ : L2.St} {Qd : Hp → Prop} (hw : ∀ v, wipe ((wipe σ vs).set c (some v)) vs = wipe σ vs) (hc : ∀ v, ((wipe σ vs).set c (some v))[c]? = some (some v))
    (fin : ∀ H' acc, Same H H' → H' D = some (.lst acc) → RwL H' acc rs → Qd H') :
    ∃ W : Nat → Nat → Hp → Prop, (∃ m, W 0 m (upd H D (.lst []))) ∧ ∀ i m H, W i m H →
      ((Itl K a).stop i H ∧ Qd H) ∨ ((Itl K a).go i H ∧ ∃ Nx : Hp → Prop, (∀ H', Nx H' → ∃ m', m' < m ∧ W (i + 1) m' H') ∧ ∀ x H', (Itl K a).yld i H x H' → gName c x (wipe σ vs) H' fun σ2 H2 => wipe σ2 vs = wipe σ vs ∧ tYes σ2 H2 fun b H3 =>
        if b = true then tMeth T.C_Bead "row" (spRow T.C_Bead) [] E0 (tVar c) tNil σ2 H3 fun y H4 => ∃ acc, H4 D = some (.lst acc) ∧ acc.length < sizeLine ∧ Nx (upd H4 D (.lst (acc ++ [y]))) else Nx H3) := by
  refine lc_gen hD hS hl (fun j v H' => ∀ r, rs[j]? = some r → ∃ t, v = .ref t ∧ H' t = some (.tup (rowVals r))) (fun j v H1 H2 s h r hr => ?_) ?_ ?_
  · obtain ⟨t, h1, h2⟩ := h r hr
    exact ⟨t, h1, s _ _ (fun xs z => by cases z) h2⟩
  · intro i x H2 R C hi s2 hRv
    have hir : i < rs.length := by
      rw [← hB.1]
      exact (List.getElem?_eq_some_iff.mp hi).1
    obtain ⟨p, h1, hp⟩ := hB.2 i _ (List.getElem?_eq_getElem hir)
    rw [h1] at hi
    cases hi
    obtain ⟨dx, h2⟩ := hp.nl (NL.of s2)
    refine ⟨hw _, yesT ⟨_, hc _, p, dx, _, rfl, h2, bf_no _ (by decide +kernel) (by decide +kernel) (by decide +kernel) (by decide +kernel) (by decide +kernel) (by decide +kernel), p, _, rfl, ⟨dx, h2⟩, fun t' ht' => ?_⟩⟩
    refine hRv _ _ (same_upd ht') fun r hr => ?_
    rw [List.getElem?_eq_getElem hir] at hr
    cases hr
    exact ⟨t', rfl, upd_same⟩
  · intro H' acc s e l g
    refine fin H' acc s e ⟨by rw [l, hB.1], fun i r hr => ?_⟩
    have hi : i < acc.length := by
      rw [l, hB.1]
      exact (List.getElem?_eq_some_iff.mp hr).1
    obtain ⟨t, h1, h2⟩ := g i _ (List.getElem?_eq_getElem hi) r hr
    exact ⟨t, by rw [List.getElem?_eq_getElem hi, h1], h2⟩
theorem rows_ne {H : Hp} {l m : Addr} {ys zs : List V} {rs : List Rw} {R : VK} (h1 : H l = some (.lst ys)) (h2 : RwL H ys rs) (h3 : H m = some (.lst zs)) (h4 : RwL H zs rs) (hG : ∀ r ∈ rs, GoodRw r) (q : R (.bl false) H) : rNeD K (.ref l) (.ref m) H R := by
  refine ⟨.list (rs.map rowD), .list (rs.map rowD), .lst (SqL.of h1) (dpAll_of h2), .lst (SqL.of h3) (dpAll_of h4), rowsD_shaped hG, rowsD_shaped hG, ?_⟩
  rw [SeqAt.eqv_refl _ (SeqAt.canLay_of_shaped (rowsD_shaped hG))]
  exact q
theorem nil_ne {H : Hp} {D l0 : Addr} {R : VK} (hD : H D = some (.lst [])) (hl0 : H l0 = none) (q : ∀ H', Same H H' → R (.bl false) H') : rEqB true (BList BFlat) (.ref D) (.ref l0) (upd H l0 (.lst [])) R := by
  have z0 := same_upd hl0 (o := .lst [])
  exact ⟨_, ⟨D, l0, [], [], fun _ => true, rfl, rfl, z0 _ _ hD, upd_same, fun _ i x y _ hy => by simp at hy, rfl⟩, fun H7 x7 => q H7 (z0.trans x7)⟩
theorem TabS.nl {H H' : Hp} {P : Addr} {q : Str} (t : TabS H P q) (e : NL H H') : TabS H' P q := by
  obtain ⟨ps, h1, h2, h3⟩ := t
  refine ⟨ps, e _ _ (fun _ z => by cases z) h1, h2, fun pos cv hc => ?_⟩
  obtain ⟨c, e1, e2⟩ := h3 pos cv hc
  exact ⟨c, e1, e _ _ (fun _ z => by cases z) e2⟩
theorem Tabs.nl {T : List (Addr × Str)} {H H' : Hp} (t : Tabs T H) (e : NL H H') : Tabs T H' := fun p hp => TabS.nl (t p hp) e
theorem Dr.exn {P : Int → Prop} {d : Addr} {n : Nat} {H H' : Hp} (h : Dr P d n H) (s : ExtN H H') : Dr P d n H' := by
  obtain ⟨a, b, c, e, r⟩ := h
  exact ⟨a, b, c, s _ _ e (fun _ z => by cases z), r⟩
theorem bf_row (r : Rw) : (bf r).lookup ("row" : Str) = none := bf_no r (by decide +kernel) (by decide +kernel) (by decide +kernel) (by decide +kernel) (by decide +kernel) (by decide +kernel)
theorem bf_key (r : Rw) : (bf r).lookup ("key" : Str) = none := bf_no r (by decide +kernel) (by decide +kernel) (by decide +kernel) (by decide +kernel) (by decide +kernel) (by decide +kernel)
theorem rwl_of {H : Hp} {zs : List (V × Rw)} (h : ∀ z ∈ zs, ∃ p, z.1 = .ref p ∧ H p = some (.tup (rowVals z.2))) : RwL H (zs.map Prod.fst) (zs.map Prod.snd) := by
  refine ⟨by rw [List.length_map, List.length_map], fun i r hr => ?_⟩
  rw [List.getElem?_map] at hr
  cases e : zs[i]? with
  | none => rw [e] at hr; cases hr
  | some z =>
    rw [e] at hr
    cases hr
    obtain ⟨p, h1, h2⟩ := h z (List.mem_of_getElem? e)
    exact ⟨p, by rw [List.getElem?_map, e]; exact congrArg some h1, h2⟩
theorem rwl_zip {H : Hp} {xs : List V} {rs : List Rw} (h : RwL H xs rs) : ∀ z ∈ xs.zip rs, ∃ p, z.1 = .ref p ∧ H p = some (.tup (rowVals z.2)) := fun z hz => by
  obtain ⟨i, hi⟩ := List.getElem?_of_mem hz
  rw [List.getElem?_zip_eq_some] at hi
  obtain ⟨p, h1, h2⟩ := h.2 i _ hi.2
  rw [hi.1] at h1
  exact ⟨p, Option.some.inj h1, h2⟩
theorem srt_row {H : Hp} {xs : List V} {rs : List Rw} (h : RwL H xs rs) : RwL H (srtV xs (rs.map keyD)) (ordR rs) := by
  have e1 : srtV xs (rs.map keyD) = ((xs.zip rs).mergeSort (PySem.W.dataLe false fun p : V × Rw => keyD p.2)).map Prod.fst := by
    unfold srtV
    have : xs.zip (rs.map keyD) = (xs.zip rs).map fun p => (p.1, keyD p.2) := by
      rw [List.zip_map_right]
      rfl
    have m := List.map_mergeSort (l := xs.zip rs) (f := fun p : V × Rw => (p.1, keyD p.2)) (r := PySem.W.dataLe false fun p : V × Rw => keyD p.2) (s := PySem.W.dataLe false fun p : V × PyData => p.2) (fun a _ b _ => rfl)
    rw [this, ← m, List.map_map]
    rfl
  have e2 : ordR rs = ((xs.zip rs).mergeSort (PySem.W.dataLe false fun p : V × Rw => keyD p.2)).map Prod.snd := by
    unfold ordR
    have m := List.map_mergeSort (l := xs.zip rs) (f := fun p : V × Rw => p.2) (r := PySem.W.dataLe false fun p : V × Rw => keyD p.2) (s := PySem.W.dataLe false keyD) (fun a _ b _ => rfl)
    have e : (xs.zip rs).map (fun p : V × Rw => p.2) = rs := List.map_snd_zip (by rw [h.1]; exact Nat.le_refl _)
    rw [e] at m
    exact m.symm
  rw [e1, e2]
  exact rwl_of fun z hz => rwl_zip h z ((List.mergeSort_perm _ _).mem_iff.mp hz)
theorem rows_same {H : Hp} {l m : Addr} {r : Rw} {R : VK} (h1 : H l = some (.tup (rowVals r))) (h3 : H m = some (.tup (rowVals r))) (g : GoodRw r) (q : R (.bl false) H) : rNeD K (.ref l) (.ref m) H R := by
  obtain ⟨ok1, ok2⟩ := rowD_ok g
  have shp : SeqAt.shaped (rowD r) = true := by
    unfold SeqAt.shaped
    rw [ok1, decide_eq_true (by omega)]
    rfl
  refine ⟨rowD r, rowD r, row_dp h1, row_dp h3, shp, shp, ?_⟩
  rw [SeqAt.eqv_refl _ (SeqAt.canLay_of_shaped shp)]
  exact q
theorem keys_same {H : Hp} {l m : Addr} {r : Rw} {R : VK} (h1 : H l = some (.tup (keyVals r))) (h3 : H m = some (.tup (keyVals r))) (g : GoodRw r) (q : R (.bl false) H) : rNeD K (.ref l) (.ref m) H R := by
  have dp : ∀ {t : Addr}, H t = some (.tup (keyVals r)) → Dp K H (.ref t) (keyD r) := fun h =>
    .tup (.inl (.inl h)) (.cons (.int _) (.cons (.int _) (.cons (.str _) (.cons (.str _) (.cons (.bl _) (.cons (.int _) .nil))))))
  have lay : PyData.canLay0 (keyD r) = true := by
    show (true && (true && (PyData.canLay0 (.str r.sh) && (PyData.canLay0 (.str r.fo) && (true && (true && true)))))) = true
    rw [sh_name g.2.2.2.1, sh_name g.2.2.2.2]
    rfl
  have shp : SeqAt.shaped (keyD r) = true := by
    unfold SeqAt.shaped
    rw [lay]
    rfl
  refine ⟨keyD r, keyD r, dp h1, dp h3, shp, shp, ?_⟩
  rw [SeqAt.eqv_refl _ (SeqAt.canLay_of_shaped shp)]
  exact q
def spLaw (K : PySem.W.Frag) (Tb : List (Addr × Str)) : Sp := fun vs H Q _ => ∃ (a : Addr) (ns : List Int), vs = [.ref a] ∧ SqL K H a (ns.map V.int) ∧ ns.length ≤ 63 ∧ Tabs Tb H ∧ ∀ H', Q (.bl true) H'
theorem ok_law {f : Addr} {fd : FuncData} (T : Tx K mg) (TB : TBs T base) (F : Fun K "law" "law" s_law f fd) : FnOk P w K mg base CX0 15 f fd ["_law_script"] (spLaw K (lamT T)) := by
  refine F.ok sc_law (fun vs H Q E h => ?_) (fun cdv A outer s H vs Q E hr h => ?_)
  · obtain ⟨a, ns, rfl, hS, hlen, hT, q⟩ := h
    rfl
  obtain ⟨a, ns, rfl, hS, hlen, hT, q⟩ := h
  refine ⟨_, (pss_cons (ps_for PassesOwn.never rfl (pi_list (pe_op op_cat (pe_lst (pa_cons (pe_call (ok_cell_at T) (hr.mono (by decide)) (by rfl) T.g_cell_at T.F_cell_at.kp T.b_cell_at .nil pass0 (pa_cons (pv 0) (pa_cons pe_int pa_nil))) pa_nil)) (pe_slice sl_list (pv 0) (po_some pe_int) (po_some pe_int)))) (pg_name (i := 1) sc_law.nd rfl (Or.inl rfl))
        (pss_cons (ps_set (i := 2) sc_law.nd rfl (Or.inl rfl) (pe_call (ok_draws T) (hr.mono (by decide)) (by rfl) T.g_draws T.F_draws.kp T.b_draws .nil pass0 (pa_cons (pv 1) pa_nil)))
      (pss_cons (ps_set (i := 3) sc_law.nd rfl (Or.inl rfl) (pe_call (ok_shuffled T) (hr.mono (by decide)) (by rfl) T.g_shuffled T.F_shuffled.kp T.b_shuffled .nil pass0 (pa_cons (pv 2) (pa_cons (pe_call (ok_some T) (hr.mono (by decide)) (by rfl) T.g_some T.F_some.kp T.b_some .nil pass0 (pa_cons (pv 2) (pa_cons (pe_call (ok_one T) (hr.mono (by decide)) (by rfl) T.g_one T.F_one.kp T.b_one .nil pass0 (pa_cons (pv 2) (pa_cons pe_int pa_nil))) pa_nil))) pa_nil))))
      (pss_cons (ps_setLc (i := 4) (own := [("_law_row", 5)]) (g := gName 5) (tt := tYes) rfl sc_law.nd rfl rfl (sw_true rfl rfl rfl (by decide +kernel)) (pi_list (pv 3)) (blkOk_by (N := ["_law_script", "_law_cell", "_law_draws_here", "_law_rows", "_law_beads", "_law_row", "_law_bead_here", "_law_found", "_law_k", "_law_thing", "_law_due"]) (sc := defScope s_law) (by decide +kernel)) (fun _ _ _ _ _ => (pg_name (i := 5) sc_law.nd rfl (Or.inl rfl))) (fun _ _ _ _ _ => pts_nil) (fun _ _ _ _ _ => (pe_call (ok_bead T) (hr.mono (by decide)) (by rfl) T.g_bead T.F_bead.kp T.b_bead .nil pass0 (pa_cons (pv 5) pa_nil))))
      (pss_cons (ps_for PassesOwn.never rfl (pi_zip (by rfl) T.z_zip (pa_cons (pv 3) (pa_cons (pv 4) pa_nil))) (pg_tup (by rfl) (pgs_cons (pg_name (i := 5) sc_law.nd rfl (Or.inl rfl)) (pgs_cons (pg_name (i := 6) sc_law.nd rfl (Or.inl rfl)) pgs_nil)))
        (pss_cons (ps_if (PW.pt (pw_or (pt_cmpR (op_neD hr.units) (pe_meth0 (pv 6) T.cl_Bead T.m_Bead_row (ok_Bead_row T) (hr.mono (by decide)) T.b_Bead_row .nil pass0) (pv 5) (nomark _)) (pw_or (pt_cmpR (op_neD hr.units) (pe_meth0 (pv 6) T.cl_Bead T.m_Bead_key (ok_Bead_key T) (hr.mono (by decide)) T.b_Bead_key .nil pass0) (pe_call (ok_key T) (hr.mono (by decide)) (by rfl) T.g_key T.F_key.kp T.b_key .nil pass0 (pa_cons (pv 5) pa_nil)) (nomark _)) (pw_or1 (pt_cmpR (op_neD hr.units) (pe_meth0 (pe_call (E := E0) (ok_bead_of T) (hr.mono (by decide)) (by rfl) T.g_bead_of T.F_bead_of.kp T.b_bead_of .nil passF (pa_cons (pv 5) pa_nil)) T.cl_Bead T.m_Bead_row (ok_Bead_row T) (hr.mono (by decide)) T.b_Bead_row .nil pass0) (pv 5) (nomark _)))))) (pss_one (ps_ret pe_bl)) pss_nil)
      (pss_one (ps_if (PW.pt (pw_or (pt_not (pt_val (pe_callB call_isi (by rfl) T.z_isinstance (by decide +kernel) (pa_cons (pe_meth0 (pv 6) T.cl_Bead T.m_Bead_row (ok_Bead_row T) (hr.mono (by decide)) T.b_Bead_row .nil pass0) (pa_cons (pe_bltn (v := .ty "tuple") (by rfl) T.z_tuple (by decide +kernel) rfl) pa_nil))))) (pw_or1 (pt_not (pt_val (pe_callB call_isi (by rfl) T.z_isinstance (by decide +kernel) (pa_cons (pe_meth0 (pv 6) T.cl_Bead T.m_Bead_key (ok_Bead_key T) (hr.mono (by decide)) T.b_Bead_key .nil pass0) (pa_cons (pe_bltn (v := .ty "tuple") (by rfl) T.z_tuple (by decide +kernel) rfl) pa_nil)))))))) (pss_one (ps_ret pe_bl)) pss_nil))))
      (pss_cons (ps_set (i := 7) sc_law.nd rfl (Or.inl rfl) (pe_call (ok_in_order T TB) (hr.mono (by decide)) (by rfl) T.g_in_order T.F_in_order.kp T.b_in_order .nil pass0 (pa_cons (pv 4) pa_nil)))
      (pss_cons (ps_if (PW.pt (pw_or (pt_not (pt_val (pe_callB call_isi (by rfl) T.z_isinstance (by decide +kernel) (pa_cons (pv 7) (pa_cons (pe_bltn (v := .ty "list") (by rfl) T.z_list (by decide +kernel) rfl) pa_nil))))) (pw_or1 (pt_cmpR (op_neD hr.units) (pe_lc (own := [("_law_bead_here", 6)]) (g := gName 6) (tt := tYes) rfl sc_law.nd (pi_list (pv 7)) (blkOk_by (N := ["_law_script", "_law_cell", "_law_draws_here", "_law_rows", "_law_beads", "_law_row", "_law_bead_here", "_law_found", "_law_k", "_law_thing", "_law_due"]) (sc := defScope s_law) (by decide +kernel)) (fun _ _ _ _ _ => (pg_name (i := 6) sc_law.nd rfl (Or.inl rfl))) (fun _ _ _ _ _ => pts_nil) (fun _ _ _ _ _ => (pe_meth0 (pv 6) T.cl_Bead T.m_Bead_row (ok_Bead_row T) (hr.mono (by decide)) T.b_Bead_row .nil pass0))) (pe_callBK (call_sortG (kbFn (D := DRow) (ok_key T) T.b_key (impRow T)) (monFn monRow) (hr.mono (by decide))) (by rfl) T.z_sorted (by decide +kernel) (pa_cons (pv 3) pa_nil) (pk_cons (pe_glob (v := .ref T.A_key) (by rfl) T.g_key rfl) pk_nil)) (nomark _))))) (pss_one (ps_ret pe_bl)) pss_nil)
      (pss_cons (ps_expr (pe_bm0 PySem.F.plainAttrs_list PySem.F.slot_list_reverse PySem.F.type_list_reverse mt_reverse (pv 7)))
      (pss_cons (ps_expr (pe_bm PySem.F.plainAttrs_list PySem.F.slot_list_append PySem.F.type_list_append mt_append (pv 7) (pa_cons pe_non pa_nil)))
      (pss_cons (ps_if (PW.pt (pw_or (pt_cmpR (op_neD hr.units) (pe_lc (own := [("_law_bead_here", 6)]) (g := gName 6) (tt := tYes) rfl sc_law.nd (pi_list (pv 4)) (blkOk_by (N := ["_law_script", "_law_cell", "_law_draws_here", "_law_rows", "_law_beads", "_law_row", "_law_bead_here", "_law_found", "_law_k", "_law_thing", "_law_due"]) (sc := defScope s_law) (by decide +kernel)) (fun _ _ _ _ _ => (pg_name (i := 6) sc_law.nd rfl (Or.inl rfl))) (fun _ _ _ _ _ => pts_nil) (fun _ _ _ _ _ => (pe_meth0 (pv 6) T.cl_Bead T.m_Bead_row (ok_Bead_row T) (hr.mono (by decide)) T.b_Bead_row .nil pass0))) (pv 3) (nomark _)) (pw_or1 (pt_cmpR op_ne (pe_callB call_len_seq (by rfl) T.z_len PySem.boot_len (pa_cons (pe_call (ok_in_order T TB) (hr.mono (by decide)) (by rfl) T.g_in_order T.F_in_order.kp T.b_in_order .nil pass0 (pa_cons (pv 4) pa_nil)) pa_nil)) (pe_callB call_len_seq (by rfl) T.z_len PySem.boot_len (pa_cons (pv 3) pa_nil)) (nomark _))))) (pss_one (ps_ret pe_bl)) pss_nil)
      (pss_one (ps_for PassesOwn.never rfl (pi_range1 (by rfl) T.z_range (pa_cons (pe_op op_mul pe_int (pe_callTy call_int1 (by rfl) T.z_int (by decide +kernel) (pa_cons (pe_cmpR (op_neB (rcB_list true monB_flat eqB_flat) (hr.mono (by decide))) (pv 3) (pe_lst pa_nil) (nomark _)) pa_nil))) pa_nil)) (pg_name (i := 8) sc_law.nd rfl (Or.inl rfl))
        (pss_cons (ps_set (i := 9) sc_law.nd rfl (Or.inl rfl) (pe_call (ok_spoilt T) (hr.mono (by decide)) (by rfl) T.g_spoilt T.F_spoilt.kp T.b_spoilt .nil pass0 (pa_cons (pv 2) (pa_cons (pe_call (ok_of T) (hr.mono (by decide)) (by rfl) T.g_of T.F_of.kp T.b_of .nil pass0 (pa_cons (pv 2) (pa_cons (pv 3) pa_nil))) pa_nil))))
      (pss_cons (ps_set (i := 10) sc_law.nd rfl (Or.inl rfl) pe_non)
      (pss_cons (ps_if (pt_val (pe_call (ok_is_row T) (hr.mono (by decide)) (by rfl) T.g_is_row T.F_is_row.kp T.b_is_row .nil pass0 (pa_cons (pv 9) pa_nil))) (pss_one (ps_set (i := 10) sc_law.nd rfl (Or.inl rfl) (pv 9))) pss_nil)
      (pss_one (ps_if (pt_cmpR (op_neD hr.units) (pe_call (ok_made T) (hr.mono (by decide)) (by rfl) T.g_made T.F_made.kp T.b_made .nil pass0 (pa_cons (pv 9) pa_nil)) (pv 10) (nomark _)) (pss_one (ps_ret pe_bl)) pss_nil)))))))))))))))))
      (pss_one (ps_ret (pe_cmpR (op_eqB (rcB_list false monB_flat eqB_flat) (hr.mono (by decide))) (pe_call (ok_in_order T TB) (hr.mono (by decide)) (by rfl) T.g_in_order T.F_in_order.kp T.b_in_order .nil pass0 (pa_cons (pe_lst pa_nil) pa_nil)) (pe_lst pa_nil) (nomark _))))), ?_⟩
  refine ⟨_, rfl, a, ns, rfl, hS, (by show 1 ≤ sizeLine; decide), fun p hp => ?_⟩
  have s1 : Same H (upd H p (.lst [.int (ns.headD 0)])) := same_upd hp
  refine ⟨_, rfl, _, rfl, _, rfl, a, _, rfl, s1.seq hS, fun p2 hp2 => ?_⟩
  have s2 : Same (upd H p (.lst [.int (ns.headD 0)])) (upd (upd H p (.lst [.int (ns.headD 0)])) p2 (.lst (cutV (ns.map V.int) (some 1) (some 8)))) := same_upd hp2
  have hcut : (cutV (ns.map V.int) (some 1) (some 8)).length ≤ 63 := by
    have := len_cut (ns.map V.int) (some 1) (some 8)
    rw [List.length_map] at this
    omega
  refine ⟨p, p2, _, _, rfl, rfl, s2 _ _ upd_same, upd_same, sz _ (by rw [List.length_singleton]; omega), fun p3 hp3 => ?_⟩
  refine ⟨p3, rfl, ⟨_, SqL.of upd_same⟩, for_list (K := K) (a := p3) (xs := [V.int (ns.headD 0)] ++ cutV (ns.map V.int) (some 1) (some 8)) (fun i σ H' => ∃ w1 w2 w3 w4 w5 w6 w7 w8 w9 w10, σ = [some (.ref a), w1, w2, w3, w4, w5, w6, w7, w8, w9, w10] ∧ H' p3 = some (.lst ([V.int (ns.headD 0)] ++ cutV (ns.map V.int) (some 1) (some 8))) ∧ Tabs (lamT T) H') ⟨_, _, _, _, _, _, _, _, _, _, rfl, upd_same, ((hT.ext s1).ext s2).ext (same_upd hp3)⟩ (fun i σ H' _ h => ?_) ?_ ?_⟩
  · obtain ⟨_, _, _, _, _, _, _, _, _, _, _, e, _⟩ := h
    exact SqL.of e
  · rintro i x σ H0 hi ⟨w1, w2, w3, w4, w5, w6, w7, w8, w9, w10, rfl, e0, T0⟩
    obtain ⟨cell, rfl⟩ := cells_int hi
    refine ⟨_, rfl, cell, rfl, fun d H1 hd t1 dr1 => ?_⟩
    have np3 : p3 ≠ d := ne_of_none e0 hd
    refine ⟨_, rfl, _, rfl, _, rfl, d, 10, 0, rfl, by decide, log_tiny (by decide) (by decide), dr1, by omega, fun H2 r2 a2 c2 b2 dr2 => ?_⟩
    obtain ⟨m, rfl⟩ : ∃ m : Nat, r2 = (m : Int) := ⟨r2.toNat, by omega⟩
    refine ⟨d, 1, m, rfl, dr2, by omega, by omega, fun Ha la xa ra fi hla nla ela hXa lra hGa ba dra => ?_⟩
    have hral := lra.1
    refine ⟨d, la, _, xa, ra, rfl, nla, ela, hXa, by omega, hGa, dra, by omega, fun H3 l xs rs hl nl el hX hrl hG b3 dr3 => ?_⟩
    have e3 := b3 _ _ np3 (ba _ _ np3 (b2 _ _ np3 (t1 _ _ e0)))
    have T3 := Tabs.nl (Tabs.nl (Tabs.nl (T0.ext t1) (But.nl6 b2 dr1)) (But.nl6 ba dr2)) (But.nl6 b3 dra)
    have hxl := hX.1
    refine ⟨_, rfl, l, rfl, ⟨_, SqL.of el⟩, fun D hD => ?_⟩
    refine lc_gen (K := K) (a := l) hD (SqL.of el) (by omega) (fun j v H' => ∀ r, rs[j]? = some r → ∃ p, v = .ref p ∧ BeadAt T.C_Bead H' p r) (fun j v Ha Hb sn h r hr => ?_) ?_ ?_
    · obtain ⟨p, h1, h2⟩ := h r hr
      exact ⟨p, h1, h2.nl sn⟩
    · intro i x H4 R C hi x4 hRv
      have hir : i < rs.length := by
        rw [← hX.1]
        exact (List.getElem?_eq_some_iff.mp hi).1
      obtain ⟨t, h1, ht⟩ := hX.2 i _ (List.getElem?_eq_getElem hir)
      rw [h1] at hi
      cases hi
      refine ⟨rfl, yesT ⟨_, rfl, t, _, rfl, x4 _ _ ht, hG _ (List.getElem_mem hir), fun H5 p x5 hp => ?_⟩⟩
      refine hRv _ _ x5 fun r hr => ?_
      rw [List.getElem?_eq_getElem hir] at hr
      cases hr
      exact ⟨p, rfl, hp⟩
    intro H5 ys x5 eD5 lys hgs
    have hY : BdL T.C_Bead H5 ys rs := ⟨by rw [lys, hX.1], fun i r hr => by
      have hi : i < ys.length := by
        rw [lys, hX.1]
        exact (List.getElem?_eq_some_iff.mp hr).1
      obtain ⟨p, h1, h2⟩ := hgs i _ (List.getElem?_eq_getElem hi) r hr
      exact ⟨p, by rw [List.getElem?_eq_getElem hi, h1], h2⟩⟩
    have hyl := hY.1
    have e5 := x5 _ _ e3
    have el5 := x5 _ _ el
    have hX5 := hX.nl (NL.of x5)
    have T5 := T3.ext x5
    have dr5 := dr3.same x5
    have nD : D ≠ d := dr3.ne hD
    refine ⟨_, rfl, _, rfl, l, D, xs, ys, rfl, SqL.of el5, SqL.of eD5, for_it (walk_zip (K := K) (a := l) (b := D) (xs := xs) (ys := ys) rfl) (fun i σ H' => ∃ w5 w6, σ = [some (.ref a), some (.int cell), some (.ref d), some (.ref l), some (.ref D), w5, w6, w7, w8, w9, w10] ∧ Same H5 H') ⟨_, _, rfl, Same.refl _⟩ (fun i σ H' _ h => ?_) ?_ ?_⟩
    · obtain ⟨_, _, _, s⟩ := h
      exact ⟨SqL.of (s _ _ el5), SqL.of (s _ _ eD5)⟩
    · rintro i x σ H6 H7 hi ⟨w5, w6, rfl, s6⟩ ⟨tt, x1, x2, rfl, nt, rfl, c1, c2⟩
      have hir : i < rs.length := by omega
      obtain ⟨t, h1, ht⟩ := hX5.2 i _ (List.getElem?_eq_getElem hir)
      obtain ⟨pb, g1, hpb⟩ := hY.2 i _ (List.getElem?_eq_getElem hir)
      have c1 : xs[i]? = some x1 := c1
      have c2 : ys[i]? = some x2 := c2
      rw [h1] at c1
      cases c1
      rw [g1] at c2
      cases c2
      have gr := hG _ (List.getElem_mem hir)
      generalize rs[i] = r at ht hpb gr
      have st := same_upd nt (o := .tup [V.ref t, .ref pb])
      refine ⟨tt, _, rfl, .inl (.inl upd_same), rfl, _, _, rfl, _, _, rfl, rfl, ?_⟩
      have s7 := s6.trans st
      have row := fun {H' : Hp} (s' : Same H5 H') => hpb.nl (NL.of s')
      obtain ⟨dx, hp7⟩ := row s7
      refine ⟨_, rfl, pb, dx, _, rfl, hp7, bf_row _, pb, _, rfl, ⟨dx, hp7⟩, fun t8 ht8 => ?_⟩
      have z8 := same_upd ht8 (o := .tup (rowVals r))
      have s8 := s7.trans z8
      refine ⟨_, rfl, rows_same upd_same (s8 _ _ ht) gr ⟨_, rfl, iteF ?_⟩⟩
      have hp8 := z8 _ _ hp7
      refine ⟨_, rfl, pb, dx, _, rfl, hp8, bf_key _, pb, _, rfl, ⟨dx, hp8⟩, fun t9 ht9 => ?_⟩
      have z9 := same_upd ht9 (o := .tup (keyVals r))
      have s9 := s8.trans z9
      refine ⟨_, rfl, t, _, rfl, s9 _ _ ht, fun t10 ht10 => ?_⟩
      have z10 := same_upd ht10 (o := .tup (keyVals r))
      have s10 := s9.trans z10
      refine keys_same (z10 _ _ upd_same) upd_same gr ⟨_, rfl, iteF ?_⟩
      have six : ThX K _ (.ref t) (asRw _ _ _ _ _ _) := .six (s10 _ _ ht) ⟨(row_th gr (y := .int r.num) (by simp [rowVals])).1, (row_th gr (y := .int r.ac) (by simp [rowVals])).1, (row_th gr (y := .int r.we) (by simp [rowVals])).1, (row_th gr (y := .str r.sh) (by simp [rowVals])).1, (row_th gr (y := .str r.fo) (by simp [rowVals])).1, (row_th gr (y := .bl r.dr) (by simp [rowVals])).1, (row_th (K := K) (H := H) gr (y := .str r.sh) (by simp [rowVals])).2, (row_th (K := K) (H := H) gr (y := .str r.fo) (by simp [rowVals])).2⟩
      refine ⟨_, rfl, .ref t, _, rfl, six, fun r' hr' H11 p11 s11 hB11 => ?_, fun h => by rw [asRw_good gr] at h; cases h⟩
      have : r' = r := Option.some.inj (hr'.symm.trans (asRw_good gr))
      subst this
      obtain ⟨dx11, hp11⟩ := id hB11
      refine ⟨p11, dx11, _, rfl, hp11, bf_row _, p11, _, rfl, hB11, fun t12 ht12 => ?_⟩
      have z12 := same_upd ht12 (o := .tup (rowVals r'))
      have s12 := (s10.trans s11).trans z12
      refine ⟨_, rfl, rows_same upd_same (s12 _ _ ht) gr ⟨_, rfl, iteF ?_⟩⟩
      obtain ⟨dx12, hp12⟩ := row s12
      refine ⟨_, rfl, pb, dx12, _, rfl, hp12, bf_row _, pb, _, rfl, ⟨dx12, hp12⟩, fun t13 ht13 => ?_⟩
      have z13 := same_upd ht13 (o := .tup (rowVals r'))
      refine ⟨_, _, _, _, _, rfl, .ty _, .base (.tup upd_same), kit_ty (r := true) (by decide +kernel), _, rfl, iteF ?_⟩
      have hp13 := z13 _ _ hp12
      refine ⟨_, rfl, pb, dx12, _, rfl, hp13, bf_key _, pb, _, rfl, ⟨dx12, hp13⟩, fun t14 ht14 => ?_⟩
      have z14 := same_upd ht14 (o := .tup (keyVals r'))
      refine ⟨_, _, _, _, _, rfl, .ty _, .base (.tup upd_same), kit_ty (r := true) (by decide +kernel), _, rfl, iteF ?_⟩
      exact ⟨_, _, rfl, (s12.trans z13).trans z14⟩
    rintro σ H6 ⟨w5, w6, rfl, s6⟩
    have hY6 := hY.nl (NL.of s6)
    have eD6 := s6 _ _ eD5
    have el6 := s6 _ _ el5
    have hX6 := hX5.nl (NL.of s6)
    have e6 := s6 _ _ e5
    have T6 := T5.ext s6
    have dr6 := dr5.same s6
    clear hX5 hY el5 eD5 e5 T5 dr5
    refine ⟨_, rfl, D, ys, rs, rfl, eD6, hY6, by omega, T6, fun H7 lo yo n7 T7 ne7 eo hYo => ?_⟩
    have hol : (ordR rs).length = rs.length := (List.mergeSort_perm _ _).length_eq
    have hyo := hYo.1
    refine ⟨_, rfl, _, _, _, _, _, rfl, .ty _, .base (.lst eo), kit_ty (r := true) (by decide +kernel), _, rfl, iteF ?_⟩
    refine ⟨_, rfl, lo, rfl, ⟨_, SqL.of eo⟩, fun D8 hD8 => row_comp T hD8 (SqL.of eo) hYo (by omega) (fun _ => rfl) (fun _ => rfl) fun H8 acc s8 e8 hR8 => ?_⟩
    have n8 := n7.trans (ExtN.of s8)
    have hX8 := hX6.exn n8
    have hGo : ∀ r ∈ ordR rs, GoodRw r := fun r hr => hG r ((List.mergeSort_perm _ _).mem_iff.mp hr)
    refine ⟨_, rfl, l, T.A_key, xs, rs.map keyD, rfl, rfl, SqL.of (lst_exn n8 el6), small1000 (by omega), by rw [List.length_map, hxl], alike_key rs, sortable_key rs, fun dd hdd => ?_, fun i x k hx hk => ?_, fun H9 l9 s9 e9 hl9 => ?_⟩
    · obtain ⟨r, _, rfl⟩ := List.mem_map.mp hdd
      show PyData.depth (.tuple _) ≤ 8
      simp [PyData.depth, PyData.depthAll]
    · rw [List.getElem?_map] at hk
      cases er : rs[i]? with
      | none => rw [er] at hk; cases hk
      | some r =>
        rw [er] at hk
        cases hk
        obtain ⟨t, h1, h2⟩ := hX8.2 i r er
        rw [hx] at h1
        cases h1
        exact ⟨rfl, t, r, rfl, h2, rfl⟩
    have hS9 := srt_row (hX8.nl (NL.of s9))
    refine rows_ne (s9 _ _ e8) (hR8.nl (NL.of s9)) e9 hS9 hGo ⟨_, rfl, iteF ?_⟩
    have n9 := n8.trans (ExtN.of s9)
    have eo9 := (s8.trans s9) _ _ eo
    refine ⟨_, rfl, .inl ⟨rfl, _, SqL.of eo9⟩, lo, yo, rfl, rfl, eo9, ?_⟩
    refine ⟨_, rfl, .inl ⟨rfl, _, SqL.of upd_same⟩, lo, _, _, rfl, rfl, upd_same, (by rw [List.length_reverse]; exact Nat.lt_of_lt_of_le (show yo.length < 1000 by omega) (by decide)), ?_⟩
    have nl9 : NL H9 (upd (upd H9 lo (.lst yo.reverse)) lo (.lst (yo.reverse ++ [V.non]))) := (NL.at_ eo9).trans (NL.at_ upd_same)
    have keep : ∀ (b : Addr) (zs : List V), H6 b = some (.lst zs) → (upd (upd H9 lo (.lst yo.reverse)) lo (.lst (yo.reverse ++ [V.non]))) b = some (.lst zs) := fun b zs h => by
      have nb := ne7 b _ h (fun ps z => by cases z)
      rw [upd_ne nb, upd_ne nb]
      exact lst_exn n9 h
    have hY10 := (hY6.exn n9).nl nl9
    have hX10 := (hX6.exn n9).nl nl9
    have eD10 := keep _ _ eD6
    have el10 := keep _ _ el6
    have e10 := keep _ _ e6
    have T10 := Tabs.nl (T7.ext (s8.trans s9)) nl9
    have dr10 : Dr PM d (1 + 3000 + 20) (upd (upd H9 lo (.lst yo.reverse)) lo (.lst (yo.reverse ++ [V.non]))) := by
      obtain ⟨c1, c2, c3, c4, c5⟩ := dr6
      exact ⟨c1, c2, c3, keep _ _ c4, c5⟩
    generalize upd (upd H9 lo (.lst yo.reverse)) lo (.lst (yo.reverse ++ [V.non])) = H10 at hY10 hX10 eD10 el10 e10 T10 dr10 ⊢
    clear nl9 keep hS9 hR8 hYo eo9 n9 n8 hX8 T7 n7 ne7 hX6 hY6 eD6 el6 e6 T6 dr6
    refine ⟨_, rfl, D, rfl, ⟨_, SqL.of eD10⟩, fun D11 hD11 => row_comp T hD11 (SqL.of eD10) hY10 (by omega) (fun _ => rfl) (fun _ => rfl) fun H11 acc11 s11 e11 hR11 => ?_⟩
    refine ⟨_, rfl, rows_ne e11 hR11 (s11 _ _ el10) (hX10.nl (NL.of s11)) hG ⟨_, rfl, iteF ?_⟩⟩
    refine ⟨_, rfl, D, ys, rs, rfl, s11 _ _ eD10, hY10.nl (NL.of s11), by omega, T10.ext s11, fun H12 l12 y12 n12 T12 _ e12 hY12 => ?_⟩
    have n1012 := (ExtN.of s11).trans n12
    refine ⟨l12, y12, rfl, .inl (SqL.of e12), _, rfl, l, xs, rfl, .inl (SqL.of (lst_exn n1012 el10)), rfl, _, rfl, ?_⟩
    rw [decide_eq_true (show V.int ((y12.length : Nat) : Int) = V.int ((xs.length : Nat) : Int) by rw [hY12.1, hol, hxl])]
    refine iteF ?_
    have hX12 := hX10.exn n1012
    have el12 := lst_exn n1012 el10
    have e12' := lst_exn n1012 e10
    have dr12 := Dr.exn dr10 n1012
    refine ⟨_, rfl, (by show 0 ≤ sizeLine; decide), fun l0 hl0 => ?_⟩
    have w0 := same_upd hl0 (o := .lst [])
    refine ⟨_, ⟨l, l0, xs, [], fun _ => true, rfl, rfl, w0 _ _ el12, upd_same, fun _ i x y _ hy => by simp at hy, rfl⟩, fun H14 s14 => .inr ⟨_, rfl, _, _, rfl, rfl, .inl ⟨by decide, by decide⟩, ?_⟩⟩
    have w14 := w0.trans s14
    have hb : (0 : Int) ≤ (if (true ^^ (decide (xs.length = ([] : List V).length) && allF xs.length fun _ => true)) = true then 1 else 0) ∧ (if (true ^^ (decide (xs.length = ([] : List V).length) && allF xs.length fun _ => true)) = true then (1 : Int) else 0) ≤ 1 := by split <;> decide
    have hb2 : xs = [] → (if (true ^^ (decide (xs.length = ([] : List V).length) && allF xs.length fun _ => true)) = true then (1 : Int) else 0) = 0 := fun e => by subst e; rfl
    generalize (if (true ^^ (decide (xs.length = ([] : List V).length) && allF xs.length fun _ => true)) = true then (1 : Int) else 0) = bb at hb hb2 ⊢
    refine ⟨_, rfl, by omega, by omega, for_range (lo := 0) (n := (5 * bb).toNat) (fun k σ H' => ∃ w8 w9 w10, σ = [some (.ref a), some (.int cell), some (.ref d), some (.ref l), some (.ref D), w5, w6, some (.ref lo), w8, w9, w10] ∧ H' p3 = some (.lst ([V.int (ns.headD 0)] ++ cutV (ns.map V.int) (some 1) (some 8))) ∧ H' l = some (.lst xs) ∧ RwL H' xs rs ∧ Tabs (lamT T) H' ∧ Dr PM d (4000 + 10 * k) H') ⟨_, _, _, rfl, w14 _ _ e12', w14 _ _ el12, hX12.nl (NL.of w14), T12.ext w14, (dr12.same w14).mono (by omega)⟩ ?_ ?_⟩
    · rintro k σ H15 hk ⟨w8, w9, w10, rfl, e15, el15, hX15, T15, dr15⟩
      have hk5 : k < 5 := by omega
      have hne : xs ≠ [] := fun e => by
        have := hb2 e
        omega
      refine ⟨_, rfl, _, rfl, _, rfl, d, l, _, xs, rfl, nl, SqL.of el15, hne, by omega, dr15, by omega, fun H16 v16 hv16 b16 dr16 => ?_⟩
      have n16 := But.nl6 b16 dr15
      obtain ⟨t, r, rfl, hr, ht⟩ := (hX15.nl n16).mem hv16
      refine ⟨d, t, _, r, rfl, ht, hG r hr, dr16, by omega, fun H17 v o hv b17 dr17 => ?_⟩
      have n17 := But.nl6 b17 dr16
      have bt := b16.trans b17
      have nn := n16.trans n17
      refine ⟨_, rfl, v, o, rfl, hv, fun H18 s18 => ⟨_, rfl, ?_⟩⟩
      have fin : ∀ (H' : Hp) (w8 w9 w10 : Option V), Same H17 H' → ∃ w8' w9' w10', [some (V.ref a), some (.int cell), some (.ref d), some (.ref l), some (.ref D), w5, w6, some (.ref lo), w8, w9, w10] = [some (V.ref a), some (.int cell), some (.ref d), some (.ref l), some (.ref D), w5, w6, some (.ref lo), w8', w9', w10'] ∧ H' p3 = some (.lst ([V.int (ns.headD 0)] ++ cutV (ns.map V.int) (some 1) (some 8))) ∧ H' l = some (.lst xs) ∧ RwL H' xs rs ∧ Tabs (lamT T) H' ∧ Dr PM d (4000 + 10 * (k + 1)) H' := fun H' w8 w9 w10 s' => ⟨w8, w9, w10, rfl, s' _ _ (bt _ _ np3 e15), s' _ _ (bt _ _ nl el15), (hX15.nl nn).nl (NL.of s'), (Tabs.nl T15 nn).ext s', (dr17.same s').mono (by omega)⟩
      cases o with
      | none =>
        refine iteF ⟨_, rfl, v, none, rfl, hv.same s18, (fun r h => by cases h), fun _ H19 s19 => ?_⟩
        refine ⟨_, rfl, .none, .none, .non, .non, rfl, rfl, _, rfl, ?_⟩
        rw [SeqAt.eqv_refl _ rfl]
        exact iteF (fin _ _ _ _ (s18.trans s19))
      | some r' =>
        refine iteT ⟨_, rfl, _, rfl, v, some r', rfl, hv.same s18, fun r2 h2 H19 t19 s19 e19 => ?_, fun h => by cases h⟩
        cases h2
        obtain ⟨pv, rfl, epv, gv⟩ : ∃ pv, v = .ref pv ∧ H17 pv = some (.tup (rowVals r')) ∧ GoodRw r' := by
          generalize ho : some r' = o' at hv
          cases hv with
          | no _ _ => cases ho
          | len _ _ => cases ho
          | six h k =>
            obtain ⟨rfl, rfl, rfl, rfl, rfl, rfl, g⟩ := asRw_some ho.symm
            exact ⟨_, rfl, h, g⟩
        refine ⟨_, rfl, rows_same e19 ((s18.trans s19) _ _ epv) gv ⟨_, rfl, iteF ?_⟩⟩
        exact fin _ _ _ _ (s18.trans s19)
    · rintro σ H15 ⟨w8, w9, w10, rfl, e15, el15, hX15, T15, dr15⟩
      exact ⟨_, _, _, _, _, _, _, _, _, _, rfl, e15, T15⟩
  · rintro σ H' ⟨w1, w2, w3, w4, w5, w6, w7, w8, w9, w10, rfl, e0, T0⟩
    refine ⟨(by show 0 ≤ sizeLine; decide), fun l0 hl0 => ?_⟩
    refine ⟨l0, [], [], rfl, upd_same, ⟨rfl, fun i r h => by simp at h⟩, by decide, T0.ext (same_upd hl0), fun H2 l ys n2 T2 _ el hY => ?_⟩
    have hy : ys = [] := List.length_eq_zero_iff.mp (hY.1.trans (by rw [show (ordR []).length = ([] : List Rw).length from (List.mergeSort_perm _ _).length_eq]; rfl))
    subst hy
    refine ⟨(by show 0 ≤ sizeLine; decide), fun l1 hl1 => ?_⟩
    have z0 := same_upd hl1 (o := .lst [])
    exact ⟨_, ⟨l, l1, [], [], fun _ => true, rfl, rfl, z0 _ _ el, upd_same, fun _ i x y _ hy => by simp at hy, rfl⟩, fun H7 x7 => q H7⟩
end
theorem all_mk {l : PySem.W.OpenLaw} {w : World} {K : PySem.W.Frag} {h : Heap} {mg : Str → Option Value} {fa : Addr} (X : K.In h) (G : h.Ns mainGlobals mg) (hfa : mg "law" = some (.ref fa))
    {C_Bead : Addr}
    {C_PearlError : Addr}
    {C_BadRule : Addr}
    {C_BadDeed : Addr}
    {C_NoRow : Addr}
    {C_BadBead : Addr}
    {f0 : Addr} {od0 an0 : Option Addr} {sl0 : Array (Option Value)} {oc0 kV0 dc0 pm0 cd0 ct0 : Value}
    {T0 : Addr} {oT0 : Value} {dT0 : Option Addr} {nT0 : Nat} {sT0 : Array (Option Value)} {td0_0 : Tok}
    {f1 : Addr} {od1 an1 : Option Addr} {sl1 : Array (Option Value)} {oc1 kV1 dc1 pm1 cd1 ct1 : Value}
    {f2 : Addr} {od2 an2 : Option Addr} {sl2 : Array (Option Value)} {oc2 kV2 dc2 pm2 cd2 ct2 : Value}
    {f3 : Addr} {od3 an3 : Option Addr} {sl3 : Array (Option Value)} {oc3 kV3 dc3 pm3 cd3 ct3 : Value}
    {f4 : Addr} {od4 an4 : Option Addr} {sl4 : Array (Option Value)} {oc4 kV4 dc4 pm4 cd4 ct4 : Value}
    {f5 : Addr} {od5 an5 : Option Addr} {sl5 : Array (Option Value)} {oc5 kV5 dc5 pm5 cd5 ct5 : Value}
    {f6 : Addr} {od6 an6 : Option Addr} {sl6 : Array (Option Value)} {oc6 kV6 dc6 pm6 cd6 ct6 : Value}
    {T6 : Addr} {oT6 : Value} {dT6 : Option Addr} {nT6 : Nat} {sT6 : Array (Option Value)} {td6_0 : Tok}
    {f7 : Addr} {od7 an7 : Option Addr} {sl7 : Array (Option Value)} {oc7 kV7 dc7 pm7 cd7 ct7 : Value}
    {f8 : Addr} {od8 an8 : Option Addr} {sl8 : Array (Option Value)} {oc8 kV8 dc8 pm8 cd8 ct8 : Value}
    {f9 : Addr} {od9 an9 : Option Addr} {sl9 : Array (Option Value)} {oc9 kV9 dc9 pm9 cd9 ct9 : Value}
    {f10 : Addr} {od10 an10 : Option Addr} {sl10 : Array (Option Value)} {oc10 kV10 dc10 pm10 ct10 : Value}
    {cc10 PP10 : Addr}
    {f11 : Addr} {od11 an11 : Option Addr} {sl11 : Array (Option Value)} {oc11 kV11 dc11 pm11 cd11 ct11 : Value}
    {f12 : Addr} {od12 an12 : Option Addr} {sl12 : Array (Option Value)} {oc12 kV12 dc12 pm12 cd12 ct12 : Value}
    {f13 : Addr} {od13 an13 : Option Addr} {sl13 : Array (Option Value)} {oc13 kV13 dc13 pm13 cd13 ct13 : Value}
    {f14 : Addr} {od14 an14 : Option Addr} {sl14 : Array (Option Value)} {oc14 kV14 dc14 pm14 cd14 ct14 : Value}
    {f15 : Addr} {od15 an15 : Option Addr} {sl15 : Array (Option Value)} {oc15 kV15 dc15 pm15 cd15 ct15 : Value}
    {f16 : Addr} {od16 an16 : Option Addr} {sl16 : Array (Option Value)} {oc16 kV16 dc16 pm16 cd16 ct16 : Value}
    {f17 : Addr} {od17 an17 : Option Addr} {sl17 : Array (Option Value)} {oc17 kV17 dc17 pm17 cd17 ct17 : Value}
    {f18 : Addr} {od18 an18 : Option Addr} {sl18 : Array (Option Value)} {oc18 kV18 dc18 pm18 cd18 ct18 : Value}
    {f19 : Addr} {od19 an19 : Option Addr} {sl19 : Array (Option Value)} {oc19 kV19 dc19 pm19 cd19 ct19 : Value}
    {f20 : Addr} {od20 an20 : Option Addr} {sl20 : Array (Option Value)} {oc20 kV20 dc20 pm20 cd20 ct20 : Value}
    {f21 : Addr} {od21 an21 : Option Addr} {sl21 : Array (Option Value)} {oc21 kV21 dc21 pm21 cd21 ct21 : Value}
    {f22 : Addr} {od22 an22 : Option Addr} {sl22 : Array (Option Value)} {oc22 kV22 dc22 pm22 cd22 ct22 : Value}
    {f23 : Addr} {od23 an23 : Option Addr} {sl23 : Array (Option Value)} {oc23 kV23 dc23 pm23 cd23 ct23 : Value}
    {f24 : Addr} {od24 an24 : Option Addr} {sl24 : Array (Option Value)} {oc24 kV24 dc24 pm24 cd24 ct24 : Value}
    {f25 : Addr} {od25 an25 : Option Addr} {sl25 : Array (Option Value)} {oc25 kV25 dc25 pm25 cd25 ct25 : Value}
    {f26 : Addr} {od26 an26 : Option Addr} {sl26 : Array (Option Value)} {oc26 kV26 dc26 pm26 cd26 ct26 : Value}
    {tc0 : Tok}
    {tc1 : Tok}
    {tc2 : Tok}
    {tc3 : Tok}
    {nm_BadBead q_BadBead : Str} {N_BadBead : Addr} {bs_BadBead : List Value} {sn_BadBead : List Str} {sub_BadBead : List Value} {ab_BadBead : Bool} {col_BadBead : Option Bool} {dd_BadBead : Option Addr} {m0_BadBead m1_BadBead m2_BadBead m3_BadBead m5_BadBead : Option Value}
    (aC_Bead : PySem.W.nsIn K mainGlobals "Bead" = some (some (.ref C_Bead)))
    (pg_Bead : PySem.W.plainGet K C_Bead Str.empty = true)
    (hd_Bead : PySem.W.hasDictIn K C_Bead = true)
    (po_Bead : PySem.W.plainOver K C_Bead = true)
    (sa_Bead : PySem.W.findIn K (.ref C_Bead) "__setattr__" = some (some (.builtin "object.__setattr__")))
    (mk_Bead : PySem.W.makesIn K C_Bead = true)
    (kc_Bead : PySem.W.keepIn K (.ref C_Bead) = true)
    (n_Bead_number : PySem.W.findIn K (.ref C_Bead) "number" = some none)
    (n_Bead_across : PySem.W.findIn K (.ref C_Bead) "across" = some none)
    (n_Bead_weight : PySem.W.findIn K (.ref C_Bead) "weight" = some none)
    (n_Bead_shade : PySem.W.findIn K (.ref C_Bead) "shade" = some none)
    (n_Bead_form : PySem.W.findIn K (.ref C_Bead) "form" = some none)
    (n_Bead_drilled : PySem.W.findIn K (.ref C_Bead) "drilled" = some none)
    (aC_PearlError : PySem.W.nsIn K mainGlobals "PearlError" = some (some (.ref C_PearlError)))
    (aC_BadRule : PySem.W.nsIn K mainGlobals "BadRule" = some (some (.ref C_BadRule)))
    (aC_BadDeed : PySem.W.nsIn K mainGlobals "BadDeed" = some (some (.ref C_BadDeed)))
    (aC_NoRow : PySem.W.nsIn K mainGlobals "NoRow" = some (some (.ref C_NoRow)))
    (aC_BadBead : PySem.W.nsIn K mainGlobals "BadBead" = some (some (.ref C_BadBead)))
    (a0 : PySem.W.findIn K (.ref C_PearlError) "__init__" = some (some (.ref f0)))
    (i0 : PySem.W.isFn K (.ref f0) = true)
    (l0 : K.lookup f0 = some ⟨oc0, od0, .func (PySem.W.fnOf "__init__" "PearlError.__init__" (defArgs s_PearlError_init) (defBody s_PearlError_init) (defScope s_PearlError_init) (.ref T0) kV0 dc0 pm0 an0 cd0 ct0), sl0⟩)
    (d0 : K.lookup T0 = some ⟨oT0, dT0, .seq (List.toArray [.str "" td0_0]) nT0, sT0⟩)
    (c0 : PySem.W.codeIn K cd0 "PearlError.__init__" = true)
    (k0 : PySem.W.keepIn K (.ref f0) = true)
    (a1 : PySem.W.nsIn K mainGlobals "is_int" = some (some (.ref f1)))
    (l1 : K.lookup f1 = some ⟨oc1, od1, .func (PySem.W.fnOf "is_int" "is_int" (defArgs s_is_int) (defBody s_is_int) (defScope s_is_int) .none kV1 dc1 pm1 an1 cd1 ct1), sl1⟩)
    (c1 : PySem.W.codeIn K cd1 "is_int" = true)
    (k1 : PySem.W.keepIn K (.ref f1) = true)
    (a2 : PySem.W.nsIn K mainGlobals "is_whole" = some (some (.ref f2)))
    (l2 : K.lookup f2 = some ⟨oc2, od2, .func (PySem.W.fnOf "is_whole" "is_whole" (defArgs s_is_whole) (defBody s_is_whole) (defScope s_is_whole) .none kV2 dc2 pm2 an2 cd2 ct2), sl2⟩)
    (c2 : PySem.W.codeIn K cd2 "is_whole" = true)
    (k2 : PySem.W.keepIn K (.ref f2) = true)
    (a3 : PySem.W.nsIn K mainGlobals "is_name" = some (some (.ref f3)))
    (l3 : K.lookup f3 = some ⟨oc3, od3, .func (PySem.W.fnOf "is_name" "is_name" (defArgs s_is_name) (defBody s_is_name) (defScope s_is_name) .none kV3 dc3 pm3 an3 cd3 ct3), sl3⟩)
    (c3 : PySem.W.codeIn K cd3 "is_name" = true)
    (k3 : PySem.W.keepIn K (.ref f3) = true)
    (a4 : PySem.W.nsIn K mainGlobals "is_number" = some (some (.ref f4)))
    (l4 : K.lookup f4 = some ⟨oc4, od4, .func (PySem.W.fnOf "is_number" "is_number" (defArgs s_is_number) (defBody s_is_number) (defScope s_is_number) .none kV4 dc4 pm4 an4 cd4 ct4), sl4⟩)
    (c4 : PySem.W.codeIn K cd4 "is_number" = true)
    (k4 : PySem.W.keepIn K (.ref f4) = true)
    (a5 : PySem.W.nsIn K mainGlobals "is_measure" = some (some (.ref f5)))
    (l5 : K.lookup f5 = some ⟨oc5, od5, .func (PySem.W.fnOf "is_measure" "is_measure" (defArgs s_is_measure) (defBody s_is_measure) (defScope s_is_measure) .none kV5 dc5 pm5 an5 cd5 ct5), sl5⟩)
    (c5 : PySem.W.codeIn K cd5 "is_measure" = true)
    (k5 : PySem.W.keepIn K (.ref f5) = true)
    (a6 : PySem.W.findIn K (.ref C_Bead) "__init__" = some (some (.ref f6)))
    (i6 : PySem.W.isFn K (.ref f6) = true)
    (l6 : K.lookup f6 = some ⟨oc6, od6, .func (PySem.W.fnOf "__init__" "Bead.__init__" (defArgs s_Bead_init) (defBody s_Bead_init) (defScope s_Bead_init) (.ref T6) kV6 dc6 pm6 an6 cd6 ct6), sl6⟩)
    (d6 : K.lookup T6 = some ⟨oT6, dT6, .seq (List.toArray [.str "round" td6_0, .bool false]) nT6, sT6⟩)
    (c6 : PySem.W.codeIn K cd6 "Bead.__init__" = true)
    (k6 : PySem.W.keepIn K (.ref f6) = true)
    (a7 : PySem.W.findIn K (.ref C_Bead) "row" = some (some (.ref f7)))
    (i7 : PySem.W.isFn K (.ref f7) = true)
    (l7 : K.lookup f7 = some ⟨oc7, od7, .func (PySem.W.fnOf "row" "Bead.row" (defArgs s_Bead_row) (defBody s_Bead_row) (defScope s_Bead_row) .none kV7 dc7 pm7 an7 cd7 ct7), sl7⟩)
    (c7 : PySem.W.codeIn K cd7 "Bead.row" = true)
    (k7 : PySem.W.keepIn K (.ref f7) = true)
    (a8 : PySem.W.findIn K (.ref C_Bead) "key" = some (some (.ref f8)))
    (i8 : PySem.W.isFn K (.ref f8) = true)
    (l8 : K.lookup f8 = some ⟨oc8, od8, .func (PySem.W.fnOf "key" "Bead.key" (defArgs s_Bead_key) (defBody s_Bead_key) (defScope s_Bead_key) .none kV8 dc8 pm8 an8 cd8 ct8), sl8⟩)
    (c8 : PySem.W.codeIn K cd8 "Bead.key" = true)
    (k8 : PySem.W.keepIn K (.ref f8) = true)
    (a9 : PySem.W.nsIn K mainGlobals "bead_of" = some (some (.ref f9)))
    (l9 : K.lookup f9 = some ⟨oc9, od9, .func (PySem.W.fnOf "bead_of" "bead_of" (defArgs s_bead_of) (defBody s_bead_of) (defScope s_bead_of) .none kV9 dc9 pm9 an9 cd9 ct9), sl9⟩)
    (c9 : PySem.W.codeIn K cd9 "bead_of" = true)
    (k9 : PySem.W.keepIn K (.ref f9) = true)
    (a10 : PySem.W.nsIn K mainGlobals "in_order" = some (some (.ref f10)))
    (l10 : K.lookup f10 = some ⟨oc10, od10, .func (PySem.W.fnOf "in_order" "in_order" (defArgs s_in_order) (defBody s_in_order) (defScope s_in_order) .none kV10 dc10 pm10 an10 (.ref cc10) ct10), sl10⟩)
    (c10 : PySem.W.codeIn K (.ref cc10) "in_order" = true)
    (k10 : PySem.W.keepIn K (.ref f10) = true)
    (t10 : PySem.W.tabIn K "in_order" = some (cc10, PP10))
    (tn10 : K.lookup PP10 = none)
    (ct10_ : PySem.W.CodeHd h cc10 PP10 ∧ h.get? PP10 = some { cls := .none, data := .fields #[] })
    (a11 : PySem.W.nsIn K mainGlobals "_law_cell_at" = some (some (.ref f11)))
    (l11 : K.lookup f11 = some ⟨oc11, od11, .func (PySem.W.fnOf "_law_cell_at" "_law_cell_at" (defArgs s_cell_at) (defBody s_cell_at) (defScope s_cell_at) .none kV11 dc11 pm11 an11 cd11 ct11), sl11⟩)
    (c11 : PySem.W.codeIn K cd11 "_law_cell_at" = true)
    (k11 : PySem.W.keepIn K (.ref f11) = true)
    (a12 : PySem.W.nsIn K mainGlobals "_law_draws" = some (some (.ref f12)))
    (l12 : K.lookup f12 = some ⟨oc12, od12, .func (PySem.W.fnOf "_law_draws" "_law_draws" (defArgs s_draws) (defBody s_draws) (defScope s_draws) .none kV12 dc12 pm12 an12 cd12 ct12), sl12⟩)
    (c12 : PySem.W.codeIn K cd12 "_law_draws" = true)
    (k12 : PySem.W.keepIn K (.ref f12) = true)
    (a13 : PySem.W.nsIn K mainGlobals "_law_one" = some (some (.ref f13)))
    (l13 : K.lookup f13 = some ⟨oc13, od13, .func (PySem.W.fnOf "_law_one" "_law_one" (defArgs s_one) (defBody s_one) (defScope s_one) .none kV13 dc13 pm13 an13 cd13 ct13), sl13⟩)
    (c13 : PySem.W.codeIn K cd13 "_law_one" = true)
    (k13 : PySem.W.keepIn K (.ref f13) = true)
    (a14 : PySem.W.nsIn K mainGlobals "_law_of" = some (some (.ref f14)))
    (l14 : K.lookup f14 = some ⟨oc14, od14, .func (PySem.W.fnOf "_law_of" "_law_of" (defArgs s_of) (defBody s_of) (defScope s_of) .none kV14 dc14 pm14 an14 cd14 ct14), sl14⟩)
    (c14 : PySem.W.codeIn K cd14 "_law_of" = true)
    (k14 : PySem.W.keepIn K (.ref f14) = true)
    (a15 : PySem.W.nsIn K mainGlobals "_law_word" = some (some (.ref f15)))
    (l15 : K.lookup f15 = some ⟨oc15, od15, .func (PySem.W.fnOf "_law_word" "_law_word" (defArgs s_word) (defBody s_word) (defScope s_word) .none kV15 dc15 pm15 an15 cd15 ct15), sl15⟩)
    (c15 : PySem.W.codeIn K cd15 "_law_word" = true)
    (k15 : PySem.W.keepIn K (.ref f15) = true)
    (a16 : PySem.W.nsIn K mainGlobals "_law_size" = some (some (.ref f16)))
    (l16 : K.lookup f16 = some ⟨oc16, od16, .func (PySem.W.fnOf "_law_size" "_law_size" (defArgs s_size) (defBody s_size) (defScope s_size) .none kV16 dc16 pm16 an16 cd16 ct16), sl16⟩)
    (c16 : PySem.W.codeIn K cd16 "_law_size" = true)
    (k16 : PySem.W.keepIn K (.ref f16) = true)
    (a17 : PySem.W.nsIn K mainGlobals "_law_things" = some (some (.ref f17)))
    (l17 : K.lookup f17 = some ⟨oc17, od17, .func (PySem.W.fnOf "_law_things" "_law_things" (defArgs s_things) (defBody s_things) (defScope s_things) .none kV17 dc17 pm17 an17 cd17 ct17), sl17⟩)
    (c17 : PySem.W.codeIn K cd17 "_law_things" = true)
    (k17 : PySem.W.keepIn K (.ref f17) = true)
    (a18 : PySem.W.nsIn K mainGlobals "_law_bead" = some (some (.ref f18)))
    (l18 : K.lookup f18 = some ⟨oc18, od18, .func (PySem.W.fnOf "_law_bead" "_law_bead" (defArgs s_bead) (defBody s_bead) (defScope s_bead) .none kV18 dc18 pm18 an18 cd18 ct18), sl18⟩)
    (c18 : PySem.W.codeIn K cd18 "_law_bead" = true)
    (k18 : PySem.W.keepIn K (.ref f18) = true)
    (a19 : PySem.W.nsIn K mainGlobals "_law_some" = some (some (.ref f19)))
    (l19 : K.lookup f19 = some ⟨oc19, od19, .func (PySem.W.fnOf "_law_some" "_law_some" (defArgs s_some) (defBody s_some) (defScope s_some) .none kV19 dc19 pm19 an19 cd19 ct19), sl19⟩)
    (c19 : PySem.W.codeIn K cd19 "_law_some" = true)
    (k19 : PySem.W.keepIn K (.ref f19) = true)
    (a20 : PySem.W.nsIn K mainGlobals "_law_key" = some (some (.ref f20)))
    (l20 : K.lookup f20 = some ⟨oc20, od20, .func (PySem.W.fnOf "_law_key" "_law_key" (defArgs s_key) (defBody s_key) (defScope s_key) .none kV20 dc20 pm20 an20 cd20 ct20), sl20⟩)
    (c20 : PySem.W.codeIn K cd20 "_law_key" = true)
    (k20 : PySem.W.keepIn K (.ref f20) = true)
    (a21 : PySem.W.nsIn K mainGlobals "_law_spoilt" = some (some (.ref f21)))
    (l21 : K.lookup f21 = some ⟨oc21, od21, .func (PySem.W.fnOf "_law_spoilt" "_law_spoilt" (defArgs s_spoilt) (defBody s_spoilt) (defScope s_spoilt) .none kV21 dc21 pm21 an21 cd21 ct21), sl21⟩)
    (c21 : PySem.W.codeIn K cd21 "_law_spoilt" = true)
    (k21 : PySem.W.keepIn K (.ref f21) = true)
    (a22 : PySem.W.nsIn K mainGlobals "_law_is_row" = some (some (.ref f22)))
    (l22 : K.lookup f22 = some ⟨oc22, od22, .func (PySem.W.fnOf "_law_is_row" "_law_is_row" (defArgs s_is_row) (defBody s_is_row) (defScope s_is_row) .none kV22 dc22 pm22 an22 cd22 ct22), sl22⟩)
    (c22 : PySem.W.codeIn K cd22 "_law_is_row" = true)
    (k22 : PySem.W.keepIn K (.ref f22) = true)
    (a23 : PySem.W.nsIn K mainGlobals "_law_has_odd" = some (some (.ref f23)))
    (l23 : K.lookup f23 = some ⟨oc23, od23, .func (PySem.W.fnOf "_law_has_odd" "_law_has_odd" (defArgs s_has_odd) (defBody s_has_odd) (defScope s_has_odd) .none kV23 dc23 pm23 an23 cd23 ct23), sl23⟩)
    (c23 : PySem.W.codeIn K cd23 "_law_has_odd" = true)
    (k23 : PySem.W.keepIn K (.ref f23) = true)
    (a24 : PySem.W.nsIn K mainGlobals "_law_made" = some (some (.ref f24)))
    (l24 : K.lookup f24 = some ⟨oc24, od24, .func (PySem.W.fnOf "_law_made" "_law_made" (defArgs s_made) (defBody s_made) (defScope s_made) .none kV24 dc24 pm24 an24 cd24 ct24), sl24⟩)
    (c24 : PySem.W.codeIn K cd24 "_law_made" = true)
    (k24 : PySem.W.keepIn K (.ref f24) = true)
    (a25 : PySem.W.nsIn K mainGlobals "_law_shuffled" = some (some (.ref f25)))
    (l25 : K.lookup f25 = some ⟨oc25, od25, .func (PySem.W.fnOf "_law_shuffled" "_law_shuffled" (defArgs s_shuffled) (defBody s_shuffled) (defScope s_shuffled) .none kV25 dc25 pm25 an25 cd25 ct25), sl25⟩)
    (c25 : PySem.W.codeIn K cd25 "_law_shuffled" = true)
    (k25 : PySem.W.keepIn K (.ref f25) = true)
    (a26 : PySem.W.nsIn K mainGlobals "law" = some (some (.ref f26)))
    (l26 : K.lookup f26 = some ⟨oc26, od26, .func (PySem.W.fnOf "law" "law" (defArgs s_law) (defBody s_law) (defScope s_law) .none kV26 dc26 pm26 an26 cd26 ct26), sl26⟩)
    (c26 : PySem.W.codeIn K cd26 "law" = true)
    (k26 : PySem.W.keepIn K (.ref f26) = true)
    (q0 : PySem.W.nsIn K mainGlobals "LONGEST_NAME" = some (some (.int 8 tc0)))
    (q1 : PySem.W.nsIn K mainGlobals "GREATEST_NUMBER" = some (some (.int 1000000000 tc1)))
    (q2 : PySem.W.nsIn K mainGlobals "GREATEST_MEASURE" = some (some (.int 1000000 tc2)))
    (q3 : PySem.W.nsIn K mainGlobals "ROW_LENGTH" = some (some (.int 6 tc3)))
    (z0 : PySem.W.nsIn K mainGlobals "ValueError" = some none)
    (z1 : PySem.W.nsIn K mainGlobals "bool" = some none)
    (z2 : PySem.W.nsIn K mainGlobals "isinstance" = some none)
    (z3 : PySem.W.nsIn K mainGlobals "int" = some none)
    (z4 : PySem.W.nsIn K mainGlobals "len" = some none)
    (z5 : PySem.W.nsIn K mainGlobals "str" = some none)
    (z6 : PySem.W.nsIn K mainGlobals "all" = some none)
    (z7 : PySem.W.nsIn K mainGlobals "tuple" = some none)
    (z8 : PySem.W.nsIn K mainGlobals "sorted" = some none)
    (z9 : PySem.W.nsIn K mainGlobals "range" = some none)
    (z10 : PySem.W.nsIn K mainGlobals "list" = some none)
    (z11 : PySem.W.nsIn K mainGlobals "zip" = some none)
    (xL_BadBead : K.lookup C_BadBead = some (excClassObj nm_BadBead q_BadBead C_BadBead N_BadBead bs_BadBead [.ref C_PearlError, .type "ValueError", .type "Exception", .type "BaseException", .type "object"] true sn_BadBead sub_BadBead ab_BadBead col_BadBead dd_BadBead m0_BadBead m1_BadBead m2_BadBead m3_BadBead m5_BadBead "ValueError.__new__"))
    (xsa_BadBead : PySem.W.findIn K (.ref C_BadBead) "__setattr__" = some (some (.builtin "object.__setattr__")))
    (xe_BadBead : PySem.W.subIn K (.ref C_BadBead) (.type "BaseException") = some true)
    (xt_BadBead : PySem.W.typeIn K (.ref C_BadBead) = some (.type "type"))
    (xk_BadBead : PySem.W.keepIn K (.ref C_BadBead) = true)
    (xi_BadBead : PySem.W.findIn K (.ref C_BadBead) "__init__" = some (some (.ref f0)))
    (xga_BadBead : PySem.W.findIn K (.ref C_BadBead) "__getattribute__" = some (some (.builtin "BaseException.__getattribute__")))
    (xgg_BadBead : PySem.W.findIn K (.ref C_BadBead) "__getattr__" = some none)
    (xhd_BadBead : PySem.W.hasDictIn K C_BadBead = true)
    (xca_BadBead : PySem.W.findIn K (.ref C_BadBead) "__class__" = some (some (.builtin "object.__class__")))
    (xcg_BadBead : PySem.W.specialIn K (.builtin "object.__class__") "__get__" = some (some (.builtin "getset_descriptor.__get__")))
    (xct_BadBead : PySem.W.takesIn K (.builtin "object.__class__") = some true)
    (xmo_BadBead : PySem.W.mroIn K C_BadBead (.type "object") = some true)
    (xn_BadBead_why : PySem.W.findIn K (.ref C_BadBead) "why" = some none)
    (xs_BadBead_PearlError : PySem.W.subIn K (.ref C_BadBead) (.ref C_PearlError) = some true)
    (ye_PearlError : PySem.W.subIn K (.ref C_PearlError) (.type "BaseException") = some true)
    (yh_PearlError : PySem.W.hasDictIn K C_PearlError = true)
    (yt_PearlError : PySem.W.typeIn K (.ref C_PearlError) = some (.type "type"))
    (vV : PySem.W.findCls K (.type "ValueError") (.type "type") "__init__" = some (.val (.builtin "ValueError.__init__")))
    (ki_no : PySem.W.kitAny K (.ref C_BadBead) [.ref C_BadDeed, .ref C_BadRule, .ref C_NoRow] = some false) :
    LamX.LawAtS l w K CX0 15 63 "_law_script" mg fa h := by
  have e := hfa.symm.trans (PySem.W.mg_of X G a26)
  cases e
  have F0 : FunD K "__init__" "PearlError.__init__" (defArgs s_PearlError_init) (defBody s_PearlError_init) (defScope s_PearlError_init) [.str ""] [] f0 (PySem.W.fnOf "__init__" "PearlError.__init__" (defArgs s_PearlError_init) (defBody s_PearlError_init) (defScope s_PearlError_init) (.ref T0) kV0 dc0 pm0 an0 cd0 ct0) := ⟨⟨_, _, _, _, _, _, _, _, _, _, rfl, l0, c0, .inr ⟨(fun z => nomatch z), _, _, _, _, rfl, d0, rfl, .cons ⟨_, rfl⟩ (.nil)⟩, .inl rfl⟩, k0⟩
  have F1 := fun_mk (st := s_is_int) l1 c1 k1
  have F2 := fun_mk (st := s_is_whole) l2 c2 k2
  have F3 := fun_mk (st := s_is_name) l3 c3 k3
  have F4 := fun_mk (st := s_is_number) l4 c4 k4
  have F5 := fun_mk (st := s_is_measure) l5 c5 k5
  have F6 : FunD K "__init__" "Bead.__init__" (defArgs s_Bead_init) (defBody s_Bead_init) (defScope s_Bead_init) [.str "round", .bl false] [] f6 (PySem.W.fnOf "__init__" "Bead.__init__" (defArgs s_Bead_init) (defBody s_Bead_init) (defScope s_Bead_init) (.ref T6) kV6 dc6 pm6 an6 cd6 ct6) := ⟨⟨_, _, _, _, _, _, _, _, _, _, rfl, l6, c6, .inr ⟨(fun z => nomatch z), _, _, _, _, rfl, d6, rfl, .cons ⟨_, rfl⟩ (.cons rfl (.nil))⟩, .inl rfl⟩, k6⟩
  have F7 := fun_mk (st := s_Bead_row) l7 c7 k7
  have F8 := fun_mk (st := s_Bead_key) l8 c8 k8
  have F9 := fun_mk (st := s_bead_of) l9 c9 k9
  have F10 := fun_mk (st := s_in_order) l10 c10 k10
  have F11 := fun_mk (st := s_cell_at) l11 c11 k11
  have F12 := fun_mk (st := s_draws) l12 c12 k12
  have F13 := fun_mk (st := s_one) l13 c13 k13
  have F14 := fun_mk (st := s_of) l14 c14 k14
  have F15 := fun_mk (st := s_word) l15 c15 k15
  have F16 := fun_mk (st := s_size) l16 c16 k16
  have F17 := fun_mk (st := s_things) l17 c17 k17
  have F18 := fun_mk (st := s_bead) l18 c18 k18
  have F19 := fun_mk (st := s_some) l19 c19 k19
  have F20 := fun_mk (st := s_key) l20 c20 k20
  have F21 := fun_mk (st := s_spoilt) l21 c21 k21
  have F22 := fun_mk (st := s_is_row) l22 c22 k22
  have F23 := fun_mk (st := s_has_odd) l23 c23 k23
  have F24 := fun_mk (st := s_made) l24 c24 k24
  have F25 := fun_mk (st := s_shuffled) l25 c25 k25
  have F26 := fun_mk (st := s_law) l26 c26 k26
  have b0 : Binds K (PySem.W.fnOf "__init__" "PearlError.__init__" (defArgs s_PearlError_init) (defBody s_PearlError_init) (defScope s_PearlError_init) (.ref T0) kV0 dc0 pm0 an0 cd0 ct0) ["self", "why"] [] := by
    obtain ⟨ds, hv, hb⟩ := F0.binds1 (ps := ["self", "why"]) 2 1 (fun z => nomatch z) rfl fun _ _ _ _ _ _ _ us its h1 h2 => match us, its, h1, h2 with | [_, _], [_], _, _ => ⟨_, rfl, rfl⟩
    cases hv
    exact hb
  have b1 := F1.binds (ps := ["thing"]) fun _ _ _ _ _ _ us hl => match us, hl with | [_], _ => rfl
  have b2 := F2.binds (ps := ["thing", "least", "most"]) fun _ _ _ _ _ _ us hl => match us, hl with | [_, _, _], _ => rfl
  have b3 := F3.binds (ps := ["thing"]) fun _ _ _ _ _ _ us hl => match us, hl with | [_], _ => rfl
  have b4 := F4.binds (ps := ["thing"]) fun _ _ _ _ _ _ us hl => match us, hl with | [_], _ => rfl
  have b5 := F5.binds (ps := ["thing"]) fun _ _ _ _ _ _ us hl => match us, hl with | [_], _ => rfl
  have b6 : Binds K (PySem.W.fnOf "__init__" "Bead.__init__" (defArgs s_Bead_init) (defBody s_Bead_init) (defScope s_Bead_init) (.ref T6) kV6 dc6 pm6 an6 cd6 ct6) ["self", "number", "across", "weight", "shade", "form", "drilled"] [] := by
    obtain ⟨ds, hv, hb⟩ := F6.binds1 (ps := ["self", "number", "across", "weight", "shade", "form", "drilled"]) 7 2 (fun z => nomatch z) rfl fun _ _ _ _ _ _ _ us its h1 h2 => match us, its, h1, h2 with | [_, _, _, _, _, _, _], [_, _], _, _ => ⟨_, rfl, rfl⟩
    cases hv
    exact hb
  have b7 := F7.binds (ps := ["self"]) fun _ _ _ _ _ _ us hl => match us, hl with | [_], _ => rfl
  have b8 := F8.binds (ps := ["self"]) fun _ _ _ _ _ _ us hl => match us, hl with | [_], _ => rfl
  have b9 := F9.binds (ps := ["row"]) fun _ _ _ _ _ _ us hl => match us, hl with | [_], _ => rfl
  have b10 := F10.binds (ps := ["beads"]) fun _ _ _ _ _ _ us hl => match us, hl with | [_], _ => rfl
  have b11 := F11.binds (ps := ["_law_script", "_law_k"]) fun _ _ _ _ _ _ us hl => match us, hl with | [_, _], _ => rfl
  have b12 := F12.binds (ps := ["_law_cell"]) fun _ _ _ _ _ _ us hl => match us, hl with | [_], _ => rfl
  have b13 := F13.binds (ps := ["_law_draws_here", "_law_many"]) fun _ _ _ _ _ _ us hl => match us, hl with | [_, _], _ => rfl
  have b14 := F14.binds (ps := ["_law_draws_here", "_law_some_here"]) fun _ _ _ _ _ _ us hl => match us, hl with | [_, _], _ => rfl
  have b15 := F15.binds (ps := ["_law_draws_here"]) fun _ _ _ _ _ _ us hl => match us, hl with | [_], _ => rfl
  have b16 := F16.binds (ps := ["_law_draws_here"]) fun _ _ _ _ _ _ us hl => match us, hl with | [_], _ => rfl
  have b17 := F17.binds (ps := ["_law_draws_here"]) fun _ _ _ _ _ _ us hl => match us, hl with | [_], _ => rfl
  have b18 := F18.binds (ps := ["_law_things_here"]) fun _ _ _ _ _ _ us hl => match us, hl with | [_], _ => rfl
  have b19 := F19.binds (ps := ["_law_draws_here", "_law_many"]) fun _ _ _ _ _ _ us hl => match us, hl with | [_, _], _ => rfl
  have b20 := F20.binds (ps := ["_law_row"]) fun _ _ _ _ _ _ us hl => match us, hl with | [_], _ => rfl
  have b21 := F21.binds (ps := ["_law_draws_here", "_law_row"]) fun _ _ _ _ _ _ us hl => match us, hl with | [_, _], _ => rfl
  have b22 := F22.binds (ps := ["_law_thing"]) fun _ _ _ _ _ _ us hl => match us, hl with | [_], _ => rfl
  have b23 := F23.binds (ps := ["_law_row"]) fun _ _ _ _ _ _ us hl => match us, hl with | [_], _ => rfl
  have b24 := F24.binds (ps := ["_law_thing"]) fun _ _ _ _ _ _ us hl => match us, hl with | [_], _ => rfl
  have b25 := F25.binds (ps := ["_law_draws_here", "_law_rows"]) fun _ _ _ _ _ _ us hl => match us, hl with | [_, _], _ => rfl
  let T : Tx K mg := ⟨C_Bead, ⟨pg_Bead, hd_Bead, po_Bead, sa_Bead⟩, PySem.W.mg_of X G aC_Bead, n_Bead_number, n_Bead_across, n_Bead_weight, n_Bead_shade, n_Bead_form, n_Bead_drilled,
    _, _, F0, b0,
    _, _, F1, PySem.W.mg_of X G a1, b1,
    _, _, F2, PySem.W.mg_of X G a2, b2,
    _, _, F3, PySem.W.mg_of X G a3, b3,
    _, _, F4, PySem.W.mg_of X G a4, b4,
    _, _, F5, PySem.W.mg_of X G a5, b5,
    _, _, F6, ⟨mk_Bead, a6, i6, kc_Bead⟩, b6,
    _, _, F7, ⟨a7, i7, k7⟩, b7,
    _, _, F8, ⟨a8, i8, k8⟩, b8,
    _, _, F9, PySem.W.mg_of X G a9, b9,
    _, _, F10, PySem.W.mg_of X G a10, b10,
    _, _, F11, PySem.W.mg_of X G a11, b11,
    _, _, F12, PySem.W.mg_of X G a12, b12,
    _, _, F13, PySem.W.mg_of X G a13, b13,
    _, _, F14, PySem.W.mg_of X G a14, b14,
    _, _, F15, PySem.W.mg_of X G a15, b15,
    _, _, F16, PySem.W.mg_of X G a16, b16,
    _, _, F17, PySem.W.mg_of X G a17, b17,
    _, _, F18, PySem.W.mg_of X G a18, b18,
    _, _, F19, PySem.W.mg_of X G a19, b19,
    _, _, F20, PySem.W.mg_of X G a20, b20,
    _, _, F21, PySem.W.mg_of X G a21, b21,
    _, _, F22, PySem.W.mg_of X G a22, b22,
    _, _, F23, PySem.W.mg_of X G a23, b23,
    _, _, F24, PySem.W.mg_of X G a24, b24,
    _, _, F25, PySem.W.mg_of X G a25, b25,
    C_PearlError, PySem.W.mg_of X G aC_PearlError,
    C_BadRule, PySem.W.mg_of X G aC_BadRule,
    C_BadDeed, PySem.W.mg_of X G aC_BadDeed,
    C_NoRow, PySem.W.mg_of X G aC_NoRow,
    C_BadBead, PySem.W.mg_of X G aC_BadBead,
    ⟨⟨nm_BadBead, q_BadBead, N_BadBead, bs_BadBead, _, sn_BadBead, sub_BadBead, ab_BadBead, col_BadBead, dd_BadBead, m0_BadBead, m1_BadBead, m2_BadBead, m3_BadBead, m5_BadBead, xL_BadBead, rfl⟩, xsa_BadBead, xe_BadBead, xt_BadBead, xk_BadBead⟩,
    xi_BadBead, beq_iff_eq.mp i0,
    ⟨xga_BadBead, xgg_BadBead, xe_BadBead, xhd_BadBead, xca_BadBead, xcg_BadBead, xct_BadBead, xmo_BadBead⟩,
    xn_BadBead_why,
    PySem.W.exm_ref ye_PearlError yh_PearlError yt_PearlError xs_BadBead_PearlError,
    vV,
    cc10, PP10, rfl,
    ki_no,
    (if_pos (beq_self_eq_true _)),
    _, PySem.W.mg_of X G q0,
    _, PySem.W.mg_of X G q1,
    _, PySem.W.mg_of X G q2,
    _, PySem.W.mg_of X G q3,
    PySem.W.mg_none_of X G z0,
    PySem.W.mg_none_of X G z1,
    PySem.W.mg_none_of X G z2,
    PySem.W.mg_none_of X G z3,
    PySem.W.mg_none_of X G z4,
    PySem.W.mg_none_of X G z5,
    PySem.W.mg_none_of X G z6,
    PySem.W.mg_none_of X G z7,
    PySem.W.mg_none_of X G z8,
    PySem.W.mg_none_of X G z9,
    PySem.W.mg_none_of X G z10,
    PySem.W.mg_none_of X G z11⟩
  exact ⟨PySem.W.fnOf "law" "law" (defArgs s_law) (defBody s_law) (defScope s_law) .none kV26 dc26 pm26 an26 cd26 ct26, [(cc10, PP10)], spLaw K (lamT T), (fun p hp => by rw [List.mem_singleton.mp hp]; exact ct10_.2), (fun p hp => by rw [List.mem_singleton.mp hp]; exact tn10), (fun p hp => by rw [List.mem_singleton.mp hp]; exact ct10_.1), fun s v => .of_eq rfl, (fun H a ns hl _ hH hS => ⟨a, ns, rfl, hS, hl, (fun p hp => by rw [List.mem_singleton.mp hp]; exact LamX.TabS.nil (hH _ (List.mem_singleton_self _))), fun _ => rfl⟩), fun base _ _ TB => ok_law T ⟨TB _ (List.mem_singleton_self _)⟩ F26⟩
end KB
open PySem PySem.W PyProof.Rows
set_option maxRecDepth 100000 in
set_option maxHeartbeats 0 in
theorem PySem.Challenge.cw_pearlrise_k07_rows_and_order_holds : PySem.Challenge.rw_pearlrise_k07_rows_and_order.Holds := by
  w_on; o_law; k_head; (case hw => w_witness2)
  k_fill
  refine KA.walk_tab (l := PySem.Challenge.rw_pearlrise_k07_rows_and_order) (n := 63) (k := 15) (x := "_law_script") rfl (by decide) rfl ⟨rfl, by decide, by decide⟩ (fun w h Y => PySem.W.km_in_of Y) ?F
  case F =>
    intro w mg fa h KX G hmg TT
    refine' KB.all_mk KX G hmg ?aC_Bead ?pg_Bead ?hd_Bead ?po_Bead ?sa_Bead ?mk_Bead ?kc_Bead ?n_Bead_number ?n_Bead_across ?n_Bead_weight ?n_Bead_shade ?n_Bead_form ?n_Bead_drilled ?aC_PearlError ?aC_BadRule ?aC_BadDeed ?aC_NoRow ?aC_BadBead ?a0 ?i0 ?l0 ?d0 ?c0 ?k0 ?a1 ?l1 ?c1 ?k1 ?a2 ?l2 ?c2 ?k2 ?a3 ?l3 ?c3 ?k3 ?a4 ?l4 ?c4 ?k4 ?a5 ?l5 ?c5 ?k5 ?a6 ?i6 ?l6 ?d6 ?c6 ?k6 ?a7 ?i7 ?l7 ?c7 ?k7 ?a8 ?i8 ?l8 ?c8 ?k8 ?a9 ?l9 ?c9 ?k9 ?a10 ?l10 ?c10 ?k10 ?t10 ?tn10 ?ct10_ ?a11 ?l11 ?c11 ?k11 ?a12 ?l12 ?c12 ?k12 ?a13 ?l13 ?c13 ?k13 ?a14 ?l14 ?c14 ?k14 ?a15 ?l15 ?c15 ?k15 ?a16 ?l16 ?c16 ?k16 ?a17 ?l17 ?c17 ?k17 ?a18 ?l18 ?c18 ?k18 ?a19 ?l19 ?c19 ?k19 ?a20 ?l20 ?c20 ?k20 ?a21 ?l21 ?c21 ?k21 ?a22 ?l22 ?c22 ?k22 ?a23 ?l23 ?c23 ?k23 ?a24 ?l24 ?c24 ?k24 ?a25 ?l25 ?c25 ?k25 ?a26 ?l26 ?c26 ?k26 ?q0 ?q1 ?q2 ?q3 ?z0 ?z1 ?z2 ?z3 ?z4 ?z5 ?z6 ?z7 ?z8 ?z9 ?z10 ?z11 ?xL_BadBead ?xsa_BadBead ?xe_BadBead ?xt_BadBead ?xk_BadBead ?xi_BadBead ?xga_BadBead ?xgg_BadBead ?xhd_BadBead ?xca_BadBead ?xcg_BadBead ?xct_BadBead ?xmo_BadBead ?xn_BadBead_why ?xs_BadBead_PearlError ?ye_PearlError ?yh_PearlError ?yt_PearlError ?vV ?ki_no
    (case aC_Bead => k_is)
    (case pg_Bead => k_is)
    (case hd_Bead => k_is)
    (case po_Bead => k_is)
    (case sa_Bead => k_is)
    (case mk_Bead => k_is)
    (case kc_Bead => k_is)
    (case n_Bead_number => k_is)
    (case n_Bead_across => k_is)
    (case n_Bead_weight => k_is)
    (case n_Bead_shade => k_is)
    (case n_Bead_form => k_is)
    (case n_Bead_drilled => k_is)
    (case aC_PearlError => k_is)
    (case aC_BadRule => k_is)
    (case aC_BadDeed => k_is)
    (case aC_NoRow => k_is)
    (case aC_BadBead => k_is)
    (case a0 => k_is)
    (case i0 => k_is)
    (case l0 => k_is)
    (case d0 => k_is)
    (case c0 => k_is)
    (case k0 => k_is)
    (case a1 => k_is)
    (case l1 => k_is)
    (case c1 => k_is)
    (case k1 => k_is)
    (case a2 => k_is)
    (case l2 => k_is)
    (case c2 => k_is)
    (case k2 => k_is)
    (case a3 => k_is)
    (case l3 => k_is)
    (case c3 => k_is)
    (case k3 => k_is)
    (case a4 => k_is)
    (case l4 => k_is)
    (case c4 => k_is)
    (case k4 => k_is)
    (case a5 => k_is)
    (case l5 => k_is)
    (case c5 => k_is)
    (case k5 => k_is)
    (case a6 => k_is)
    (case i6 => k_is)
    (case l6 => k_is)
    (case d6 => k_is)
    (case c6 => k_is)
    (case k6 => k_is)
    (case a7 => k_is)
    (case i7 => k_is)
    (case l7 => k_is)
    (case c7 => k_is)
    (case k7 => k_is)
    (case a8 => k_is)
    (case i8 => k_is)
    (case l8 => k_is)
    (case c8 => k_is)
    (case k8 => k_is)
    (case a9 => k_is)
    (case l9 => k_is)
    (case c9 => k_is)
    (case k9 => k_is)
    (case a10 => k_is)
    (case l10 => k_is)
    (case c10 => k_is)
    (case k10 => k_is)
    (case t10 => rfl)
    (case tn10 => first | k_is | kernel_rfl)
    (case ct10_ => exact TT "in_order" _ _ (by decide +kernel) (by kernel_rfl))
    (case a11 => k_is)
    (case l11 => k_is)
    (case c11 => k_is)
    (case k11 => k_is)
    (case a12 => k_is)
    (case l12 => k_is)
    (case c12 => k_is)
    (case k12 => k_is)
    (case a13 => k_is)
    (case l13 => k_is)
    (case c13 => k_is)
    (case k13 => k_is)
    (case a14 => k_is)
    (case l14 => k_is)
    (case c14 => k_is)
    (case k14 => k_is)
    (case a15 => k_is)
    (case l15 => k_is)
    (case c15 => k_is)
    (case k15 => k_is)
    (case a16 => k_is)
    (case l16 => k_is)
    (case c16 => k_is)
    (case k16 => k_is)
    (case a17 => k_is)
    (case l17 => k_is)
    (case c17 => k_is)
    (case k17 => k_is)
    (case a18 => k_is)
    (case l18 => k_is)
    (case c18 => k_is)
    (case k18 => k_is)
    (case a19 => k_is)
    (case l19 => k_is)
    (case c19 => k_is)
    (case k19 => k_is)
    (case a20 => k_is)
    (case l20 => k_is)
    (case c20 => k_is)
    (case k20 => k_is)
    (case a21 => k_is)
    (case l21 => k_is)
    (case c21 => k_is)
    (case k21 => k_is)
    (case a22 => k_is)
    (case l22 => k_is)
    (case c22 => k_is)
    (case k22 => k_is)
    (case a23 => k_is)
    (case l23 => k_is)
    (case c23 => k_is)
    (case k23 => k_is)
    (case a24 => k_is)
    (case l24 => k_is)
    (case c24 => k_is)
    (case k24 => k_is)
    (case a25 => k_is)
    (case l25 => k_is)
    (case c25 => k_is)
    (case k25 => k_is)
    (case a26 => k_is)
    (case l26 => k_is)
    (case c26 => k_is)
    (case k26 => k_is)
    (case q0 => k_is)
    (case q1 => k_is)
    (case q2 => k_is)
    (case q3 => k_is)
    (case z0 => k_is)
    (case z1 => k_is)
    (case z2 => k_is)
    (case z3 => k_is)
    (case z4 => k_is)
    (case z5 => k_is)
    (case z6 => k_is)
    (case z7 => k_is)
    (case z8 => k_is)
    (case z9 => k_is)
    (case z10 => k_is)
    (case z11 => k_is)
    (case xL_BadBead => k_is)
    (case xsa_BadBead => k_is)
    (case xe_BadBead => k_is)
    (case xt_BadBead => k_is)
    (case xk_BadBead => k_is)
    (case xi_BadBead => k_is)
    (case xga_BadBead => k_is)
    (case xgg_BadBead => k_is)
    (case xhd_BadBead => k_is)
    (case xca_BadBead => k_is)
    (case xcg_BadBead => k_is)
    (case xct_BadBead => k_is)
    (case xmo_BadBead => k_is)
    (case xn_BadBead_why => k_is)
    (case xs_BadBead_PearlError => k_is)
    (case ye_PearlError => k_is)
    (case yh_PearlError => k_is)
    (case yt_PearlError => k_is)
    (case vV => k_is)
    (case ki_no => kit_is)
