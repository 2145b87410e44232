import PyProof.Rows.All
import Wide.All
import OpenK.AllK
import Wide.FinOn
import HandS.ForMost
import HandS.IsInst
import HandS.Wide
import HandS.Walk
import HandS.TupAny
import HandS.Style
import HandS.Defaults
import HandS.MakeKw
import KE.IntTextLaws
import HandS.OwnEq
import PySem.Challenge.RW_pearlrise_k03_shares_reckoned
set_option Elab.async false
set_option linter.all false
set_option maxRecDepth 100000
set_option maxHeartbeats 4000000
namespace KA
open PySem PySem.Spec PyProof.Rows L2
/-! ### heaps -/
theorem same_upd {H : Hp} {p : Addr} {o : HO} (h : H p = none) : Same H (upd H p o) := fun b x e => by
  rw [upd_ne (ne_of_none e h)]
  exact e
/-- all but what stands at d is as it was -/
def But (d : Addr) (H H' : Hp) : Prop := ∀ b o, b ≠ d → H b = some o → H' b = some o
theorem But.refl (d : Addr) (H : Hp) : But d H H := fun _ _ _ h => h
theorem But.trans {d : Addr} {H H1 H2 : Hp} (a : But d H H1) (b : But d H1 H2) : But d H H2 := fun c o n h => b c o n (a c o n h)
theorem But.of {d : Addr} {H H' : Hp} (s : Same H H') : But d H H' := fun b o _ h => s b o h
theorem But.at_ {d : Addr} {H : Hp} {o : HO} : But d H (upd H d o) := fun b x n h => by
  rw [upd_ne n]
  exact h
theorem But.new {d p : Addr} {H : Hp} {o : HO} (h : H p = none) : But d H (upd H p o) := But.of (same_upd h)
theorem But.same {d : Addr} {H0 H H' : Hp} (h0 : H0 d = none) (s : Same H0 H) (b : But d H H') : Same H0 H' := fun c o h => b c o (ne_of_none h h0) (s c o h)
theorem But.mut {d : Addr} {H0 H : Hp} {o : HO} {p : Addr} (b : But d H0 H) (h : H0 p = none) : But d H0 (upd H p o) := fun c x n e => by
  rw [upd_ne (ne_of_none e h)]
  exact b c x n e
theorem But.free {d p : Addr} {H H' : Hp} (b : But d H H') (n : p ≠ d) (h : H' p = none) : H p = none := by
  cases q : H p with
  | none => rfl
  | some o =>
    rw [b p o n q] at h
    cases h
theorem but_seq {K : PySem.W.Frag} {d a : Addr} {H H' : Hp} {xs : List V} (b : But d H H') (n : a ≠ d) (h : SqL K H a xs) : SqL K H' a xs := by
  rcases h with (h | ⟨o, h⟩) | h
  · exact .inl (.inl (b _ _ n h))
  · exact .inl (.inr ⟨o, b _ _ n h⟩)
  · exact .inr h
/-- the draws' list at d, its counter at most n -/
def Dr (P : Int → Prop) (d : Addr) (n : Nat) (H : Hp) : Prop := ∃ a b c : Int, H d = some (.lst [.int a, .int b, .int c]) ∧ P b ∧ 0 ≤ c ∧ c ≤ n
theorem Dr.same {P : Int → Prop} {d : Addr} {n : Nat} {H H' : Hp} (h : Dr P d n H) (s : Same H H') : Dr P d n H' := by
  obtain ⟨a, b, c, e, r⟩ := h
  exact ⟨a, b, c, s _ _ e, r⟩
theorem Dr.ne {P : Int → Prop} {d p : Addr} {n : Nat} {H : Hp} (h : Dr P d n H) (e : H p = none) : p ≠ d := by
  obtain ⟨a, b, c, z, _⟩ := h
  exact (ne_of_none z e).symm
theorem Dr.mono {P : Int → Prop} {d : Addr} {n m : Nat} {H : Hp} (h : Dr P d n H) (e : n ≤ m) : Dr P d m H := by
  obtain ⟨a, b, c, z, h1, h3, h4⟩ := h
  exact ⟨a, b, c, z, h1, h3, by omega⟩
theorem Dr.upd {P : Int → Prop} {d p : Addr} {n : Nat} {H : Hp} {o : HO} (h : Dr P d n H) (e : p ≠ d) : Dr P d n (L2.upd H p o) := by
  obtain ⟨a, b, c, z, r⟩ := h
  exact ⟨a, b, c, by rw [upd_ne e.symm]; exact z, r⟩
theorem yesT {σ : L2.St} {H : Hp} {A B : Hp → Prop} (h : A H) : tYes σ H (fun b H3 => if b = true then A H3 else B H3) := by
  show if true = true then A H else B H
  exact iteT h
/-! ### what is no own object -/
inductive Th (K : PySem.W.Frag) (H : Hp) : V → Prop
  | int (i : Int) : Th K H (.int i)
  | bl (b : Bool) : Th K H (.bl b)
  | str (z : Str) : Th K H (.str z)
  | non : Th K H .non
  | lst {a : Addr} (h : TyX K H (.ref a) (.type "list")) : Th K H (.ref a)
  | tup {a : Addr} (h : TyX K H (.ref a) (.type "tuple")) : Th K H (.ref a)
  | dct {a : Addr} (h : TyX K H (.ref a) (.type "dict")) : Th K H (.ref a)
def isI : V → Bool
  | .int _ => true
  | _ => false
def isB : V → Bool
  | .bl _ => true
  | _ => false
def isS : V → Bool
  | .str _ => true
  | _ => false
theorem isi_int {K : PySem.W.Frag} {H : Hp} {v : V} (h : Th K H v) : ∃ t, TyX K H v t ∧ PySem.W.kitOne K t (.type "int") = some (isI v || isB v) := by
  cases h with
  | int i => exact ⟨_, .base (.int i), kit_ty (r := true) (by decide +kernel)⟩
  | bl b => exact ⟨_, .base (.bl b), kit_ty (r := true) (by decide +kernel)⟩
  | str z => exact ⟨_, .base (.str z), kit_ty (r := false) (by decide +kernel)⟩
  | non => exact ⟨_, .base .non, kit_ty (r := false) (by decide +kernel)⟩
  | lst h => exact ⟨_, h, kit_ty (r := false) (by decide +kernel)⟩
  | tup h => exact ⟨_, h, kit_ty (r := false) (by decide +kernel)⟩
  | dct h => exact ⟨_, h, kit_ty (r := false) (by decide +kernel)⟩
theorem isi_bool {K : PySem.W.Frag} {H : Hp} {v : V} (h : Th K H v) : ∃ t, TyX K H v t ∧ PySem.W.kitOne K t (.type "bool") = some (isB v) := by
  cases h with
  | int i => exact ⟨_, .base (.int i), kit_ty (r := false) (by decide +kernel)⟩
  | bl b => exact ⟨_, .base (.bl b), kit_ty (r := true) (by decide +kernel)⟩
  | str z => exact ⟨_, .base (.str z), kit_ty (r := false) (by decide +kernel)⟩
  | non => exact ⟨_, .base .non, kit_ty (r := false) (by decide +kernel)⟩
  | lst h => exact ⟨_, h, kit_ty (r := false) (by decide +kernel)⟩
  | tup h => exact ⟨_, h, kit_ty (r := false) (by decide +kernel)⟩
  | dct h => exact ⟨_, h, kit_ty (r := false) (by decide +kernel)⟩
theorem isi_str {K : PySem.W.Frag} {H : Hp} {v : V} (h : Th K H v) : ∃ t, TyX K H v t ∧ PySem.W.kitOne K t (.type "str") = some (isS v) := by
  cases h with
  | int i => exact ⟨_, .base (.int i), kit_ty (r := false) (by decide +kernel)⟩
  | bl b => exact ⟨_, .base (.bl b), kit_ty (r := false) (by decide +kernel)⟩
  | str z => exact ⟨_, .base (.str z), kit_ty (r := true) (by decide +kernel)⟩
  | non => exact ⟨_, .base .non, kit_ty (r := false) (by decide +kernel)⟩
  | lst h => exact ⟨_, h, kit_ty (r := false) (by decide +kernel)⟩
  | tup h => exact ⟨_, h, kit_ty (r := false) (by decide +kernel)⟩
  | dct h => exact ⟨_, h, kit_ty (r := false) (by decide +kernel)⟩
/-! ### signs -/
def lower (c : Nat) : Bool := decide (97 ≤ c) && decide (c ≤ 122)
def figure (c : Nat) : Bool := decide (48 ≤ c) && decide (c ≤ 57)
theorem sgl_lt (a b : Nat) : (([a] : List Nat) < [b]) ↔ a < b := by
  rw [List.cons_lt_cons_iff]
  simp
theorem ge_a (c : Nat) : (!decide ((⟨#[c]⟩ : Str).cps.toList < ("a" : Str).cps.toList)) = decide (97 ≤ c) := by
  have e : ("a" : Str).cps.toList = [97] := by decide +kernel
  rw [e]
  show (!decide ([c] < [97])) = _
  rw [decide_eq_decide.mpr (sgl_lt c 97), ← decide_not, decide_eq_decide]
  omega
theorem le_z (c : Nat) : (!decide (("z" : Str).cps.toList < (⟨#[c]⟩ : Str).cps.toList)) = decide (c ≤ 122) := by
  have e : ("z" : Str).cps.toList = [122] := by decide +kernel
  rw [e]
  show (!decide ([122] < [c])) = _
  rw [decide_eq_decide.mpr (sgl_lt 122 c), ← decide_not, decide_eq_decide]
  omega
theorem in_az (c : Nat) : decide (c ∈ ("abcdefghijklmnopqrstuvwxyz" : Str).cps.toList) = lower c := by
  have e : ("abcdefghijklmnopqrstuvwxyz" : Str).cps.toList = (List.range 26).map (· + 97) := by decide +kernel
  unfold lower
  rw [e, ← Bool.decide_and, decide_eq_decide, List.mem_map]
  constructor
  · rintro ⟨a, ha, rfl⟩
    rw [List.mem_range] at ha
    omega
  · intro h
    exact ⟨c - 97, List.mem_range.mpr (by omega), by omega⟩
theorem in_09 (c : Nat) : decide (c ∈ ("0123456789" : Str).cps.toList) = figure c := by
  have e : ("0123456789" : Str).cps.toList = (List.range 10).map (· + 48) := by decide +kernel
  unfold figure
  rw [e, ← Bool.decide_and, decide_eq_decide, List.mem_map]
  constructor
  · rintro ⟨a, ha, rfl⟩
    rw [List.mem_range] at ha
    omega
  · intro h
    exact ⟨c - 48, List.mem_range.mpr (by omega), by omega⟩
/-! ### numbers by figures -/
open NumText TL
theorem fold_lt : ∀ (cs : List Nat) (a : Nat), AllDigits cs → a * 10 ^ cs.length ≤ cs.foldl (fun acc c => acc * 10 + (c - 48)) a ∧ cs.foldl (fun acc c => acc * 10 + (c - 48)) a < (a + 1) * 10 ^ cs.length
  | [], a, _ => by simp
  | c :: cs, a, h => by
    have hc := h.head
    have ih := fold_lt cs (a * 10 + (c - 48)) h.tail
    rw [List.foldl_cons, List.length_cons, Nat.pow_succ]
    have p : 0 < 10 ^ cs.length := Nat.pos_of_ne_zero (by simp)
    generalize 10 ^ cs.length = q at *
    refine ⟨Nat.le_trans ?_ ih.1, Nat.lt_of_lt_of_le ih.2 ?_⟩
    · have : a * (q * 10) = (a * 10) * q := by rw [Nat.mul_comm q 10, ← Nat.mul_assoc]
      rw [this]
      exact Nat.mul_le_mul_right q (by omega)
    · have : (a + 1) * (q * 10) = ((a + 1) * 10) * q := by rw [Nat.mul_comm q 10, ← Nat.mul_assoc]
      rw [this]
      exact Nat.mul_le_mul_right q (by omega)
theorem val_lt {cs : List Nat} (h : AllDigits cs) : digitsVal cs < 10 ^ cs.length := by
  have := (fold_lt cs 0 h).2
  rw [Nat.zero_add, Nat.one_mul] at this
  exact this
theorem val_ge {c : Nat} {cs : List Nat} (h : AllDigits (c :: cs)) (hc : c ≠ 48) : 10 ^ cs.length ≤ digitsVal (c :: cs) := by
  have h1 := h.head
  have := (fold_lt cs (0 * 10 + (c - 48)) h.tail).1
  refine Nat.le_trans ?_ this
  have : 1 * 10 ^ cs.length ≤ (0 * 10 + (c - 48)) * 10 ^ cs.length := Nat.mul_le_mul_right _ (by omega)
  omega
theorem val_zero {cs : List Nat} : digitsVal (48 :: cs) = digitsVal cs := rfl
/-- the figures of a number have as many signs as the word just where it has no nought ahead of others -/
theorem len_canon {c : Nat} {cs : List Nat} (h : AllDigits (c :: cs)) : (numL (digitsVal (c :: cs))).length = (c :: cs).length ↔ ¬ (c = 48 ∧ 1 < (c :: cs).length) := by
  constructor
  · rintro e ⟨rfl, hl⟩
    rw [val_zero] at e
    rw [List.length_cons] at e hl
    have := numL_len (n := digitsVal cs) (k := cs.length) (by omega) (val_lt h.tail)
    omega
  · intro hn
    by_cases hc : c = 48
    · subst hc
      have : cs = [] := by
        cases cs with
        | nil => rfl
        | cons d r =>
          exact absurd ⟨rfl, by rw [List.length_cons, List.length_cons]; omega⟩ hn
      subst this
      rw [val_zero]
      show (numL 0).length = 1
      rw [numL_lt (by decide)]
      rfl
    · have u := numL_len (n := digitsVal (c :: cs)) (k := (c :: cs).length) (by rw [List.length_cons]; omega) (val_lt h)
      have l := val_ge h hc
      have v := val_lt (numL_digits (digitsVal (c :: cs)))
      rw [numL_val] at v
      have w : 10 ^ cs.length < 10 ^ (numL (digitsVal (c :: cs))).length := Nat.lt_of_le_of_lt l v
      have := (Nat.pow_lt_pow_iff_right (by decide : 1 < 10)).mp w
      rw [List.length_cons] at *
      omega
/-- words of figures of one length and one worth are one -/
theorem fold_inj : ∀ (cs ds : List Nat) (a b : Nat), AllDigits cs → AllDigits ds → cs.length = ds.length → cs.foldl (fun acc c => acc * 10 + (c - 48)) a = ds.foldl (fun acc c => acc * 10 + (c - 48)) b → a = b ∧ cs = ds
  | [], [], a, b, _, _, _, e => ⟨e, rfl⟩
  | [], _ :: _, _, _, _, _, l, _ => by simp at l
  | _ :: _, [], _, _, _, _, l, _ => by simp at l
  | c :: cs, d :: ds, a, b, h1, h2, l, e => by
    have q := fold_inj cs ds (a * 10 + (c - 48)) (b * 10 + (d - 48)) h1.tail h2.tail (by simpa using l) e
    have hc := h1.head
    have hd := h2.head
    have e1 := q.1
    have : a = b ∧ c = d := by omega
    exact ⟨this.1, by rw [this.2, q.2]⟩
theorem canon_eq {c : Nat} {cs : List Nat} (h : AllDigits (c :: cs)) (hn : ¬ (c = 48 ∧ 1 < (c :: cs).length)) : numL (digitsVal (c :: cs)) = c :: cs :=
  (fold_inj _ _ 0 0 (numL_digits _) h ((len_canon h).mpr hn) (numL_val _)).2
section
variable {X : Cx}
/-- a text many times -/
def timesS (z : Str) (n : Nat) : Str := ⟨(List.replicate n z.cps).foldl (· ++ ·) #[]⟩
theorem times_fold (c : Nat) : ∀ (n : Nat) (a : Array Nat), ((List.replicate n #[c]).foldl (· ++ ·) a).toList = a.toList ++ List.replicate n c
  | 0, a => by simp
  | n + 1, a => by
    rw [List.replicate_succ, List.foldl_cons, times_fold c n (a ++ #[c]), Array.toList_append, List.append_assoc]
    rfl
theorem times_list {z : Str} {c n : Nat} (h : z.cps = #[c]) : (timesS z n).cps.toList = List.replicate n c := by
  unfold timesS
  show ((List.replicate n z.cps).foldl (· ++ ·) #[]).toList = _
  rw [h, times_fold c n #[]]
  rfl
theorem times_len {z : Str} {c n : Nat} (h : z.cps = #[c]) : (timesS z n).length = n := by
  show (timesS z n).cps.size = n
  rw [← Array.length_toList, times_list h, List.length_replicate]
theorem op_mulS : OpR X (binaryOp .Mult) (fun x y H Q => ∃ (z : Str) (k : Int), x = .str z ∧ y = .int k ∧ 2 ≤ k ∧ k ≤ 100000 ∧ (∃ c, z.cps = #[c]) ∧ Q (.str (timesS z k.toNat)) H) := by
  intro pins s σ H x y v u Q I rx ry h
  obtain ⟨z, k, rfl, rfl, h2, h3, ⟨c, hc⟩, q⟩ := h
  have hz : z.length = 1 := by
    show z.cps.size = 1
    rw [hc]
    rfl
  obtain ⟨t, rfl⟩ := rx
  obtain ⟨t', rfl⟩ := ry
  refine PySem.P.mul_str ?_ ?_ ?_ ?_
  · rw [decide_eq_false (by omega), decide_eq_false (by omega)]
    rfl
  · intro _ _
    rw [hz]
    have : (1 : Int) ≤ (2 ^ 63 - 1) / k := by
      have : (2 ^ 63 - 1 : Int) / k ≥ 1 := (Int.le_ediv_iff_mul_le (by omega)).mpr (by omega)
      exact this
    omega
  · intro _ _
    rw [hz]
    exact decide_eq_false (by
      have : (100000 : Nat) ≤ sizeLine := by decide
      show ¬ _ > _
      omega)
  · have hk1 : (k == 1) = false := by
      rw [beq_eq_false_iff_ne]
      omega
    rw [if_neg (by omega), if_neg (by rw [hk1, hz]; decide)]
    refine ⟨?_, ⟨.str (timesS z k.toNat), H, I.tok _, ⟨_, rfl⟩, q⟩⟩
    have e := times_len (n := k.toNat) hc
    have : (100000 : Nat) ≤ sizeLine := by decide
    show (timesS z k.toNat).length ≤ sizeLine
    omega
end

/-! ### comprehensions over a text -/
/-- [truth of each sign] -/
theorem lc_all {z : Str} {H : Hp} {D : Addr} (hD : H D = none) (hz : z.length ≤ 100000) (f : Nat → Bool) {g : TG} {tt : TT} {te : TE} {vs : List Nat} {σ : L2.St} {Qd : Hp → Prop}
    (turn : ∀ (c : Nat) (H2 : Hp) (R : V → Hp → Prop) (C : Hp → Prop), Same H H2 → R (.bl (f c)) H2 → g (.str ⟨#[c]⟩) (wipe σ vs) H2 fun σ2 H2 => wipe σ2 vs = wipe σ vs ∧ tt σ2 H2 fun b H3 => if b = true then te σ2 H3 R else C H3)
    (fin : ∀ H', Same H H' → H' D = some (.lst ((z.cps.toList.map f).map V.bl)) → Qd H') :
    ∃ W : Nat → Nat → Hp → Prop, (∃ m, W 0 m (upd H D (.lst []))) ∧ ∀ i m H, W i m H →
      ((Its z).stop i H ∧ Qd H) ∨ ((Its z).go i H ∧ ∃ Nx : Hp → Prop, (∀ H', Nx H' → ∃ m', m' < m ∧ W (i + 1) m' H') ∧ ∀ x H', (Its z).yld i H x H' → g x (wipe σ vs) H' fun σ2 H2 => wipe σ2 vs = wipe σ vs ∧ tt σ2 H2 fun b H3 =>
        if b = true then te σ2 H3 fun y H4 => ∃ acc, H4 D = some (.lst acc) ∧ acc.length < sizeLine ∧ Nx (upd H4 D (.lst (acc ++ [y]))) else Nx H3) := by
  have hzl : z.length ≤ sizeLine := Nat.le_trans hz (by decide)
  refine lc_it walk_str (fun i H' => Same H H' ∧ H' D = some (.lst (((z.cps.toList.take i).map f).map V.bl))) ⟨same_upd hD, upd_same⟩ (fun _ _ _ _ => trivial) ?_ ?_
  · rintro i x H1 H2 hi ⟨s1, e1⟩ ⟨rfl, c, hc, rfl⟩
    refine turn c _ _ _ s1 ?_
    have hc' : z.cps.toList[i]? = some c := by rw [Array.getElem?_toList]; exact hc
    refine ⟨_, e1, ?_, fun b o h => ?_, ?_⟩
    · rw [List.length_map, List.length_map, List.length_take]
      exact Nat.lt_of_le_of_lt (Nat.min_le_left _ _) (Nat.lt_of_lt_of_le hi hzl)
    · rw [upd_ne (ne_of_none h hD)]
      exact s1 _ _ h
    · rw [upd_same, List.take_add_one, hc', List.map_append, List.map_append]
      rfl
  · rintro H' ⟨s1, e1⟩
    have ef : z.cps.toList.take z.cps.size = z.cps.toList := List.take_of_length_le (by rw [Array.length_toList]; exact Nat.le_refl _)
    rw [ef] at e1
    exact fin H' s1 e1
def sg (c : Nat) : V := .str ⟨#[c]⟩
/-- [sign for sign in text if ..] -/
theorem lc_filter {z : Str} {H : Hp} {D : Addr} (hD : H D = none) (hz : z.length ≤ 100000) (f : Nat → Bool) {g : TG} {tt : TT} {te : TE} {vs : List Nat} {σ : L2.St} {Qd : Hp → Prop}
    (turn : ∀ (c : Nat) (H2 : Hp) (R : V → Hp → Prop) (C : Hp → Prop), Same H H2 → (f c = true → R (sg c) H2) → (f c = false → C H2) → g (.str ⟨#[c]⟩) (wipe σ vs) H2 fun σ2 H2 => wipe σ2 vs = wipe σ vs ∧ tt σ2 H2 fun b H3 => if b = true then te σ2 H3 R else C H3)
    (fin : ∀ H', Same H H' → H' D = some (.lst ((z.cps.toList.filter f).map sg)) → Qd H') :
    ∃ W : Nat → Nat → Hp → Prop, (∃ m, W 0 m (upd H D (.lst []))) ∧ ∀ i m H, W i m H →
      ((Its z).stop i H ∧ Qd H) ∨ ((Its z).go i H ∧ ∃ Nx : Hp → Prop, (∀ H', Nx H' → ∃ m', m' < m ∧ W (i + 1) m' H') ∧ ∀ x H', (Its z).yld i H x H' → g x (wipe σ vs) H' fun σ2 H2 => wipe σ2 vs = wipe σ vs ∧ tt σ2 H2 fun b H3 =>
        if b = true then te σ2 H3 fun y H4 => ∃ acc, H4 D = some (.lst acc) ∧ acc.length < sizeLine ∧ Nx (upd H4 D (.lst (acc ++ [y]))) else Nx H3) := by
  have hzl : z.length ≤ sizeLine := Nat.le_trans hz (by decide)
  refine lc_it walk_str (fun i H' => Same H H' ∧ H' D = some (.lst (((z.cps.toList.take i).filter f).map sg))) ⟨same_upd hD, upd_same⟩ (fun _ _ _ _ => trivial) ?_ ?_
  · rintro i x H1 H2 hi ⟨s1, e1⟩ ⟨rfl, c, hc, rfl⟩
    have hc' : z.cps.toList[i]? = some c := by rw [Array.getElem?_toList]; exact hc
    refine turn c _ _ _ s1 (fun hf => ?_) (fun hf => ?_)
    · refine ⟨_, e1, ?_, fun b o h => ?_, ?_⟩
      · rw [List.length_map]
        refine Nat.lt_of_le_of_lt (List.length_filter_le _ _) ?_
        rw [List.length_take]
        exact Nat.lt_of_le_of_lt (Nat.min_le_left _ _) (Nat.lt_of_lt_of_le hi hzl)
      · rw [upd_ne (ne_of_none h hD)]
        exact s1 _ _ h
      · rw [upd_same, List.take_add_one, hc', List.filter_append, List.map_append]
        show _ = some (HO.lst (_ ++ List.map sg (List.filter f [c])))
        rw [List.filter_cons_of_pos hf]
        rfl
    · refine ⟨s1, ?_⟩
      rw [e1, List.take_add_one, hc', List.filter_append, List.map_append]
      show _ = some (HO.lst (_ ++ List.map sg (List.filter f [c])))
      rw [List.filter_cons_of_neg (by rw [hf]; exact Bool.false_ne_true)]
      show _ = some (HO.lst (_ ++ []))
      rw [List.append_nil]
  · rintro H' ⟨s1, e1⟩
    have ef : z.cps.toList.take z.cps.size = z.cps.toList := List.take_of_length_le (by rw [Array.length_toList]; exact Nat.le_refl _)
    rw [ef] at e1
    exact fin H' s1 e1
/-- a list of signs beside [] -/
theorem dp_signs {K : PySem.W.Frag} {H : Hp} : ∀ cs : List Nat, DpAll K H (cs.map sg) (cs.map fun c => PyData.str ⟨#[c]⟩)
  | [] => .nil
  | c :: cs => .cons (.str _) (dp_signs cs)
theorem eqv_nil (ds : List PyData) : PyData.eqv (.list ds) (.list []) = ds.isEmpty := by
  cases ds with
  | nil => rfl
  | cons d r => rfl
theorem lay_signs : ∀ cs : List Nat, (∀ c ∈ cs, c < 128) → PyData.canLayAll0 (cs.map fun c => PyData.str ⟨#[c]⟩) = true
  | [], _ => rfl
  | c :: r, h => by
    have h1 := h c (List.mem_cons_self ..)
    have h2 := lay_signs r fun d hd => h d (List.mem_cons_of_mem _ hd)
    show (PyData.canLay0 (.str ⟨#[c]⟩) && PyData.canLayAll0 (r.map fun c => PyData.str ⟨#[c]⟩)) = true
    rw [h2, Bool.and_true]
    show (#[c].all (· < 0x110000)) = true
    simp
    omega
theorem dep_signs : ∀ cs : List Nat, PyData.depthAll (cs.map fun c => PyData.str ⟨#[c]⟩) = 0
  | [] => rfl
  | c :: r => by
    show max 0 (PyData.depthAll (r.map fun c => PyData.str ⟨#[c]⟩)) = 0
    rw [dep_signs r]
    rfl
theorem shp_signs {cs : List Nat} (h : ∀ c ∈ cs, c < 128) : SeqAt.shaped (.list (cs.map fun c => PyData.str ⟨#[c]⟩)) = true := by
  unfold SeqAt.shaped
  have e1 : PyData.canLay0 (.list (cs.map fun c => PyData.str ⟨#[c]⟩)) = true := lay_signs cs h
  have e2 : PyData.depth (.list (cs.map fun c => PyData.str ⟨#[c]⟩)) = 1 := by
    show PyData.depthAll _ + 1 = 1
    rw [dep_signs]
  rw [e1, e2]
  rfl
/-- signs below 128 alone -/
def Asc (z : Str) : Prop := ∀ c ∈ z.cps.toList, c < 128
theorem asc_cut {z : Str} (h : Asc z) (lo hi : Option Int) : Asc (cutS z lo hi) := fun c hc => h c (List.mem_of_mem_drop (List.mem_of_mem_take hc))
theorem asc_app {x y : Str} (hx : Asc x) (hy : Asc y) : Asc (x ++ y) := fun c hc => by
  have hc : c ∈ TL.tl (x ++ y) := hc
  rw [TL.tl_append] at hc
  rcases List.mem_append.mp hc with h | h
  · exact hx c h
  · exact hy c h
theorem asc_upper {z : Str} (h : Asc z) : Asc (Txt.upper z) ∧ (Txt.upper z).length = z.length := by
  rw [PyProof.Rows.upper_ascii h]
  refine ⟨fun c hc => ?_, ?_⟩
  · have hc : c ∈ (z.cps.map PyProof.Rows.up1).toList := hc
    rw [Array.toList_map] at hc
    obtain ⟨a, ha, rfl⟩ := List.mem_map.mp hc
    have := h a ha
    unfold PyProof.Rows.up1
    split <;> omega
  · show (z.cps.map PyProof.Rows.up1).size = z.cps.size
    rw [Array.size_map]
theorem asc_of {z : Str} {cs : List Nat} (h : z.cps.toList = cs) (hl : ∀ c ∈ cs, c < 128) : Asc z := fun c hc => hl c (by rw [← h]; exact hc)
theorem lower_lt {c : Nat} (h : lower c = true) : c < 128 := by
  unfold lower at h
  simp only [Bool.and_eq_true, decide_eq_true_eq] at h
  omega
theorem figure_lt {c : Nat} (h : figure c = true) : c < 128 := by
  unfold figure at h
  simp only [Bool.and_eq_true, decide_eq_true_eq] at h
  omega
theorem filter_none {l : List Nat} {f : Nat → Bool} : (l.filter (fun c => !f c)).isEmpty = l.all f := by
  induction l with
  | nil => rfl
  | cons c r ih =>
    rw [List.filter_cons, List.all_cons]
    cases h : f c with
    | true => simpa using ih
    | false => rfl
theorem str_sign {c d : Nat} {z : Str} (h : z.cps = #[d]) : decide (V.str ⟨#[c]⟩ = V.str z) = decide (c = d) := by
  obtain ⟨z⟩ := z
  rw [decide_eq_decide]
  constructor
  · intro e
    injection e with e
    injection e with e
    rw [show z = #[d] from h] at e
    injection e with e
    injection e
  · rintro rfl
    rw [show z = #[c] from h]
/-! ### a text joined of signs -/
open TL
theorem join_signs : ∀ cs : List Nat, joinL [] ((cs.map fun c => (⟨#[c]⟩ : Str)).map tl) = cs
  | [] => rfl
  | [c] => rfl
  | c :: d :: r => by
    show [c] ++ ([] ++ joinL [] (((d :: r).map fun c => (⟨#[c]⟩ : Str)).map tl)) = c :: d :: r
    rw [join_signs (d :: r)]
    rfl
theorem join_text {y : Str} (hy : tl y = []) (cs : List Nat) : (Txt.join y (cs.map fun c => (⟨#[c]⟩ : Str))).cps.toList = cs := by
  show tl (Txt.join y _) = cs
  rw [join_eq, tl_join, hy, join_signs]
theorem size_signs : ∀ cs : List Nat, ((cs.map fun c => (⟨#[c]⟩ : Str)).map (·.length)).sum = cs.length
  | [] => rfl
  | c :: r => by
    rw [List.map_cons, List.map_cons, List.sum_cons, size_signs r, List.length_cons]
    show 1 + r.length = _
    omega

/-- [.. for _ in range(k)], each a drawn sign -/
theorem lc_draw {P : Int → Prop} {d D : Addr} {n k : Nat} {H1 : Hp} (hD : H1 D = none) (dr : Dr P d n H1) (hk : k ≤ 1000) (p : Nat → Bool) {g : TG} {tt : TT} {te : TE} {vs : List Nat} {σ : L2.St} {Qd : Hp → Prop}
    (turn : ∀ (i : Nat) (H2 : Hp) (R : V → Hp → Prop) (C : Hp → Prop), i < k → Dr P d (n + i) H2 → (∀ H3 c, p c = true → But d H2 H3 → Dr P d (n + i + 1) H3 → R (sg c) H3) → g (.int (0 + i)) (wipe σ vs) H2 fun σ2 H2 => wipe σ2 vs = wipe σ vs ∧ tt σ2 H2 fun b H3 => if b = true then te σ2 H3 R else C H3)
    (fin : ∀ H' (cs : List Nat), cs.length = k → (∀ c ∈ cs, p c = true) → But d H1 H' → Dr P d (n + k) H' → H' D = some (.lst (cs.map sg)) → Qd H') :
    ∃ W : Nat → Nat → Hp → Prop, (∃ m, W 0 m (upd H1 D (.lst []))) ∧ ∀ i m H, W i m H →
      ((Itr 0 k).stop i H ∧ Qd H) ∨ ((Itr 0 k).go i H ∧ ∃ Nx : Hp → Prop, (∀ H', Nx H' → ∃ m', m' < m ∧ W (i + 1) m' H') ∧ ∀ x H', (Itr 0 k).yld i H x H' → g x (wipe σ vs) H' fun σ2 H2 => wipe σ2 vs = wipe σ vs ∧ tt σ2 H2 fun b H3 =>
        if b = true then te σ2 H3 fun y H4 => ∃ acc, H4 D = some (.lst acc) ∧ acc.length < sizeLine ∧ Nx (upd H4 D (.lst (acc ++ [y]))) else Nx H3) := by
  have nD : D ≠ d := dr.ne hD
  refine lc_range (lo := 0) (n := k) (fun i H' => ∃ cs : List Nat, cs.length = i ∧ (∀ c ∈ cs, p c = true) ∧ But d H1 H' ∧ Dr P d (n + i) H' ∧ H' D = some (.lst (cs.map sg))) ⟨[], rfl, (fun _ h => nomatch h), But.new hD, dr.upd nD, upd_same⟩ ?_ ?_
  · rintro i H2 hi ⟨cs, hl, hp, b2, dr2, e2⟩
    refine turn i H2 _ _ hi dr2 fun H3 c hc b3 dr3 => ?_
    refine ⟨_, b3 _ _ nD e2, ?_, cs ++ [c], ?_, ?_, ?_, ?_, ?_⟩
    · rw [List.length_map, hl]
      exact Nat.lt_of_lt_of_le (show i < 1000 by omega) (by decide)
    · rw [List.length_append, hl]
      rfl
    · intro x hx
      rcases List.mem_append.mp hx with h | h
      · exact hp x h
      · rw [List.mem_singleton.mp h]
        exact hc
    · exact (b2.trans b3).mut hD
    · exact (dr3.upd nD).mono (by omega)
    · rw [upd_same, List.map_append]
      rfl
  · rintro H' ⟨cs, hl, hp, b, dr', e⟩
    exact fin H' cs hl hp b dr' e
theorem map_sg (cs : List Nat) : (cs.map fun c => (⟨#[c]⟩ : Str)).map V.str = cs.map sg := by
  rw [List.map_map]
  rfl
theorem join_len {y : Str} (hy : TL.tl y = []) (cs : List Nat) : (Txt.join y (cs.map fun c => (⟨#[c]⟩ : Str))).length = cs.length := by
  have := join_text hy cs
  show (Txt.join y (cs.map fun c => (⟨#[c]⟩ : Str))).cps.size = _
  rw [← Array.length_toList, this]
theorem az_at {r : Int} (h0 : 0 ≤ r) (h1 : r < 26) : ∃ c, atI ("abcdefghijklmnopqrstuvwxyz" : Str).cps.toList r = some c ∧ lower c = true := by
  obtain ⟨j, rfl⟩ : ∃ j : Nat, r = (j : Int) := ⟨r.toNat, by omega⟩
  have e : ("abcdefghijklmnopqrstuvwxyz" : Str).cps.toList = (List.range 26).map (· + 97) := by decide +kernel
  refine ⟨j + 97, atI_nat ?_, ?_⟩
  · rw [e, List.getElem?_map, List.getElem?_range (by omega)]
    rfl
  · unfold lower
    rw [decide_eq_true (by omega), decide_eq_true (by omega)]
    rfl
theorem fig_at {r : Int} (h0 : 0 ≤ r) (h1 : r < 10) : ∃ c, atI ("0123456789" : Str).cps.toList r = some c ∧ figure c = true := by
  obtain ⟨j, rfl⟩ : ∃ j : Nat, r = (j : Int) := ⟨r.toNat, by omega⟩
  have e : ("0123456789" : Str).cps.toList = (List.range 10).map (· + 48) := by decide +kernel
  refine ⟨j + 48, atI_nat ?_, ?_⟩
  · rw [e, List.getElem?_map, List.getElem?_range (by omega)]
    rfl
  · unfold figure
    rw [decide_eq_true (by omega), decide_eq_true (by omega)]
    rfl
theorem log_small {m : Int} (h0 : 0 < m) (h : m < 2 ^ 200) : m.natAbs.log2 < 9000 := by
  refine Nat.lt_of_lt_of_le (PySem.Flt.log2_lt_of (k := 200) (by decide) ?_) (by decide)
  have e : ((2 : Int) ^ 200) = ((2 ^ 200 : Nat) : Int) := by decide
  rw [e] at h
  omega
theorem log_tiny {m : Int} (h0 : 0 < m) (h : m < 1000000000000000000000000000000) : m.natAbs.log2 < 9000 := log_small h0 (Int.lt_trans h (by decide))
theorem at_str {z : Str} {r : Int} (h0 : 0 ≤ r) (h1 : r < (z.length : Int)) : ∃ c, atI z.cps.toList r = some c ∧ c ∈ z.cps.toList := by
  obtain ⟨j, rfl⟩ : ∃ j : Nat, r = (j : Int) := ⟨r.toNat, by omega⟩
  have hj : j < z.cps.toList.length := by
    have : z.cps.toList.length = z.length := Array.length_toList
    omega
  exact ⟨_, atI_nat (List.getElem?_eq_getElem hj), List.getElem_mem hj⟩
theorem sz (n : Nat) (h : n ≤ 100000) : n ≤ sizeLine := Nat.le_trans h (by decide)
theorem tyx_same {K : PySem.W.Frag} {H H' : Hp} (s : Same H H') {v : V} {t : Value} (h : TyX K H v t) : TyX K H' v t := by
  cases h with
  | base h =>
    cases h with
    | non => exact .base .non
    | bl b => exact .base (.bl b)
    | int i => exact .base (.int i)
    | str z => exact .base (.str z)
    | flt x => exact .base (.flt x)
    | lst e => exact .base (.lst (s _ _ e))
    | frz e => exact .base (.frz (s _ _ e))
    | tup e => exact .base (.tup (s _ _ e))
    | dK e => exact .base (.dK (s _ _ e))
    | dT e => exact .base (.dT (s _ _ e))
    | ins e cl ha hn htk hm => exact .base (.ins (s _ _ e) cl ha hn htk hm)
  | byt b => exact .byt b
  | set e => exact .set (s _ _ e)
  | kList e c => exact .kList e c
  | kTuple e c => exact .kTuple e c
  | kDict e c => exact .kDict e c
  | fTuple e => exact .fTuple (s _ _ e)
  | fDict e => exact .fDict (s _ _ e)
theorem Th.same {K : PySem.W.Frag} {H H' : Hp} (s : Same H H') {v : V} (h : Th K H v) : Th K H' v := by
  cases h with
  | int i => exact .int i
  | bl b => exact .bl b
  | str z => exact .str z
  | non => exact .non
  | lst h => exact .lst (tyx_same s h)
  | tup h => exact .tup (tyx_same s h)
  | dct h => exact .dct (tyx_same s h)
theorem cells_int {ns : List Int} {n : Int} {lo hi : Option Int} {i : Nat} {x : V} (h : ([V.int n] ++ cutV (ns.map V.int) lo hi)[i]? = some x) : ∃ k, x = .int k := by
  have hm := List.mem_of_getElem? h
  rcases List.mem_append.mp hm with h | h
  · exact ⟨n, List.mem_singleton.mp h⟩
  · have := List.mem_of_mem_drop (List.mem_of_mem_take h)
    obtain ⟨k, _, rfl⟩ := List.mem_map.mp this
    exact ⟨k, rfl⟩
section
variable {P : Program} {w : World} {K : PySem.W.Frag} {mg : Str → Option Value} {base : Heap} {x qual : Str} {params : Arguments} {body : List Stmt} {scope : Scope} {dvs : List V} {kws : List (Str × V)} {f : Addr} {fd : FuncData}
theorem okD {N ps : List Str} {k : Nat} {sp : Sp} (F : FunD K x qual params body scope dvs kws f fd) (S : FnScope N ps scope) (len : ∀ vs H Q E, sp vs H Q E → vs.length = ps.length)
    (hbody : ∀ (cdv : Value) (A : Around) (outer : List Env) (s : Shared) (H : Hp) (vs : List V) (Q : VK) (E : XK), Room k (A.deeper (envOfC qual scope s.heap.objs.size f cdv)) → sp vs H Q E →
      ∃ t, PSs (cxOf CX0 P w K mg base N qual scope f cdv A outer s H E).nox body t ∧ t { nx := fun _ H' => Q .non H', rt := Q } (start N vs) H) : FnOk P w K mg base CX0 (k + 1) f fd ps sp :=
  F.ok S len fun cdv A outer s H vs Q E hr h => by
    obtain ⟨t, h, q⟩ := hbody cdv A outer s H vs Q E hr h
    exact ⟨t, h.nox, q⟩
end
end KA
namespace KA
open PySem PySem.Spec PyProof.Rows L2
/-- what is no list is as it was -/
def NL (H H' : Hp) : Prop := ∀ b o, (∀ xs, o ≠ .lst xs) → H b = some o → H' b = some o
theorem NL.of {H H' : Hp} (s : Same H H') : NL H H' := fun b o _ h => s b o h
theorem NL.at_ {H : Hp} {D : Addr} {xs : List V} {o : HO} (h : H D = some (.lst xs)) : NL H (upd H D o) := fun b u n e => by
  have : b ≠ D := fun z => by
    rw [z, h] at e
    exact n xs (Option.some.inj e).symm
  rw [upd_ne this]
  exact e
theorem NL.trans {H H1 H2 : Hp} (a : NL H H1) (b : NL H1 H2) : NL H H2 := fun c o n h => b c o n (a c o n h)
/-- a comprehension over a list: what it makes is told by G -/
theorem lc_gen {K : PySem.W.Frag} {a : Addr} {xs : List V} {H : Hp} {D : Addr} (hD : H D = none) (hS : SqL K H a xs) (hl : xs.length ≤ 10000) (G : Nat → V → Hp → Prop) (hG : ∀ j v H1 H2, NL H1 H2 → G j v H1 → G j v H2)
    {g : TG} {tt : TT} {te : TE} {vs : List Nat} {σ : L2.St} {Qd : Hp → Prop}
    (turn : ∀ (i : Nat) (x : V) (H2 : Hp) (R : V → Hp → Prop) (C : Hp → Prop), xs[i]? = some x → Same H H2 → (∀ v H3, Same H2 H3 → G i v H3 → R v H3) → g x (wipe σ vs) H2 fun σ2 H2 => wipe σ2 vs = wipe σ vs ∧ tt σ2 H2 fun b H3 => if b = true then te σ2 H3 R else C H3)
    (fin : ∀ H' acc, Same H H' → H' D = some (.lst acc) → acc.length = xs.length → (∀ j v, acc[j]? = some v → G j v H') → Qd H') :
    ∃ W : Nat → Nat → Hp → Prop, (∃ m, W 0 m (upd H D (.lst []))) ∧ ∀ i m H, W i m H →
      ((Itl K a).stop i H ∧ Qd H) ∨ ((Itl K a).go i H ∧ ∃ Nx : Hp → Prop, (∀ H', Nx H' → ∃ m', m' < m ∧ W (i + 1) m' H') ∧ ∀ x H', (Itl K a).yld i H x H' → g x (wipe σ vs) H' fun σ2 H2 => wipe σ2 vs = wipe σ vs ∧ tt σ2 H2 fun b H3 =>
        if b = true then te σ2 H3 fun y H4 => ∃ acc, H4 D = some (.lst acc) ∧ acc.length < sizeLine ∧ Nx (upd H4 D (.lst (acc ++ [y]))) else Nx H3) := by
  refine lc_list (K := K) (a := a) (xs := xs) (fun i H' => Same H H' ∧ ∃ acc, H' D = some (.lst acc) ∧ acc.length = i ∧ ∀ j v, acc[j]? = some v → G j v H') ⟨same_upd hD, [], upd_same, rfl, fun j v h => by simp at h⟩ (fun i H' _ h => h.1.seq hS) ?_ ?_
  · rintro i x H2 hi ⟨s2, acc, e2, l2, g2⟩
    have hil : i < xs.length := (List.getElem?_eq_some_iff.mp hi).1
    refine turn i x H2 _ _ hi s2 fun v H3 s3 hv => ?_
    have e3 := s3 _ _ e2
    refine ⟨acc, e3, ?_, fun b o h => ?_, acc ++ [v], upd_same, ?_, fun j w hj => ?_⟩
    · rw [l2]
      exact Nat.lt_of_lt_of_le (show i < 10000 by omega) (by decide)
    · rw [upd_ne (ne_of_none h hD)]
      exact s3 _ _ (s2 _ _ h)
    · rw [List.length_append, l2]
      rfl
    · refine hG j w H3 _ (NL.at_ e3) ?_
      by_cases h : j < acc.length
      · rw [List.getElem?_append_left h] at hj
        exact hG j w H2 H3 (NL.of s3) (g2 j w hj)
      · rw [List.getElem?_append_right (by omega)] at hj
        have : j = i := by
          have := (List.getElem?_eq_some_iff.mp hj).1
          rw [List.length_singleton] at this
          omega
        subst this
        rw [l2, Nat.sub_self] at hj
        have : v = w := Option.some.inj hj
        subst this
        exact hv
  · rintro H' ⟨s, acc, e, l, g⟩
    exact fin H' acc s e l g
/-- .. whose values are f of the place -/
theorem lc_vals {K : PySem.W.Frag} {a : Addr} {xs : List V} {H : Hp} {D : Addr} (hD : H D = none) (hS : SqL K H a xs) (hl : xs.length ≤ 10000) (f : Nat → V)
    {g : TG} {tt : TT} {te : TE} {vs : List Nat} {σ : L2.St} {Qd : Hp → Prop}
    (turn : ∀ (i : Nat) (x : V) (H2 : Hp) (R : V → Hp → Prop) (C : Hp → Prop), xs[i]? = some x → Same H H2 → R (f i) H2 → g x (wipe σ vs) H2 fun σ2 H2 => wipe σ2 vs = wipe σ vs ∧ tt σ2 H2 fun b H3 => if b = true then te σ2 H3 R else C H3)
    (fin : ∀ H', Same H H' → H' D = some (.lst ((List.range xs.length).map f)) → Qd H') :
    ∃ W : Nat → Nat → Hp → Prop, (∃ m, W 0 m (upd H D (.lst []))) ∧ ∀ i m H, W i m H →
      ((Itl K a).stop i H ∧ Qd H) ∨ ((Itl K a).go i H ∧ ∃ Nx : Hp → Prop, (∀ H', Nx H' → ∃ m', m' < m ∧ W (i + 1) m' H') ∧ ∀ x H', (Itl K a).yld i H x H' → g x (wipe σ vs) H' fun σ2 H2 => wipe σ2 vs = wipe σ vs ∧ tt σ2 H2 fun b H3 =>
        if b = true then te σ2 H3 fun y H4 => ∃ acc, H4 D = some (.lst acc) ∧ acc.length < sizeLine ∧ Nx (upd H4 D (.lst (acc ++ [y]))) else Nx H3) := by
  refine lc_gen hD hS hl (fun j v _ => v = f j) (fun _ _ _ _ _ h => h) (fun i x H2 R C hi s hR => turn i x H2 R C hi s (hR _ _ (Same.refl _) rfl)) fun H' acc s e l g => fin H' s ?_
  rw [e]
  congr 2
  refine List.ext_getElem? fun j => ?_
  by_cases h : j < xs.length
  · rw [List.getElem?_map, List.getElem?_range h]
    have : j < acc.length := by omega
    rw [List.getElem?_eq_getElem this]
    exact congrArg some (g j _ (List.getElem?_eq_getElem this))
  · rw [List.getElem?_eq_none (by omega), List.getElem?_eq_none (by rw [List.length_map, List.length_range]; omega)]
/-- a comprehension over a list that leaves some out; the heap stays -/
theorem lc_some {K : PySem.W.Frag} {a : Addr} {xs : List V} {H : Hp} {D : Addr} (hD : H D = none) (hS : SqL K H a xs) (hl : xs.length ≤ 10000) (p : V → Bool) (f : V → V)
    {g : TG} {tt : TT} {te : TE} {vs : List Nat} {σ : L2.St} {Qd : Hp → Prop}
    (turn : ∀ (i : Nat) (x : V) (H2 : Hp) (R : V → Hp → Prop) (C : Hp → Prop), xs[i]? = some x → Same H H2 → (p x = true → R (f x) H2) → (p x = false → C H2) → g x (wipe σ vs) H2 fun σ2 H2 => wipe σ2 vs = wipe σ vs ∧ tt σ2 H2 fun b H3 => if b = true then te σ2 H3 R else C H3)
    (fin : ∀ H', Same H H' → H' D = some (.lst ((xs.filter p).map f)) → Qd H') :
    ∃ W : Nat → Nat → Hp → Prop, (∃ m, W 0 m (upd H D (.lst []))) ∧ ∀ i m H, W i m H →
      ((Itl K a).stop i H ∧ Qd H) ∨ ((Itl K a).go i H ∧ ∃ Nx : Hp → Prop, (∀ H', Nx H' → ∃ m', m' < m ∧ W (i + 1) m' H') ∧ ∀ x H', (Itl K a).yld i H x H' → g x (wipe σ vs) H' fun σ2 H2 => wipe σ2 vs = wipe σ vs ∧ tt σ2 H2 fun b H3 =>
        if b = true then te σ2 H3 fun y H4 => ∃ acc, H4 D = some (.lst acc) ∧ acc.length < sizeLine ∧ Nx (upd H4 D (.lst (acc ++ [y]))) else Nx H3) := by
  refine lc_list (K := K) (a := a) (xs := xs) (fun i H' => Same H H' ∧ H' D = some (.lst (((xs.take i).filter p).map f))) ⟨same_upd hD, upd_same⟩ (fun i H' _ h => h.1.seq hS) ?_ ?_
  · rintro i x H2 hi ⟨s2, e2⟩
    have hil : i < xs.length := (List.getElem?_eq_some_iff.mp hi).1
    refine turn i x H2 _ _ hi s2 (fun hp => ?_) (fun hp => ?_)
    · refine ⟨_, e2, ?_, fun b o h => ?_, ?_⟩
      · rw [List.length_map]
        refine Nat.lt_of_le_of_lt (List.length_filter_le _ _) ?_
        rw [List.length_take]
        exact Nat.lt_of_le_of_lt (Nat.min_le_left _ _) (Nat.lt_of_lt_of_le (show i < 10000 by omega) (by decide))
      · rw [upd_ne (ne_of_none h hD)]
        exact s2 _ _ h
      · rw [upd_same, List.take_add_one, hi, List.filter_append, List.map_append]
        show _ = some (HO.lst (_ ++ List.map f (List.filter p [x])))
        rw [List.filter_cons_of_pos hp]
        rfl
    · refine ⟨s2, ?_⟩
      rw [e2, List.take_add_one, hi, List.filter_append, List.map_append]
      show _ = some (HO.lst (_ ++ List.map f (List.filter p [x])))
      rw [List.filter_cons_of_neg (by rw [hp]; exact Bool.false_ne_true)]
      show _ = some (HO.lst (_ ++ []))
      rw [List.append_nil]
  · rintro H' ⟨s, e⟩
    rw [List.take_of_length_le (Nat.le_refl _)] at e
    exact fin H' s e
theorem cut_to (xs : List V) (i : Nat) : cutV xs none (some (i : Int)) = xs.take i := by
  unfold cutV
  rw [HT.sIx_none, show HT.sIx xs.length xs.length (some (i : Int)) = min i xs.length from HT.sIx_nat xs.length xs.length i, Nat.sub_zero, List.drop_zero]
  by_cases h : i ≤ xs.length
  · rw [Nat.min_eq_left h]
  · rw [Nat.min_eq_right (by omega), List.take_of_length_le (Nat.le_refl _), List.take_of_length_le (by omega)]
theorem cut_from (xs : List V) (i : Nat) : cutV xs (some (i : Int)) none = xs.drop i := by
  unfold cutV
  rw [HT.sIx_none, show HT.sIx xs.length 0 (some (i : Int)) = min i xs.length from HT.sIx_nat xs.length 0 i]
  by_cases h : i ≤ xs.length
  · rw [Nat.min_eq_left h, List.take_of_length_le (by rw [List.length_drop]; omega)]
  · rw [Nat.min_eq_right (by omega), List.drop_of_length_le (Nat.le_refl _), List.drop_of_length_le (by omega)]
    exact List.take_nil
section
variable {X : Cx} {K' : PySem.W.Frag}
/-! the rules with the written part by its own name (for blocks) -/
theorem pe_fldK (hK : X.K = K') {e : Expr} {f : Str} {pos : Pos} {ta : TE} (ha : PE X e ta) (hb : attributeBase e f X.env (eval e X.env) = eval e X.env) : PE X (.Attribute e f pos) (tFld K' ta f) := by
  subst hK
  exact pe_fld ha hb
theorem ix_listK (hK : X.K = K') : IxR X (rIxL K') := by
  subst hK
  exact ix_list
theorem ix_tupK (hK : X.K = K') : IxR X (rIxT K') := by
  subst hK
  exact ix_tup
theorem sl_listK (hK : X.K = K') : SlR X (rSlL K') := by
  subst hK
  exact sl_list
theorem sl_tupAK (hK : X.K = K') : SlR X (rSlA K') := by
  subst hK
  exact sl_tupA
theorem op_eqDK (hK : X.K = K') (hu : X.A.units + 64 < cLine) : OpR X (compareOp .Eq) (rEqD K') := by
  subst hK
  exact op_eqD hu
theorem op_neDK (hK : X.K = K') (hu : X.A.units + 64 < cLine) : OpR X (compareOp .NotEq) (rNeD K') := by
  subst hK
  exact op_neD hu
theorem op_in_seqK (hK : X.K = K') : OpR X (compareOp .In) (rIn K' false) := by
  subst hK
  exact op_in_seq
end
section
variable {X : Cx}
/-- a statement and what follows it, with a word between -/
def tCutJ (t u : TS) : TS := fun D σ H => ∃ Mid : L2.St → Hp → Prop, t { D with nx := Mid } σ H ∧ ∀ σ' H', Mid σ' H' → u D σ' H'
theorem pss_cutJ {st : Stmt} {rest : List Stmt} {t u : TS} (h1 : PS X st t) (h2 : PSs X rest u) : PSs X (st :: rest) (tCutJ t u) := by
  refine ⟨fun pins s σ H D I h => ?_⟩
  obtain ⟨Mid, hm, hu⟩ := h
  refine wpAny_execs_cons (thn (h1.run pins s σ H { D with nx := Mid } I hm) fun f s1 q => ?_)
  cases f with
  | next =>
    obtain ⟨σ', H', I', q⟩ := q
    exact h2.run pins s1 σ' H' D I' (hu σ' H' q)
  | ret v => exact q
  | brk => exact q
  | cont => exact q
end
theorem nl_tup {K : PySem.W.Frag} {H H' : Hp} {a : Addr} {xs : List V} (s : NL H H') (h : SqT K H a xs) : SqT K H' a xs := by
  rcases h with (h | ⟨o, h⟩) | h
  · exact .inl (.inl (s _ _ (fun _ z => by cases z) h))
  · exact .inl (.inr ⟨o, s _ _ (fun _ z => by cases z) h⟩)
  · exact .inr h
theorem mem_cut {xs : List V} {lo hi : Option Int} {v : V} (h : v ∈ cutV xs lo hi) : v ∈ xs := List.mem_of_mem_drop (List.mem_of_mem_take h)
theorem len_cut (xs : List V) (lo hi : Option Int) : (cutV xs lo hi).length ≤ xs.length := by
  unfold cutV
  rw [List.length_take, List.length_drop]
  omega
/-- a comprehension over a list that leaves places out; the heap stays -/
theorem lc_someI {K : PySem.W.Frag} {a : Addr} {xs : List V} {H : Hp} {D : Addr} (hD : H D = none) (hS : SqL K H a xs) (hl : xs.length ≤ 10000) (p : Nat → Bool) (f : Nat → V)
    {g : TG} {tt : TT} {te : TE} {vs : List Nat} {σ : L2.St} {Qd : Hp → Prop}
    (turn : ∀ (i : Nat) (x : V) (H2 : Hp) (R : V → Hp → Prop) (C : Hp → Prop), xs[i]? = some x → Same H H2 → (p i = true → R (f i) H2) → (p i = false → C H2) → g x (wipe σ vs) H2 fun σ2 H2 => wipe σ2 vs = wipe σ vs ∧ tt σ2 H2 fun b H3 => if b = true then te σ2 H3 R else C H3)
    (fin : ∀ H', Same H H' → H' D = some (.lst (((List.range xs.length).filter p).map f)) → Qd H') :
    ∃ W : Nat → Nat → Hp → Prop, (∃ m, W 0 m (upd H D (.lst []))) ∧ ∀ i m H, W i m H →
      ((Itl K a).stop i H ∧ Qd H) ∨ ((Itl K a).go i H ∧ ∃ Nx : Hp → Prop, (∀ H', Nx H' → ∃ m', m' < m ∧ W (i + 1) m' H') ∧ ∀ x H', (Itl K a).yld i H x H' → g x (wipe σ vs) H' fun σ2 H2 => wipe σ2 vs = wipe σ vs ∧ tt σ2 H2 fun b H3 =>
        if b = true then te σ2 H3 fun y H4 => ∃ acc, H4 D = some (.lst acc) ∧ acc.length < sizeLine ∧ Nx (upd H4 D (.lst (acc ++ [y]))) else Nx H3) := by
  refine lc_list (K := K) (a := a) (xs := xs) (fun i H' => Same H H' ∧ H' D = some (.lst (((List.range i).filter p).map f))) ⟨same_upd hD, upd_same⟩ (fun i H' _ h => h.1.seq hS) ?_ ?_
  · rintro i x H2 hi ⟨s2, e2⟩
    have hil : i < xs.length := (List.getElem?_eq_some_iff.mp hi).1
    refine turn i x H2 _ _ hi s2 (fun hp => ?_) (fun hp => ?_)
    · refine ⟨_, e2, ?_, fun b o h => ?_, ?_⟩
      · rw [List.length_map]
        refine Nat.lt_of_le_of_lt (List.length_filter_le _ _) ?_
        rw [List.length_range]
        exact Nat.lt_of_lt_of_le (show i < 10000 by omega) (by decide)
      · rw [upd_ne (ne_of_none h hD)]
        exact s2 _ _ h
      · rw [upd_same, List.range_succ, List.filter_append, List.map_append, List.filter_cons_of_pos hp]
        rfl
    · refine ⟨s2, ?_⟩
      rw [e2, List.range_succ, List.filter_append, List.map_append, List.filter_cons_of_neg (by rw [hp]; exact Bool.false_ne_true)]
      show _ = some (HO.lst (_ ++ []))
      rw [List.append_nil]
  · rintro H' ⟨s, e⟩
    exact fin H' s e
section
variable {X : Cx} {CX : CXT} {k : Nat} {f : Addr} {fd : FuncData} {ps ks : List Str} {sp : Sp} {E : XK} {x : Str} {p pos : Pos} {kws : List Keyword} {tk : TA} {g : List Value → List Value → List Value} {gV : List V → List V → List V}
/-- f(k = v, ..) -/
theorem pe_callN0 (F : FnOk X.prog X.w X.K X.mg X.base CX k f fd ps sp) (hr : Room k X.A) (hg : Gl X x) (hm : X.mg x = some (.ref f)) (hk : PySem.W.keepIn X.K (.ref f) = true) (hb : KBn X.K fd ps 0 ks g gV) (hx : Passes CX X E) (hkw : PK X kws tk)
    (hall : (backToKw pos (keywordEach kws X.env)).all (·.1.isSome) = true := by rfl) (hks : (backToKw pos (keywordEach kws X.env)).filterMap (·.1) = ks := by rfl) (hdb : (x == ("__debug__" : Str)) = false := by decide)
    (hpl : ((backTo pos (starEach [] X.env)).any (·.1) || (backToKw pos (keywordEach kws X.env)).any (·.1.isNone)) = false := by rfl) :
    PE X (.Call (.Name x p) [] kws pos) (tCallN 0 ks.length sp gV E tNil tk) := by
  refine ⟨fun pins s σ H Q I h => ?_⟩
  refine wpAny_Call_Name_kw (ld_glob I hg hm ?_ hdb)
  refine PySem.W.callWith_KW0 (h₀ := X.base) I.ok.mod.kin hk hall ?_ hpl
  refine thn (hkw.run pos pins s σ H _ I h) fun ws s2 ⟨zs, H2, I2, rz, l1, l2, q2⟩ => ⟨I2.kIn, ?_⟩
  rw [hks]
  exact run_fnN (us := []) (vs := []) F hr hb hx I2 .nil rz rfl l2 q2
end
/-- keywords of a def without defaults -/
theorem kbn_of {K : PySem.W.Frag} {x qual : Str} {st : Stmt} {f : Addr} {fd : FuncData} {ps : List Str} (F : Fun K x qual st f fd) (n : Nat) (ks : List Str) (g : List Value → List Value → List Value) (gV : List V → List V → List V)
    (hrel : ∀ {vs : List V} {us : List Value} {zs : List V} {ws : List Value}, Vals vs us → Vals zs ws → Vals (gV vs zs) (g us ws))
    (h : ∀ (kV doc pm : Value) (an : Option Addr) (cdv ct : Value) (us ws : List Value), us.length = n → ws.length = ks.length → bindArgs (PySem.W.fnOf x qual (defArgs st) (defBody st) (defScope st) .none kV doc pm an cdv ct) ⟨us, ks.zip ws⟩ = pure (ps.zip (g us ws))) : KBn K fd ps n ks g gV := by
  obtain ⟨oc, od, kV, doc, pm, an, cdv, ct, osl, rfl, lk, hcd⟩ := F.ex
  exact ⟨fun s us ws _ l1 l2 => .of_eq (h kV doc pm an cdv ct us ws l1 l2), hrel⟩
def gsw {α : Type} (l : List α) : List α := match l with
  | [a, b] => [b, a]
  | l => l
theorem gsw_rel {zs : List V} {ws : List Value} (h : Vals zs ws) : Vals (gsw zs) (gsw ws) := by
  cases h with
  | nil => exact .nil
  | cons r1 h =>
    cases h with
    | nil => exact .cons r1 .nil
    | cons r2 h =>
      cases h with
      | nil => exact .cons r2 (.cons r1 .nil)
      | cons r3 h => exact .cons r1 (.cons r2 (.cons r3 h))
/-- a comprehension over range(n): what it makes is told by G -/
theorem lc_genR {n : Nat} {H : Hp} {D : Addr} (hD : H D = none) (hl : n ≤ 10000) (G : Nat → V → Hp → Prop) (hG : ∀ j v H1 H2, NL H1 H2 → G j v H1 → G j v H2)
    {g : TG} {tt : TT} {te : TE} {vs : List Nat} {σ : L2.St} {Qd : Hp → Prop}
    (turn : ∀ (i : Nat) (H2 : Hp) (R : V → Hp → Prop) (C : Hp → Prop), i < n → Same H H2 → (∀ v H3, Same H2 H3 → G i v H3 → R v H3) → g (.int (0 + i)) (wipe σ vs) H2 fun σ2 H2 => wipe σ2 vs = wipe σ vs ∧ tt σ2 H2 fun b H3 => if b = true then te σ2 H3 R else C H3)
    (fin : ∀ H' acc, Same H H' → H' D = some (.lst acc) → acc.length = n → (∀ j v, acc[j]? = some v → G j v H') → Qd H') :
    ∃ W : Nat → Nat → Hp → Prop, (∃ m, W 0 m (upd H D (.lst []))) ∧ ∀ i m H, W i m H →
      ((Itr 0 n).stop i H ∧ Qd H) ∨ ((Itr 0 n).go i H ∧ ∃ Nx : Hp → Prop, (∀ H', Nx H' → ∃ m', m' < m ∧ W (i + 1) m' H') ∧ ∀ x H', (Itr 0 n).yld i H x H' → g x (wipe σ vs) H' fun σ2 H2 => wipe σ2 vs = wipe σ vs ∧ tt σ2 H2 fun b H3 =>
        if b = true then te σ2 H3 fun y H4 => ∃ acc, H4 D = some (.lst acc) ∧ acc.length < sizeLine ∧ Nx (upd H4 D (.lst (acc ++ [y]))) else Nx H3) := by
  refine lc_range (lo := 0) (n := n) (fun i H' => Same H H' ∧ ∃ acc, H' D = some (.lst acc) ∧ acc.length = i ∧ ∀ j v, acc[j]? = some v → G j v H') ⟨same_upd hD, [], upd_same, rfl, fun j v h => by simp at h⟩ ?_ ?_
  · rintro i H2 hi ⟨s2, acc, e2, l2, g2⟩
    refine turn i H2 _ _ hi s2 fun v H3 s3 hv => ?_
    have e3 := s3 _ _ e2
    refine ⟨acc, e3, ?_, fun b o h => ?_, acc ++ [v], upd_same, ?_, fun j w hj => ?_⟩
    · rw [l2]
      exact Nat.lt_of_lt_of_le (show i < 10000 by omega) (by decide)
    · rw [upd_ne (ne_of_none h hD)]
      exact s3 _ _ (s2 _ _ h)
    · rw [List.length_append, l2]
      rfl
    · refine hG j w H3 _ (NL.at_ e3) ?_
      by_cases h : j < acc.length
      · rw [List.getElem?_append_left h] at hj
        exact hG j w H2 H3 (NL.of s3) (g2 j w hj)
      · rw [List.getElem?_append_right (by omega)] at hj
        have : j = i := by
          have := (List.getElem?_eq_some_iff.mp hj).1
          rw [List.length_singleton] at this
          omega
        subst this
        rw [l2, Nat.sub_self] at hj
        have : v = w := Option.some.inj hj
        subst this
        exact hv
  · rintro H' ⟨s, acc, e, l, g⟩
    exact fin H' acc s e l g
/-- [k for k in range(n) if a draw ..] -/
theorem lc_drawK {P : Int → Prop} {d D : Addr} {m n : Nat} {H1 : Hp} (hD : H1 D = none) (dr : Dr P d m H1) (hn : n ≤ 1000) {g : TG} {tt : TT} {te : TE} {vs : List Nat} {σ : L2.St} {Qd : Hp → Prop}
    (turn : ∀ (i : Nat) (H2 : Hp) (R : V → Hp → Prop) (C : Hp → Prop), i < n → Dr P d (m + i) H2 → (∀ H3, But d H2 H3 → Dr P d (m + i + 1) H3 → R (.int (i : Int)) H3 ∧ C H3) → g (.int (0 + i)) (wipe σ vs) H2 fun σ2 H2 => wipe σ2 vs = wipe σ vs ∧ tt σ2 H2 fun b H3 => if b = true then te σ2 H3 R else C H3)
    (fin : ∀ H' (ks : List Nat), (∀ k ∈ ks, k < n) → ks.length ≤ n → But d H1 H' → Dr P d (m + n) H' → H' D = some (.lst (ks.map fun (k : Nat) => V.int (k : Int))) → Qd H') :
    ∃ W : Nat → Nat → Hp → Prop, (∃ m, W 0 m (upd H1 D (.lst []))) ∧ ∀ i m H, W i m H →
      ((Itr 0 n).stop i H ∧ Qd H) ∨ ((Itr 0 n).go i H ∧ ∃ Nx : Hp → Prop, (∀ H', Nx H' → ∃ m', m' < m ∧ W (i + 1) m' H') ∧ ∀ x H', (Itr 0 n).yld i H x H' → g x (wipe σ vs) H' fun σ2 H2 => wipe σ2 vs = wipe σ vs ∧ tt σ2 H2 fun b H3 =>
        if b = true then te σ2 H3 fun y H4 => ∃ acc, H4 D = some (.lst acc) ∧ acc.length < sizeLine ∧ Nx (upd H4 D (.lst (acc ++ [y]))) else Nx H3) := by
  have nD : D ≠ d := dr.ne hD
  refine lc_range (lo := 0) (n := n) (fun i H' => ∃ ks : List Nat, (∀ k ∈ ks, k < n) ∧ ks.length ≤ i ∧ But d H1 H' ∧ Dr P d (m + i) H' ∧ H' D = some (.lst (ks.map fun (k : Nat) => V.int (k : Int)))) ⟨[], (fun _ h => nomatch h), Nat.le_refl _, But.new hD, dr.upd nD, upd_same⟩ ?_ ?_
  · rintro i H2 hi ⟨ks, hk, hl, b2, dr2, e2⟩
    refine turn i H2 _ _ hi dr2 fun H3 b3 dr3 => ⟨?_, ks, hk, by omega, b2.trans b3, dr3, b3 _ _ nD e2⟩
    refine ⟨_, b3 _ _ nD e2, ?_, ks ++ [i], ?_, ?_, ?_, ?_, ?_⟩
    · rw [List.length_map]
      exact Nat.lt_of_lt_of_le (show ks.length < 1001 by omega) (by decide)
    · intro k h
      rcases List.mem_append.mp h with h | h
      · exact hk k h
      · rw [List.mem_singleton.mp h]
        exact hi
    · rw [List.length_append, List.length_singleton]
      omega
    · exact (b2.trans b3).mut hD
    · exact (dr3.upd nD).mono (by omega)
    · rw [upd_same, List.map_append]
      rfl
  · rintro H' ⟨ks, hk, hl, b, dr', e⟩
    exact fin H' ks hk hl b dr' e
theorem in_ints (k : Nat) (S : List Nat) : inV (.int (k : Int)) (S.map fun (j : Nat) => V.int (j : Int)) = decide (k ∈ S) := by
  unfold inV
  rw [List.any_map]
  induction S with
  | nil => rfl
  | cons j S ih =>
    rw [List.any_cons, ih]
    show (((j : Int) == (k : Int)) || decide (k ∈ S)) = _
    rw [Bool.eq_iff_iff, Bool.or_eq_true, beq_iff_eq, decide_eq_true_eq, decide_eq_true_eq, List.mem_cons]
    constructor
    · rintro (h | h)
      · exact .inl (by omega)
      · exact .inr h
    · rintro (h | h)
      · exact .inl (by omega)
      · exact .inr h
theorem flat_ints (S : List Nat) : (S.map fun (j : Nat) => V.int (j : Int)).all flatV = true := by
  rw [List.all_eq_true]
  intro v hv
  obtain ⟨j, _, rfl⟩ := List.mem_map.mp hv
  rfl
end KA
namespace KA
open PySem PySem.SeqAt
open AutoSeq1 (wpAny_loadPart')
open MeetsSeq MeetsSeq2 MeetsSeq3 SeqRoads2
section
variable {prog : Program} {w : World} {A : Around} {R : Result → Shared → Prop}
/-- two lists whose items are equal, turn by turn: != is False -/
theorem ne_turns (p q : Addr) (N : Nat) (J : Nat → Shared → Prop) (hJ : GQ.ListI prog w A (fun e s' => R (.error e) s') p q N J)
    (done : ∀ s, J N s → R (.ok (.ret (.bool false))) s) : ∀ (k i : Nat), N - i = k → i ≤ N → ∀ s, J i s →
      wpAny (model prog w) A.in1 (Builtin.«list.__eq__.loop» ⟨[.ref p, .ref q, rawInt i, rawInt 3], []⟩) (GQ.FinOf prog w A R) (fun e s' => R (.error e) s') s
  | 0, i, hk, hi, s, hs => by
    obtain ⟨xs, ys, m, m2, gp, gq, zp, zq, _⟩ := hJ _ _ hs
    have iN : i = N := by omega
    have last : R (.ok (.ret (.bool false))) s := done s (iN ▸ hs)
    obtain ⟨hh, gg, dd, kk, oo⟩ := s
    wp_walk using wpAny_loadPart' gp, wpAny_loadPart' gq
    have n1 : xs[((i : Nat) : Int).toNat]? = none := by simp; omega
    have n2 : ys[((i : Nat) : Int).toNat]? = none := by simp; omega
    rw [n1, n2]
    wp_walk using wpAny_loadPart' gp, wpAny_loadPart' gq
    show R (.ok (.ret (.bool (xs.size != ys.size)))) _
    rw [zp, zq]
    simpa using last
  | k + 1, i, hk, hi, s, hs => by
    obtain ⟨xs, ys, m, m2, gp, gq, zp, zq, tn⟩ := hJ _ _ hs
    have ip : i < xs.size := by omega
    have iq : i < ys.size := by omega
    have tt := tn ip iq
    obtain ⟨hh, gg, dd, kk, oo⟩ := s
    wp_walk using wpAny_loadPart' gp, wpAny_loadPart' gq
    have n1 : xs[((i : Nat) : Int).toNat]? = some xs[i] := by simp [ip]
    have n2 : ys[((i : Nat) : Int).toNat]? = some ys[i] := by simp [iq]
    have up : ((i : Int) + 1) = ((i + 1 : Nat) : Int) := by omega
    rw [n1, n2]
    refine wpAny_bind (wpAny_mono tt (fun r s2 h2 => ?_) fun _ _ x => x)
    obtain ⟨er, h2⟩ := h2
    subst er
    have next := ne_turns p q N J hJ done k (i + 1) (by omega) (by omega) s2 h2
    obtain ⟨hh2, gg2, dd2, kk2, oo2⟩ := s2
    wp_walk
    rw [up]
    exact ⟨plainId_quiet plain_eq_loop _, codeAny_builtin entry_eq_loop (by rw [Around.under_plainId plain_eq_loop _]; exact next)⟩
theorem ne_lists (p q : Addr) (N : Nat) (J : Nat → Shared → Prop) (hJ : GQ.ListI prog w A (fun e s' => R (.error e) s') p q N J)
    (done : ∀ s, J N s → R (.ok (.ret (.bool false))) s) {s : Shared} (hs : J 0 s) :
    wpAny (model prog w) A.in1 (Builtin.«list.__ne__» ⟨[.ref p, .ref q], []⟩) (GQ.FinOf prog w A R) (fun e s' => R (.error e) s') s := by
  obtain ⟨xs, ys, m, m2, gp, gq, zp, zq, _⟩ := hJ _ _ hs
  have all := ne_turns (A := A) (R := R) p q N J hJ done _ 0 rfl (Nat.zero_le _) s hs
  obtain ⟨hh, gg, dd, kk, oo⟩ := s
  have sub := AutoSeq1.sub_list_list
  have same : ¬ (xs.size != ys.size) = true := by simp [zp, zq]
  wp_walk using wpAny_loadPart' gp, wpAny_loadPart' gq
  exact ⟨plainId_quiet plain_eq_loop _, codeAny_builtin entry_eq_loop (by rw [Around.under_plainId plain_eq_loop _]; exact all)⟩
end
section
variable {prog : Program} {w : World} {A : Around} {E : Value → Shared → Prop} {s : Shared}
theorem rc_ne {p q : Addr} {N : Nat} {Q : Value → Shared → Prop} (hu : A.units < cLine) (J : Nat → Shared → Prop) (hJ : GQ.ListI prog w A E p q N J)
    (done : ∀ s, J N s → Q (.bool false) s) (hs : J 0 s) : wpAny (model prog w) A (richCompare .NotEq (.ref p) (.ref q)) Q E s := by
  obtain ⟨xs, ys, m, m2, gp, gq, _, _, _⟩ := hJ _ _ hs
  refine wpAny_richCompare_same_room (op := .NotEq) ⟨_, gp, rfl⟩ ⟨_, gq, rfl⟩ F.slot_list_ne (GQ.call_here F.slot_list_ne ⟨_, gp, rfl⟩ F.entry_list_ne (F.args_list_ne_2 _ _) ?_) hu
  exact ne_lists (R := wants (fun v s' => v ≠ .notImplemented ∧ Q v s') E) p q N J hJ (fun s' z => ⟨(fun x => nomatch x), done s' z⟩) hs
end
open L2 in
/-- xs != ys, where the items are equal by their own == : False -/
def rNeG (D : Eqv) : R2 := fun x y H Q => DList D x y H ∧ ∀ H', Ext H H' → Q (.bl false) H'
open L2 in
theorem op_neG {X : Cx} {n : Nat} {D : Eqv} (hD : Mon D) (h : EqG X n D) (hr : Room (n + 1) X.A) : OpR X (compareOp .NotEq) (rNeG D) := by
  intro pins s σ H x y v u Q I rx ry hq
  obtain ⟨⟨a, b, xs, ys, rfl, rfl, ha, hb, p⟩, q⟩ := hq
  cases rx
  cases ry
  show wpAny (model X.prog X.w) X.A (richCompare .NotEq (.ref a) (.ref b)) (EP X pins σ Q) X.xe s
  refine rc_ne (N := xs.length) hr.units0 (fun _ s' => LoopI X pins σ H s') (fun i s' z => ?_) (fun s' z => ?_) ⟨H, I, Ext.rfl'⟩
  · obtain ⟨H1, I1, e1⟩ := id z
    obtain ⟨_, its, k, r, e⟩ := I1.hok a _ (e1 _ _ ha)
    obtain ⟨_, its2, k2, r2, e2⟩ := I1.hok b _ (e1 _ _ hb)
    exact ⟨its.toArray, its2.toArray, k, k2, e, e2, by rw [List.size_toArray, ← r.length], by rw [List.size_toArray, ← r2.length, ← p.1], fun g1 g2 => turnG hD h ⟨hr, rfl⟩ p r r2 i g1 g2 s' z⟩
  · obtain ⟨H1, I1, e1⟩ := z
    exact ⟨.bl false, H1, I1, rfl, q H1 e1⟩
end KA
namespace KA
open PySem PySem.Spec PyProof.Rows L2
/-! ### shares as pairs -/
/-- by what both are divided -/
def prt (n d : Int) : Int := if d < 0 then -(Int.gcd n d : Int) else (Int.gcd n d : Int)
def shr (n d : Int) : Int × Int := (n.fdiv (prt n d), d.fdiv (prt n d))
theorem gcd_pos {n d : Int} (h : d ≠ 0) : 0 < Int.gcd n d := by
  have : Int.gcd n d ≠ 0 := fun z => h (Int.gcd_eq_zero_iff.mp z).2
  omega
theorem prt_ne {n d : Int} (h : d ≠ 0) : prt n d ≠ 0 := by
  have := gcd_pos (n := n) h
  unfold prt
  split <;> omega
theorem prt_dvd1 (n d : Int) : prt n d ∣ n := by
  unfold prt
  split
  · exact Int.neg_dvd.mpr (Int.gcd_dvd_left ..)
  · exact Int.gcd_dvd_left ..
theorem prt_dvd2 (n d : Int) : prt n d ∣ d := by
  unfold prt
  split
  · exact Int.neg_dvd.mpr (Int.gcd_dvd_right ..)
  · exact Int.gcd_dvd_right ..
theorem shr1 (n d : Int) : prt n d * (shr n d).1 = n := by
  show prt n d * n.fdiv (prt n d) = n
  rw [Int.fdiv_eq_ediv_of_dvd (prt_dvd1 n d)]
  exact Int.mul_ediv_cancel' (prt_dvd1 n d)
theorem shr2 (n d : Int) : prt n d * (shr n d).2 = d := by
  show prt n d * d.fdiv (prt n d) = d
  rw [Int.fdiv_eq_ediv_of_dvd (prt_dvd2 n d)]
  exact Int.mul_ediv_cancel' (prt_dvd2 n d)
theorem shr_pos {n d : Int} (h : d ≠ 0) : 0 < (shr n d).2 := by
  have e := shr2 n d
  have g := gcd_pos (n := n) h
  by_cases hd : d < 0
  · have hp : prt n d < 0 := by unfold prt; rw [if_pos hd]; omega
    rcases Int.lt_trichotomy (shr n d).2 0 with z | z | z
    · have := Int.mul_pos_of_neg_of_neg hp z
      omega
    · rw [z] at e
      omega
    · exact z
  · have hp : 0 < prt n d := by unfold prt; rw [if_neg hd]; omega
    rcases Int.lt_trichotomy (shr n d).2 0 with z | z | z
    · have := Int.mul_neg_of_pos_of_neg hp z
      omega
    · rw [z] at e
      omega
    · exact z
theorem prt_abs (n d : Int) : (prt n d).natAbs = Int.gcd n d := by
  unfold prt
  split <;> omega
theorem shr_low {n d : Int} (h : d ≠ 0) : Int.gcd (shr n d).1 (shr n d).2 = 1 := by
  have g := gcd_pos (n := n) h
  have e : Int.gcd (prt n d * (shr n d).1) (prt n d * (shr n d).2) = (prt n d).natAbs * Int.gcd (shr n d).1 (shr n d).2 := Int.gcd_mul_left ..
  rw [shr1, shr2, prt_abs] at e
  have : Int.gcd n d * 1 = Int.gcd n d * Int.gcd (shr n d).1 (shr n d).2 := by omega
  exact (Nat.eq_of_mul_eq_mul_left g this).symm
/-- of the worth u over g -/
def Eqf (x : Int × Int) (u g : Int) : Prop := x.1 * g = u * x.2
theorem shr_eqf (n d : Int) : Eqf (shr n d) n d := by
  have a := shr1 n d
  have b := shr2 n d
  show (shr n d).1 * d = n * (shr n d).2
  generalize prt n d = p at a b
  generalize (shr n d).1 = x at a ⊢
  generalize (shr n d).2 = y at b ⊢
  subst a b
  grind
theorem eqf_trans {n d u g : Int} (h : d ≠ 0) (e : n * g = u * d) : Eqf (shr n d) u g := by
  have a := shr_eqf n d
  unfold Eqf at a ⊢
  refine Int.eq_of_mul_eq_mul_right h ?_
  grind
theorem eqf_plus {x y : Int × Int} {a b c d : Int} (hx : Eqf x a b) (hy : Eqf y c d) (x0 : 0 < x.2) (y0 : 0 < y.2) : Eqf (shr (x.1 * y.2 + y.1 * x.2) (x.2 * y.2)) (a * d + c * b) (b * d) := by
  unfold Eqf at hx hy
  refine eqf_trans (Int.mul_ne_zero (by omega) (by omega)) ?_
  grind
theorem eqf_minus {x y : Int × Int} {a b c d : Int} (hx : Eqf x a b) (hy : Eqf y c d) (x0 : 0 < x.2) (y0 : 0 < y.2) : Eqf (shr (x.1 * y.2 - y.1 * x.2) (x.2 * y.2)) (a * d - c * b) (b * d) := by
  unfold Eqf at hx hy
  refine eqf_trans (Int.mul_ne_zero (by omega) (by omega)) ?_
  grind
theorem eqf_times {x y : Int × Int} {a b c d : Int} (hx : Eqf x a b) (hy : Eqf y c d) (x0 : 0 < x.2) (y0 : 0 < y.2) : Eqf (shr (x.1 * y.1) (x.2 * y.2)) (a * c) (b * d) := by
  unfold Eqf at hx hy
  refine eqf_trans (Int.mul_ne_zero (by omega) (by omega)) ?_
  grind
def sgn (m : Int) : Int := if m < 0 then -1 else 1
theorem below_iff {x y : Int × Int} {a b c d : Int} (hx : Eqf x a b) (hy : Eqf y c d) (x0 : 0 < x.2) (y0 : 0 < y.2) (hb : b ≠ 0) (hd : d ≠ 0) : (x.1 * y.2 < y.1 * x.2) ↔ (sgn (b * d) * a * d < sgn (b * d) * c * b) := by
  unfold Eqf at hx hy
  have bd : b * d ≠ 0 := Int.mul_ne_zero hb hd
  have hp : 0 < sgn (b * d) * (b * d) := by
    unfold sgn
    split <;> omega
  have xy : 0 < x.2 * y.2 := Int.mul_pos x0 y0
  rw [← Int.mul_lt_mul_right hp, ← Int.mul_lt_mul_right (a := x.2 * y.2) (b := sgn (b * d) * a * d) xy]
  have e1 : x.1 * y.2 * (sgn (b * d) * (b * d)) = sgn (b * d) * a * d * (x.2 * y.2) := by grind
  have e2 : y.1 * x.2 * (sgn (b * d) * (b * d)) = sgn (b * d) * c * b * (x.2 * y.2) := by grind
  rw [e1, e2]
/-! ### sums -/
def PP : List (Int × Int) → Int
  | [] => 1
  | x :: l => x.2 * PP l
def NN : List (Int × Int) → Int
  | [] => 0
  | x :: l => x.1 * PP l + NN l * x.2
theorem PP_app : ∀ l m : List (Int × Int), PP (l ++ m) = PP l * PP m
  | [], m => by show PP m = 1 * PP m; omega
  | x :: l, m => by
    show x.2 * PP (l ++ m) = x.2 * PP l * PP m
    rw [PP_app l m, Int.mul_assoc]
theorem NN_app : ∀ l m : List (Int × Int), NN (l ++ m) = NN l * PP m + NN m * PP l
  | [], m => by
    show NN m = 0 * PP m + NN m * 1
    omega
  | x :: l, m => by
    show x.1 * PP (l ++ m) + NN (l ++ m) * x.2 = (x.1 * PP l + NN l * x.2) * PP m + NN m * (x.2 * PP l)
    rw [NN_app l m, PP_app l m]
    grind
theorem PP_snoc (l : List (Int × Int)) (x : Int × Int) : PP (l ++ [x]) = PP l * x.2 := by
  rw [PP_app]
  show PP l * (x.2 * 1) = _
  rw [Int.mul_one]
theorem NN_snoc (l : List (Int × Int)) (x : Int × Int) : NN (l ++ [x]) = NN l * x.2 + x.1 * PP l := by
  rw [NN_app]
  show NN l * (x.2 * 1) + (x.1 * 1 + 0 * x.2) * PP l = _
  grind
theorem PP_rev : ∀ l : List (Int × Int), PP l.reverse = PP l
  | [] => rfl
  | x :: l => by
    rw [List.reverse_cons, PP_snoc, PP_rev l]
    exact Int.mul_comm ..
theorem NN_rev : ∀ l : List (Int × Int), NN l.reverse = NN l
  | [] => rfl
  | x :: l => by
    rw [List.reverse_cons, NN_snoc, NN_rev l, PP_rev l]
    show NN l * x.2 + x.1 * PP l = x.1 * PP l + NN l * x.2
    omega
/-! ### sizes -/
def Sz (k : Nat) (n : Int) : Prop := n.natAbs < 2 ^ k
theorem Sz.mono {k m : Nat} {n : Int} (h : Sz k n) (e : k ≤ m) : Sz m n := Nat.lt_of_lt_of_le h (Nat.pow_le_pow_right (by decide) e)
theorem Sz.mul {k m : Nat} {a b : Int} (ha : Sz k a) (hb : Sz m b) : Sz (k + m) (a * b) := by
  unfold Sz
  rw [Int.natAbs_mul, Nat.pow_add]
  exact Nat.mul_lt_mul'' ha hb
theorem Sz.add {k : Nat} {a b : Int} (ha : Sz k a) (hb : Sz k b) : Sz (k + 1) (a + b) := by
  unfold Sz at *
  rw [Nat.pow_succ]
  omega
theorem Sz.sub {k : Nat} {a b : Int} (ha : Sz k a) (hb : Sz k b) : Sz (k + 1) (a - b) := by
  unfold Sz at *
  rw [Nat.pow_succ]
  omega
theorem Sz.mw {k m : Nat} {a b : Int} (ha : Sz k a) (hb : Sz m b) (h : k + m + 2 ≤ 1000000) : CMulW a b := wide_mul (ha.mono (Nat.le_succ k)) (hb.mono (Nat.le_succ m)) (by omega) (by omega) (by omega)
theorem Sz.div {k : Nat} {n d : Int} (p : Int) (h : Sz k n) (e : p * d = n) (hp : p ≠ 0) : Sz k d := by
  unfold Sz at *
  subst e
  rw [Int.natAbs_mul] at h
  refine Nat.lt_of_le_of_lt ?_ h
  exact Nat.le_mul_of_pos_left _ (by omega)
theorem shr_sz {k : Nat} {n d : Int} (hd : d ≠ 0) (hn : Sz k n) (h : Sz k d) : Sz k (shr n d).1 ∧ Sz k (shr n d).2 := ⟨hn.div (prt n d) (shr1 n d) (prt_ne hd), h.div (prt n d) (shr2 n d) (prt_ne hd)⟩
/-- // by any number but 0 below 2 ^ 9000 -/
def CDivX (_ j : Int) : Prop := j ≠ 0 ∧ j.natAbs.log2 < 9000
theorem op_fdivX {X : Cx} : OpR X (binaryOp .FloorDiv) (rI CDivX fun i j => .int (i.fdiv j)) := opI fun i j _ _ _ _ _ hc q => floordiv_int hc.1 q (.inl (PyProof.noPylong_of_log2 hc.2))
theorem gcd_turn (a b : Nat) (h : 0 < b) : Nat.gcd b (a % b) = Nat.gcd a b := by
  rw [Nat.gcd_comm a b, Nat.gcd_rec b a, Nat.gcd_comm]
theorem pg_tupK {X : Cx} {K' : PySem.W.Frag} (hK : X.K = K') {es : List Expr} {k : Nat} {pos : Pos} {t : TGs} {n : Nat} (hc : X.calm = true) (h : PGs X es t)
    (hn : (assignEach es X.env).length = n := by rfl) (hst : (assignEach es X.env).findIdx? (·.1) = none := by rfl) : PG X (.Tuple es k pos) (gTup K' n t) := by
  subst hK
  exact pg_tup hc h hn hst
end KA
namespace KA
open PySem PySem.Spec PyProof.Rows L2
/-- what isinstance asks of an own class -/
structure ICls (K : PySem.W.Frag) (C : Addr) : Prop where
  ha : PySem.W.findIn K (.ref C) "__class__" = some (some (.builtin "object.__class__"))
  hn : PySem.W.specialIn K (.builtin "object.__class__") "__get__" = some (some (.builtin "getset_descriptor.__get__"))
  htk : PySem.W.takesIn K (.builtin "object.__class__") = some true
  hm : PySem.W.mroIn K C (.type "object") = some true
  kit : PySem.W.kitOne K (.ref C) (.ref C) = some true
theorem ICls.ty {K : PySem.W.Frag} {C : Addr} (i : ICls K C) (cl : Cls K C) {H : Hp} {p dx : Addr} {fs : List (Str × V)} (h : H p = some (.ins C dx fs)) : TyX K H (.ref p) (.ref C) := .base (.ins h cl i.ha i.hn i.htk i.hm)
theorem prt_log {n d : Int} {k : Nat} (hd : d ≠ 0) (h : Sz k d) (hk : k ≤ 8000) : (prt n d).natAbs.log2 < 9000 := by
  rw [prt_abs]
  refine Nat.lt_of_lt_of_le (PySem.Flt.log2_lt_of (k := k + 1) (by omega) ?_) (by omega : k + 1 ≤ 9000)
  have : Int.gcd n d ≤ d.natAbs := Nat.le_of_dvd (by omega) (Int.gcd_dvd_natAbs_right n d)
  exact Nat.lt_of_le_of_lt this (h.mono (Nat.le_succ k))
theorem abs_nat (n : Int) : (if n < 0 then -n else n) = (n.natAbs : Int) := by
  split <;> omega
end KA
namespace KB
open PySem PySem.Spec PyProof.Rows L2 KA
def topS (i : Nat) : Stmt := PySem.Challenge.pw_pearlrise_k03_shares_reckoned.main.body.getD i (.Pass ⟨0, 0, 0, 0⟩)
abbrev s_NoShare_init : Stmt := inClass (topS 1) 0
theorem sc_NoShare_init : FnScope ["self", "num"] ["self", "num"] (defScope s_NoShare_init) := ⟨rfl, rfl, rfl, by decide +kernel, rfl, by decide +kernel, by decide +kernel⟩
abbrev s_figures : Stmt := topS 5
theorem sc_figures : FnScope ["number", "groups", "rest", "group"] ["number"] (defScope s_figures) := ⟨rfl, rfl, rfl, by decide +kernel, rfl, by decide +kernel, by decide +kernel⟩
abbrev s_common_part : Stmt := topS 7
theorem sc_common_part : FnScope ["one", "other"] ["one", "other"] (defScope s_common_part) := ⟨rfl, rfl, rfl, by decide +kernel, rfl, by decide +kernel, by decide +kernel⟩
abbrev s_Share_init : Stmt := inClass (topS 8) 0
theorem sc_Share_init : FnScope ["self", "num", "over", "part"] ["self", "num", "over"] (defScope s_Share_init) := ⟨rfl, rfl, rfl, by decide +kernel, rfl, by decide +kernel, by decide +kernel⟩
abbrev s_Share_plus : Stmt := inClass (topS 8) 1
theorem sc_Share_plus : FnScope ["self", "other"] ["self", "other"] (defScope s_Share_plus) := ⟨rfl, rfl, rfl, by decide +kernel, rfl, by decide +kernel, by decide +kernel⟩
abbrev s_Share_minus : Stmt := inClass (topS 8) 2
theorem sc_Share_minus : FnScope ["self", "other"] ["self", "other"] (defScope s_Share_minus) := ⟨rfl, rfl, rfl, by decide +kernel, rfl, by decide +kernel, by decide +kernel⟩
abbrev s_Share_times : Stmt := inClass (topS 8) 3
theorem sc_Share_times : FnScope ["self", "other"] ["self", "other"] (defScope s_Share_times) := ⟨rfl, rfl, rfl, by decide +kernel, rfl, by decide +kernel, by decide +kernel⟩
abbrev s_Share_is_below : Stmt := inClass (topS 8) 4
theorem sc_Share_is_below : FnScope ["self", "other"] ["self", "other"] (defScope s_Share_is_below) := ⟨rfl, rfl, rfl, by decide +kernel, rfl, by decide +kernel, by decide +kernel⟩
abbrev s_Share_eq : Stmt := inClass (topS 8) 5
theorem sc_Share_eq : FnScope ["self", "other"] ["self", "other"] (defScope s_Share_eq) := ⟨rfl, rfl, rfl, by decide +kernel, rfl, by decide +kernel, by decide +kernel⟩
abbrev s_Share_repr : Stmt := inClass (topS 8) 6
theorem sc_Share_repr : FnScope ["self"] ["self"] (defScope s_Share_repr) := ⟨rfl, rfl, rfl, by decide +kernel, rfl, by decide +kernel, by decide +kernel⟩
abbrev s_Share_str : Stmt := inClass (topS 8) 7
theorem sc_Share_str : FnScope ["self"] ["self"] (defScope s_Share_str) := ⟨rfl, rfl, rfl, by decide +kernel, rfl, by decide +kernel, by decide +kernel⟩
abbrev s_shares_sum : Stmt := topS 9
theorem sc_shares_sum : FnScope ["shares", "total", "share"] ["shares"] (defScope s_shares_sum) := ⟨rfl, rfl, rfl, by decide +kernel, rfl, by decide +kernel, by decide +kernel⟩
abbrev s_cell_at : Stmt := topS 11
theorem sc_cell_at : FnScope ["_law_script", "_law_k"] ["_law_script", "_law_k"] (defScope s_cell_at) := ⟨rfl, rfl, rfl, by decide +kernel, rfl, by decide +kernel, by decide +kernel⟩
abbrev s_draws : Stmt := topS 12
theorem sc_draws : FnScope ["_law_cell"] ["_law_cell"] (defScope s_draws) := ⟨rfl, rfl, rfl, by decide +kernel, rfl, by decide +kernel, by decide +kernel⟩
abbrev s_one : Stmt := topS 13
theorem sc_one : FnScope ["_law_draws_here", "_law_many", "_law_found", "_law_mix"] ["_law_draws_here", "_law_many"] (defScope s_one) := ⟨rfl, rfl, rfl, by decide +kernel, rfl, by decide +kernel, by decide +kernel⟩
abbrev s_of : Stmt := topS 14
theorem sc_of : FnScope ["_law_draws_here", "_law_some"] ["_law_draws_here", "_law_some"] (defScope s_of) := ⟨rfl, rfl, rfl, by decide +kernel, rfl, by decide +kernel, by decide +kernel⟩
abbrev s_number : Stmt := topS 15
theorem sc_number : FnScope ["_law_draws_here", "_law_small", "_law_great"] ["_law_draws_here"] (defScope s_number) := ⟨rfl, rfl, rfl, by decide +kernel, rfl, by decide +kernel, by decide +kernel⟩
abbrev s_shares : Stmt := topS 16
theorem sc_shares : FnScope ["_law_draws_here", "_law_found", "_law_k", "_law_ground", "_law_upper", "_law_some"] ["_law_draws_here"] (defScope s_shares) := ⟨rfl, rfl, rfl, by decide +kernel, rfl, by decide +kernel, by decide +kernel⟩
abbrev s_common : Stmt := topS 17
theorem sc_common : FnScope ["_law_one_here", "_law_other"] ["_law_one_here", "_law_other"] (defScope s_common) := ⟨rfl, rfl, rfl, by decide +kernel, rfl, by decide +kernel, by decide +kernel⟩
abbrev s_is : Stmt := topS 18
theorem sc_is : FnScope ["_law_share", "_law_upper", "_law_ground"] ["_law_share", "_law_upper", "_law_ground"] (defScope s_is) := ⟨rfl, rfl, rfl, by decide +kernel, rfl, by decide +kernel, by decide +kernel⟩
abbrev s_two_right : Stmt := topS 19
theorem sc_two_right : FnScope ["_law_one_here", "_law_other", "_law_a", "_law_b", "_law_c", "_law_d", "_law_first", "_law_second", "_law_sign", "_law_below"] ["_law_one_here", "_law_other"] (defScope s_two_right) := ⟨rfl, rfl, rfl, by decide +kernel, rfl, by decide +kernel, by decide +kernel⟩
abbrev s_law : Stmt := topS 20
theorem sc_law : FnScope ["_law_script", "_law_cell", "_law_rows", "_law_upper", "_law_ground", "_law_a", "_law_b", "_law_shares_here", "_law_turn", "_law_k"] ["_law_script"] (defScope s_law) := ⟨rfl, rfl, rfl, by decide +kernel, rfl, by decide +kernel, by decide +kernel⟩
structure Tx (K : PySem.W.Frag) (mg : Str → Option Value) : Type where
  C_Share : Addr
  cl_Share : Cls K C_Share
  g_Share : mg "Share" = some (.ref C_Share)
  n_Share_num : NoAttr K C_Share "num"
  n_Share_over : NoAttr K C_Share "over"
  A_common_part : Addr
  fd_common_part : FuncData
  F_common_part : Fun K "common_part" "common_part" s_common_part A_common_part fd_common_part
  g_common_part : mg "common_part" = some (.ref A_common_part)
  b_common_part : Binds K fd_common_part ["one", "other"] []
  A_Share_init : Addr
  fd_Share_init : FuncData
  F_Share_init : FunD K "__init__" "Share.__init__" (defArgs s_Share_init) (defBody s_Share_init) (defScope s_Share_init) [.int 1] [] A_Share_init fd_Share_init
  mk_Share : Mk K C_Share A_Share_init
  b_Share_init : Binds K fd_Share_init ["self", "num", "over"] []
  A_Share_plus : Addr
  fd_Share_plus : FuncData
  F_Share_plus : Fun K "plus" "Share.plus" s_Share_plus A_Share_plus fd_Share_plus
  m_Share_plus : Meth K C_Share "plus" A_Share_plus
  b_Share_plus : Binds K fd_Share_plus ["self", "other"] []
  A_Share_minus : Addr
  fd_Share_minus : FuncData
  F_Share_minus : Fun K "minus" "Share.minus" s_Share_minus A_Share_minus fd_Share_minus
  m_Share_minus : Meth K C_Share "minus" A_Share_minus
  b_Share_minus : Binds K fd_Share_minus ["self", "other"] []
  A_Share_times : Addr
  fd_Share_times : FuncData
  F_Share_times : Fun K "times" "Share.times" s_Share_times A_Share_times fd_Share_times
  m_Share_times : Meth K C_Share "times" A_Share_times
  b_Share_times : Binds K fd_Share_times ["self", "other"] []
  A_Share_is_below : Addr
  fd_Share_is_below : FuncData
  F_Share_is_below : Fun K "is_below" "Share.is_below" s_Share_is_below A_Share_is_below fd_Share_is_below
  m_Share_is_below : Meth K C_Share "is_below" A_Share_is_below
  b_Share_is_below : Binds K fd_Share_is_below ["self", "other"] []
  A_Share_eq : Addr
  fd_Share_eq : FuncData
  F_Share_eq : Fun K "__eq__" "Share.__eq__" s_Share_eq A_Share_eq fd_Share_eq
  m_Share_eq : Meth K C_Share "__eq__" A_Share_eq
  b_Share_eq : Binds K fd_Share_eq ["self", "other"] []
  A_shares_sum : Addr
  fd_shares_sum : FuncData
  F_shares_sum : Fun K "shares_sum" "shares_sum" s_shares_sum A_shares_sum fd_shares_sum
  g_shares_sum : mg "shares_sum" = some (.ref A_shares_sum)
  b_shares_sum : Binds K fd_shares_sum ["shares"] []
  A_cell_at : Addr
  fd_cell_at : FuncData
  F_cell_at : Fun K "_law_cell_at" "_law_cell_at" s_cell_at A_cell_at fd_cell_at
  g_cell_at : mg "_law_cell_at" = some (.ref A_cell_at)
  b_cell_at : Binds K fd_cell_at ["_law_script", "_law_k"] []
  A_draws : Addr
  fd_draws : FuncData
  F_draws : Fun K "_law_draws" "_law_draws" s_draws A_draws fd_draws
  g_draws : mg "_law_draws" = some (.ref A_draws)
  b_draws : Binds K fd_draws ["_law_cell"] []
  A_one : Addr
  fd_one : FuncData
  F_one : Fun K "_law_one" "_law_one" s_one A_one fd_one
  g_one : mg "_law_one" = some (.ref A_one)
  b_one : Binds K fd_one ["_law_draws_here", "_law_many"] []
  A_of : Addr
  fd_of : FuncData
  F_of : Fun K "_law_of" "_law_of" s_of A_of fd_of
  g_of : mg "_law_of" = some (.ref A_of)
  b_of : Binds K fd_of ["_law_draws_here", "_law_some"] []
  A_number : Addr
  fd_number : FuncData
  F_number : Fun K "_law_number" "_law_number" s_number A_number fd_number
  g_number : mg "_law_number" = some (.ref A_number)
  b_number : Binds K fd_number ["_law_draws_here"] []
  A_shares : Addr
  fd_shares : FuncData
  F_shares : Fun K "_law_shares" "_law_shares" s_shares A_shares fd_shares
  g_shares : mg "_law_shares" = some (.ref A_shares)
  b_shares : Binds K fd_shares ["_law_draws_here"] []
  A_common : Addr
  fd_common : FuncData
  F_common : Fun K "_law_common" "_law_common" s_common A_common fd_common
  g_common : mg "_law_common" = some (.ref A_common)
  b_common : Binds K fd_common ["_law_one_here", "_law_other"] []
  A_is : Addr
  fd_is : FuncData
  F_is : Fun K "_law_is" "_law_is" s_is A_is fd_is
  g_is : mg "_law_is" = some (.ref A_is)
  b_is : Binds K fd_is ["_law_share", "_law_upper", "_law_ground"] []
  A_two_right : Addr
  fd_two_right : FuncData
  F_two_right : Fun K "_law_two_right" "_law_two_right" s_two_right A_two_right fd_two_right
  g_two_right : mg "_law_two_right" = some (.ref A_two_right)
  b_two_right : Binds K fd_two_right ["_law_one_here", "_law_other"] []
  kb_Share : KBn K fd_Share_init ["self", "num", "over"] 2 ["over"] (fun us ws => us ++ ws) (fun vs zs => vs ++ zs)
  ds1_Share : List Value
  hd1_Share : Vals [.int 1] ds1_Share
  bd1_Share : Binds K fd_Share_init ["self", "num", "over"] ds1_Share
  i_Share : ICls K C_Share
  z_abs : mg "abs" = none
  z_isinstance : mg "isinstance" = none
  z_len : mg "len" = none
  z_int : mg "int" = none
  z_range : mg "range" = none
  z_bool : mg "bool" = none
section
variable {P : Program} {w : World} {K : PySem.W.Frag} {mg : Str → Option Value} {base : Heap}
def sf (x : Int × Int) : List (Str × V) := putF "over" (.int x.2) (putF "num" (.int x.1) [])
theorem sf_num (x : Int × Int) : (sf x).lookup ("num" : Str) = some (.int x.1) := by
  unfold sf
  rw [lookup_putF, if_neg (by decide +kernel), lookup_putF, if_pos rfl]
theorem sf_over (x : Int × Int) : (sf x).lookup ("over" : Str) = some (.int x.2) := by
  unfold sf
  rw [lookup_putF, if_pos rfl]
theorem sf_no (x : Int × Int) {m : Str} (h1 : ¬ m = "over") (h2 : ¬ m = "num") : (sf x).lookup m = none := by
  unfold sf
  rw [lookup_putF, if_neg h1, lookup_putF, if_neg h2]
  rfl
def ShAt (C : Addr) (H : Hp) (p : Addr) (x : Int × Int) : Prop := ∃ dx, H p = some (.ins C dx (sf x))
theorem ShAt.same {C : Addr} {H H' : Hp} {p : Addr} {x : Int × Int} (s : NL H H') (h : ShAt C H p x) : ShAt C H' p x := by
  obtain ⟨dx, e⟩ := h
  exact ⟨dx, s _ _ (fun _ z => by cases z) e⟩
def Ok (k : Nat) (x : Int × Int) : Prop := 0 < x.2 ∧ Sz k x.1 ∧ Sz k x.2
def spCommon : Sp := fun vs H Q _ => ∃ a b : Nat, vs = [.int a, .int b] ∧ Q (.int (Nat.gcd a b : Nat)) H
theorem ok_common_part (T : Tx K mg) : FnOk P w K mg base CX0 1 T.A_common_part T.fd_common_part ["one", "other"] (spCommon) := by
  refine T.F_common_part.ok sc_common_part (fun vs H Q E h => ?_) (fun cdv A outer s H vs Q E hr h => ?_)
  · obtain ⟨a, b, rfl, q⟩ := h
    rfl
  obtain ⟨a, b, rfl, q⟩ := h
  refine ⟨_, (pss_cons (ps_while PassesOwn.never (pt_cmpR op_gt (pv 1) pe_int (nomark _)) (pss_one (ps_par (i := 0) (j := 1) (by rfl) sc_common_part.nd rfl rfl (by decide) rfl rfl (pa_cons (pv 1) (pa_cons (pe_op op_mod (pv 0) (pv 1)) pa_nil)) (by rfl))))
      (pss_one (ps_ret (pv 0)))), ?_⟩
  refine while_by (fun σ H' => ∃ x y : Nat, σ = [some (.int x), some (.int y)] ∧ Nat.gcd x y = Nat.gcd a b ∧ H' = H) (fun σ _ => match σ with | [_, some (.int y)] => y.toNat | _ => 0) ⟨a, b, rfl, rfl, rfl⟩ ?_ ?_
  · rintro σ H' ⟨x, y, rfl, hg, rfl⟩
    refine ⟨_, rfl, _, _, rfl, rfl, _, rfl, ite2 (fun e => ?_) (fun e => ?_)⟩
    · have hy : 0 < y := by
        have := of_decide_eq_true e
        omega
      refine ⟨_, rfl, _, rfl, _, rfl, _, _, rfl, rfl, (by show (0 : Int) < (y : Int); omega), _, _, rfl, ⟨y, x % y, ?_, ?_, rfl⟩, ?_⟩
      · show [some (V.int (y : Int)), some (V.int ((x : Int) % (y : Int)))] = _
        rw [← Int.natCast_emod]
      · rw [gcd_turn x y hy, hg]
      · show ((x : Int) % (y : Int)).toNat < ((y : Nat) : Int).toNat
        have := Int.emod_lt_of_pos (x : Int) (show (0 : Int) < (y : Int) by omega)
        omega
    · have hy : y = 0 := by
        have : ¬ (0 : Int) < (y : Int) := fun z => e (decide_eq_true z)
        omega
      subst hy
      rw [Nat.gcd_zero_right] at hg
      subst hg
      exact ⟨_, rfl, q⟩
  · rintro σ H' Q1 Q2 hQ ⟨v, h1, i, j, h2, h3, k, h4, z⟩
    exact ⟨v, h1, i, j, h2, h3, k, h4, hQ _ _ z⟩
def spShare (C : Addr) : Sp := fun vs H Q _ => ∃ (p dx : Addr) (n d : Int) (k : Nat), vs = [.ref p, .int n, .int d] ∧ H p = some (.ins C dx []) ∧ d ≠ 0 ∧ Sz k d ∧ k ≤ 8000 ∧
  ∀ H' : Hp, ShAt C H' p (shr n d) → (∀ b o, H b = some o → b ≠ p → H' b = some o) → Q .non H'
theorem ok_Share_init (T : Tx K mg) : FnOk P w K mg base CX0 2 T.A_Share_init T.fd_Share_init ["self", "num", "over"] (spShare T.C_Share) := by
  refine okD T.F_Share_init sc_Share_init (fun vs H Q E h => ?_) (fun cdv A outer s H vs Q E hr h => ?_)
  · obtain ⟨p, dx, n, d, k, rfl, hp, hd, hs, hk, q⟩ := h
    rfl
  obtain ⟨p, dx, n, d, k, rfl, hp, hd, hs, hk, q⟩ := h
  refine ⟨_, (pss_cons (ps_if (pt_cmpR op_eq (pv 2) pe_int (nomark _)) (pss_one ps_never) pss_nil)
      (pss_cons (ps_set (i := 3) sc_Share_init.nd rfl (Or.inl rfl) (pe_call (ok_common_part T) (hr.mono (by decide)) (by rfl) T.g_common_part T.F_common_part.kp T.b_common_part .nil pass0 (pa_cons (pe_callB call_abs (by rfl) T.z_abs (by decide +kernel) (pa_cons (pv 1) pa_nil)) (pa_cons (pe_callB call_abs (by rfl) T.z_abs (by decide +kernel) (pa_cons (pv 2) pa_nil)) pa_nil))))
      (pss_cutJ (ps_if (pt_cmpR op_lt (pv 2) pe_int (nomark _)) (pss_one (ps_set (i := 3) sc_Share_init.nd rfl (Or.inl rfl) (pe_un un_neg (pv 3)))) pss_nil)
      (pss_cons (ps_fld (pv 0) (pe_op op_fdivX (pv 1) (pv 3)) rfl)
      (pss_one (ps_fld (pv 0) (pe_op op_fdivX (pv 2) (pv 3)) rfl)))))), ?_⟩
  refine ⟨_, rfl, rfl, _, rfl, ?_⟩
  rw [decide_eq_false (show ¬ V.int d = V.int 0 from fun e => hd (by injection e))]
  refine iteF ⟨_, rfl, _, rfl, _, rfl, _, rfl, n.natAbs, d.natAbs, ?_, ?_⟩
  · show [V.int (if n < 0 then -n else n), V.int (if d < 0 then -d else d)] = _
    rw [abs_nat, abs_nat]
  refine ⟨fun σ' H' => σ' = [some (.ref p), some (.int n), some (.int d), some (.int (prt n d))] ∧ H = H', ?_, ?_⟩
  · refine ⟨_, rfl, _, _, rfl, rfl, _, rfl, ite2 (fun e => ?_) (fun e => ?_)⟩
    · refine ⟨_, rfl, _, rfl, ?_, rfl⟩
      have : prt n d = -(Int.gcd n d : Int) := if_pos (of_decide_eq_true e)
      rw [this]
      rfl
    · refine ⟨?_, rfl⟩
      have : prt n d = (Int.gcd n d : Int) := if_neg (fun z => e (decide_eq_true z))
      rw [this]
      rfl
  · rintro σ' _ ⟨rfl, rfl⟩
    refine ⟨_, rfl, _, rfl, _, _, rfl, rfl, ⟨prt_ne hd, prt_log hd hs hk⟩, _, rfl, p, _, dx, _, rfl, hp, T.cl_Share, T.n_Share_num, by decide, ?_⟩
    refine ⟨_, rfl, _, rfl, _, _, rfl, rfl, ⟨prt_ne hd, prt_log hd hs hk⟩, _, rfl, p, _, dx, _, rfl, upd_same, T.cl_Share, T.n_Share_over, Nat.lt_of_le_of_lt (length_putF _ _ _) (by decide), ?_⟩
    refine q _ ⟨dx, upd_same⟩ fun b o e hb => ?_
    rw [upd_ne hb, upd_ne hb]
    exact e
def spTwo (C : Addr) (f : Int × Int → Int × Int → Int × Int) : Sp := fun vs H Q _ => ∃ (p q : Addr) (x y : Int × Int) (k m : Nat), vs = [.ref p, .ref q] ∧ ShAt C H p x ∧ ShAt C H q y ∧ Ok k x ∧ Ok m y ∧ k ≤ 2000 ∧ m ≤ 2000 ∧
  ∀ (H' : Hp) (r : Addr), Same H H' → ShAt C H' r (f x y) → Q (.ref r) H'
def fPlus (x y : Int × Int) : Int × Int := shr (x.1 * y.2 + y.1 * x.2) (x.2 * y.2)
def fMinus (x y : Int × Int) : Int × Int := shr (x.1 * y.2 - y.1 * x.2) (x.2 * y.2)
def fTimes (x y : Int × Int) : Int × Int := shr (x.1 * y.1) (x.2 * y.2)
theorem made_same {H H1 : Hp} {x dx C : Addr} (nx : H x = none) (ndx : H dx = none) (k : ∀ b o, (upd (upd H dx (.own x)) x (.ins C dx [])) b = some o → b ≠ x → H1 b = some o) : Same H H1 := fun b o e => k b o (by rw [upd_ne (ne_of_none e nx), upd_ne (ne_of_none e ndx)]; exact e) (ne_of_none e nx)
theorem ok_Share_plus (T : Tx K mg) : FnOk P w K mg base CX0 4 T.A_Share_plus T.fd_Share_plus ["self", "other"] (spTwo T.C_Share fPlus) := by
  refine T.F_Share_plus.ok sc_Share_plus (fun vs H Q E h => ?_) (fun cdv A outer s H vs Q E hr h => ?_)
  · obtain ⟨p, q', x, y, k, m, rfl, ⟨dx, hp⟩, ⟨dy, hq⟩, ⟨x0, x1, x2⟩, ⟨y0, y1, y2⟩, hk, hm, q⟩ := h
    rfl
  obtain ⟨p, q', x, y, k, m, rfl, ⟨dx, hp⟩, ⟨dy, hq⟩, ⟨x0, x1, x2⟩, ⟨y0, y1, y2⟩, hk, hm, q⟩ := h
  refine ⟨_, (pss_one (ps_ret (pe_make T.mk_Share (ok_Share_init T) (hr.mono (by decide)) (by rfl) T.g_Share T.b_Share_init .nil pass0 (pa_cons (pe_op op_add (pe_op op_mulW (pe_fld (pv 0) rfl) (pe_fld (pv 1) rfl)) (pe_op op_mulW (pe_fld (pv 1) rfl) (pe_fld (pv 0) rfl))) (pa_cons (pe_op op_mulW (pe_fld (pv 0) rfl) (pe_fld (pv 1) rfl)) pa_nil))))), ?_⟩
  refine ⟨_, rfl, p, _, dx, _, _, rfl, hp, T.cl_Share, T.n_Share_num, sf_num x, _, rfl, q', _, dy, _, _, rfl, hq, T.cl_Share, T.n_Share_over, sf_over y, _, _, rfl, rfl, x1.mw y2 (by omega), ?_⟩
  refine ⟨_, rfl, q', _, dy, _, _, rfl, hq, T.cl_Share, T.n_Share_num, sf_num y, _, rfl, p, _, dx, _, _, rfl, hp, T.cl_Share, T.n_Share_over, sf_over x, _, _, rfl, rfl, y1.mw x2 (by omega), _, _, rfl, rfl, ?_⟩
  refine ⟨_, rfl, p, _, dx, _, _, rfl, hp, T.cl_Share, T.n_Share_over, sf_over x, _, rfl, q', _, dy, _, _, rfl, hq, T.cl_Share, T.n_Share_over, sf_over y, _, _, rfl, rfl, x2.mw y2 (by omega), ?_⟩
  intro r dr nr ndr ner
  exact ⟨r, dr, _, _, k + m, rfl, upd_same, Int.mul_ne_zero (by omega) (by omega), x2.mul y2, by omega, fun H1 hr k1 => ⟨rfl, q H1 r (made_same nr ndr k1) hr⟩⟩
theorem ok_Share_minus (T : Tx K mg) : FnOk P w K mg base CX0 4 T.A_Share_minus T.fd_Share_minus ["self", "other"] (spTwo T.C_Share fMinus) := by
  refine T.F_Share_minus.ok sc_Share_minus (fun vs H Q E h => ?_) (fun cdv A outer s H vs Q E hr h => ?_)
  · obtain ⟨p, q', x, y, k, m, rfl, ⟨dx, hp⟩, ⟨dy, hq⟩, ⟨x0, x1, x2⟩, ⟨y0, y1, y2⟩, hk, hm, q⟩ := h
    rfl
  obtain ⟨p, q', x, y, k, m, rfl, ⟨dx, hp⟩, ⟨dy, hq⟩, ⟨x0, x1, x2⟩, ⟨y0, y1, y2⟩, hk, hm, q⟩ := h
  refine ⟨_, (pss_one (ps_ret (pe_make T.mk_Share (ok_Share_init T) (hr.mono (by decide)) (by rfl) T.g_Share T.b_Share_init .nil pass0 (pa_cons (pe_op op_sub (pe_op op_mulW (pe_fld (pv 0) rfl) (pe_fld (pv 1) rfl)) (pe_op op_mulW (pe_fld (pv 1) rfl) (pe_fld (pv 0) rfl))) (pa_cons (pe_op op_mulW (pe_fld (pv 0) rfl) (pe_fld (pv 1) rfl)) pa_nil))))), ?_⟩
  refine ⟨_, rfl, p, _, dx, _, _, rfl, hp, T.cl_Share, T.n_Share_num, sf_num x, _, rfl, q', _, dy, _, _, rfl, hq, T.cl_Share, T.n_Share_over, sf_over y, _, _, rfl, rfl, x1.mw y2 (by omega), ?_⟩
  refine ⟨_, rfl, q', _, dy, _, _, rfl, hq, T.cl_Share, T.n_Share_num, sf_num y, _, rfl, p, _, dx, _, _, rfl, hp, T.cl_Share, T.n_Share_over, sf_over x, _, _, rfl, rfl, y1.mw x2 (by omega), _, _, rfl, rfl, ?_⟩
  refine ⟨_, rfl, p, _, dx, _, _, rfl, hp, T.cl_Share, T.n_Share_over, sf_over x, _, rfl, q', _, dy, _, _, rfl, hq, T.cl_Share, T.n_Share_over, sf_over y, _, _, rfl, rfl, x2.mw y2 (by omega), ?_⟩
  intro r dr nr ndr ner
  exact ⟨r, dr, _, _, k + m, rfl, upd_same, Int.mul_ne_zero (by omega) (by omega), x2.mul y2, by omega, fun H1 hr k1 => ⟨rfl, q H1 r (made_same nr ndr k1) hr⟩⟩
theorem ok_Share_times (T : Tx K mg) : FnOk P w K mg base CX0 4 T.A_Share_times T.fd_Share_times ["self", "other"] (spTwo T.C_Share fTimes) := by
  refine T.F_Share_times.ok sc_Share_times (fun vs H Q E h => ?_) (fun cdv A outer s H vs Q E hr h => ?_)
  · obtain ⟨p, q', x, y, k, m, rfl, ⟨dx, hp⟩, ⟨dy, hq⟩, ⟨x0, x1, x2⟩, ⟨y0, y1, y2⟩, hk, hm, q⟩ := h
    rfl
  obtain ⟨p, q', x, y, k, m, rfl, ⟨dx, hp⟩, ⟨dy, hq⟩, ⟨x0, x1, x2⟩, ⟨y0, y1, y2⟩, hk, hm, q⟩ := h
  refine ⟨_, (pss_one (ps_ret (pe_make T.mk_Share (ok_Share_init T) (hr.mono (by decide)) (by rfl) T.g_Share T.b_Share_init .nil pass0 (pa_cons (pe_op op_mulW (pe_fld (pv 0) rfl) (pe_fld (pv 1) rfl)) (pa_cons (pe_op op_mulW (pe_fld (pv 0) rfl) (pe_fld (pv 1) rfl)) pa_nil))))), ?_⟩
  refine ⟨_, rfl, p, _, dx, _, _, rfl, hp, T.cl_Share, T.n_Share_num, sf_num x, _, rfl, q', _, dy, _, _, rfl, hq, T.cl_Share, T.n_Share_num, sf_num y, _, _, rfl, rfl, x1.mw y1 (by omega), ?_⟩
  refine ⟨_, rfl, p, _, dx, _, _, rfl, hp, T.cl_Share, T.n_Share_over, sf_over x, _, rfl, q', _, dy, _, _, rfl, hq, T.cl_Share, T.n_Share_over, sf_over y, _, _, rfl, rfl, x2.mw y2 (by omega), ?_⟩
  intro r dr nr ndr ner
  exact ⟨r, dr, _, _, k + m, rfl, upd_same, Int.mul_ne_zero (by omega) (by omega), x2.mul y2, by omega, fun H1 hr k1 => ⟨rfl, q H1 r (made_same nr ndr k1) hr⟩⟩
def spBelow (C : Addr) : Sp := fun vs H Q _ => ∃ (p q : Addr) (x y : Int × Int) (k m : Nat), vs = [.ref p, .ref q] ∧ ShAt C H p x ∧ ShAt C H q y ∧ Ok k x ∧ Ok m y ∧ k ≤ 2000 ∧ m ≤ 2000 ∧ Q (.bl (decide (x.1 * y.2 < y.1 * x.2))) H
theorem ok_Share_is_below (T : Tx K mg) : FnOk P w K mg base CX0 1 T.A_Share_is_below T.fd_Share_is_below ["self", "other"] (spBelow T.C_Share) := by
  refine T.F_Share_is_below.ok sc_Share_is_below (fun vs H Q E h => ?_) (fun cdv A outer s H vs Q E hr h => ?_)
  · obtain ⟨p, q', x, y, k, m, rfl, ⟨dx, hp⟩, ⟨dy, hq⟩, ⟨x0, x1, x2⟩, ⟨y0, y1, y2⟩, hk, hm, q⟩ := h
    rfl
  obtain ⟨p, q', x, y, k, m, rfl, ⟨dx, hp⟩, ⟨dy, hq⟩, ⟨x0, x1, x2⟩, ⟨y0, y1, y2⟩, hk, hm, q⟩ := h
  refine ⟨_, (pss_one (ps_ret (pe_cmpR op_lt (pe_op op_mulW (pe_fld (pv 0) rfl) (pe_fld (pv 1) rfl)) (pe_op op_mulW (pe_fld (pv 1) rfl) (pe_fld (pv 0) rfl)) (nomark _)))), ?_⟩
  refine ⟨_, rfl, p, _, dx, _, _, rfl, hp, T.cl_Share, T.n_Share_num, sf_num x, _, rfl, q', _, dy, _, _, rfl, hq, T.cl_Share, T.n_Share_over, sf_over y, _, _, rfl, rfl, x1.mw y2 (by omega), ?_⟩
  exact ⟨_, rfl, q', _, dy, _, _, rfl, hq, T.cl_Share, T.n_Share_num, sf_num y, _, rfl, p, _, dx, _, _, rfl, hp, T.cl_Share, T.n_Share_over, sf_over x, _, _, rfl, rfl, y1.mw x2 (by omega), _, _, rfl, rfl, q⟩
/-- two shares alike -/
def Alike (C : Addr) (a b : Addr) (H : Hp) : Prop := ∃ x, ShAt C H a x ∧ ShAt C H b x
theorem ok_Share_eq (T : Tx K mg) : FnOk P w K mg base CX0 1 T.A_Share_eq T.fd_Share_eq ["self", "other"] (spEq (Alike T.C_Share)) := by
  refine T.F_Share_eq.ok sc_Share_eq (fun vs H Q E h => ?_) (fun cdv A outer s H vs Q E hr h => ?_)
  · obtain ⟨a, b, rfl, ⟨x, ⟨dx, ha⟩, ⟨dy, hb⟩⟩, q⟩ := h
    rfl
  obtain ⟨a, b, rfl, ⟨x, ⟨dx, ha⟩, ⟨dy, hb⟩⟩, q⟩ := h
  refine ⟨_, (pss_one (ps_ret (pe_and (pe_callB call_isi (by rfl) T.z_isinstance (by decide +kernel) (pa_cons (pv 1) (pa_cons (pe_glob (v := .ref T.C_Share) (by rfl) T.g_Share rfl) pa_nil))) (pe_and (pe_cmpR op_eq (pe_fld (pv 0) rfl) (pe_fld (pv 1) rfl) (nomark _)) (pe_one (pe_cmpR op_eq (pe_fld (pv 0) rfl) (pe_fld (pv 1) rfl) (nomark _))))))), ?_⟩
  refine ⟨_, rfl, .ref b, .ref T.C_Share, .ref T.C_Share, .ref T.C_Share, true, rfl, .own _, T.i_Share.ty T.cl_Share hb, T.i_Share.kit, _, rfl, ?_⟩
  refine iteT ⟨_, rfl, a, _, dx, _, _, rfl, ha, T.cl_Share, T.n_Share_num, sf_num x, _, rfl, b, _, dy, _, _, rfl, hb, T.cl_Share, T.n_Share_num, sf_num x, rfl, _, rfl, ?_⟩
  rw [decide_eq_true rfl]
  refine iteT ⟨_, rfl, a, _, dx, _, _, rfl, ha, T.cl_Share, T.n_Share_over, sf_over x, _, rfl, b, _, dy, _, _, rfl, hb, T.cl_Share, T.n_Share_over, sf_over x, rfl, ?_⟩
  rw [decide_eq_true rfl]
  exact q H Ext.rfl'
theorem mon_Share {C : Addr} : Mon (DIns C (Alike C)) := mon_ins fun a b H H' e ⟨x, ⟨d1, h1⟩, ⟨d2, h2⟩⟩ => ⟨x, ⟨d1, e _ _ h1⟩, ⟨d2, e _ _ h2⟩⟩
/-! ### a list of shares, made of pairs -/
structure Shs (C : Addr) (H : Hp) (vs : List V) (ls : List (Int × Int)) : Prop where
  len : vs.length = ls.length
  at_ : ∀ (i : Nat) (v : V), vs[i]? = some v → ∃ p l, v = .ref p ∧ ls[i]? = some l ∧ ShAt C H p (shr l.1 l.2)
theorem Shs.same {C : Addr} {H H' : Hp} {vs : List V} {ls : List (Int × Int)} (s : NL H H') (h : Shs C H vs ls) : Shs C H' vs ls :=
  ⟨h.len, fun i v hv => by
    obtain ⟨p, l, e1, e2, e3⟩ := h.at_ i v hv
    exact ⟨p, l, e1, e2, e3.same s⟩⟩
theorem Shs.rev {C : Addr} {H : Hp} {vs : List V} {ls : List (Int × Int)} (h : Shs C H vs ls) : Shs C H vs.reverse ls.reverse := by
  refine ⟨by rw [List.length_reverse, List.length_reverse, h.len], fun i v hv => ?_⟩
  have hi : i < vs.length := by
    have := (List.getElem?_eq_some_iff.mp hv).1
    rw [List.length_reverse] at this
    exact this
  rw [List.getElem?_reverse hi] at hv
  obtain ⟨p, l, e1, e2, e3⟩ := h.at_ _ v hv
  refine ⟨p, l, e1, ?_, e3⟩
  rw [List.getElem?_reverse (by rw [← h.len]; exact hi), ← h.len]
  exact e2
/-- the pairs that are drawn -/
def GoodL (ls : List (Int × Int)) : Prop := ∀ l ∈ ls, l.2 ≠ 0 ∧ Sz 70 l.1 ∧ Sz 70 l.2
theorem good_ok {l : Int × Int} (h : l.2 ≠ 0 ∧ Sz 70 l.1 ∧ Sz 70 l.2) : Ok 70 (shr l.1 l.2) := by
  have z := shr_sz h.1 h.2.1 h.2.2
  exact ⟨shr_pos h.1, z.1, z.2⟩
def spSum (K : PySem.W.Frag) (C : Addr) : Sp := fun vs H Q _ => ∃ (b : Addr) (xs : List V) (ls : List (Int × Int)), vs = [.ref b] ∧ SqL K H b xs ∧ Shs C H xs ls ∧ GoodL ls ∧ ls.length ≤ 12 ∧
  ∀ (H' : Hp) (r : Addr) (t : Int × Int), Same H H' → ShAt C H' r t → Ok 1200 t → Int.gcd t.1 t.2 = 1 → Eqf t (NN ls) (PP ls) → Q (.ref r) H'
theorem plus_sz {k : Nat} {x y : Int × Int} (hx : Ok k x) (hy : Ok 70 y) (hk : 70 ≤ k) : Ok (k + 71) (fPlus x y) := by
  obtain ⟨x0, x1, x2⟩ := hx
  obtain ⟨y0, y1, y2⟩ := hy
  have d0 : x.2 * y.2 ≠ 0 := Int.mul_ne_zero (by omega) (by omega)
  have a := x1.mul y2
  have b := y1.mul x2
  have c := Sz.add a (b.mono (by omega : 70 + k ≤ k + 70))
  have d := (x2.mul y2).mono (by omega : k + 70 ≤ k + 70 + 1)
  have z := shr_sz d0 c d
  exact ⟨shr_pos d0, z.1, z.2⟩
theorem ok_shares_sum (T : Tx K mg) : FnOk P w K mg base CX0 5 T.A_shares_sum T.fd_shares_sum ["shares"] (spSum K T.C_Share) := by
  refine T.F_shares_sum.ok sc_shares_sum (fun vs H Q E h => ?_) (fun cdv A outer s H vs Q E hr h => ?_)
  · obtain ⟨b, xs, ls, rfl, hS, hL, hG, hl, q⟩ := h
    rfl
  obtain ⟨b, xs, ls, rfl, hS, hL, hG, hl, q⟩ := h
  refine ⟨_, (pss_cons (ps_set (i := 1) sc_shares_sum.nd rfl (Or.inl rfl) (pe_make T.mk_Share (ok_Share_init T) (hr.mono (by decide)) (by rfl) T.g_Share T.bd1_Share T.hd1_Share pass0 (pa_cons pe_int pa_nil)))
      (pss_cons (ps_for PassesOwn.never rfl (pi_list (pv 0)) (pg_name (i := 2) sc_shares_sum.nd rfl (Or.inl rfl))
        (pss_one (ps_set (i := 1) sc_shares_sum.nd rfl (Or.inl rfl) (pe_meth (pv 1) T.cl_Share T.m_Share_plus (ok_Share_plus T) (hr.mono (by decide)) T.b_Share_plus .nil pass0 (pa_cons (pv 2) pa_nil)))))
      (pss_one (ps_ret (pv 1))))), ?_⟩
  intro r0 dr0 n0 m0 e0
  refine ⟨r0, dr0, 0, 1, 1, rfl, upd_same, by decide, (by show (1 : Int).natAbs < 2 ^ 1; decide), by decide, fun H1 h1 k1 => ⟨rfl, ?_⟩⟩
  have s1 := made_same n0 m0 k1
  have eL := hL.len
  refine ⟨_, rfl, b, rfl, ⟨_, s1.seq hS⟩, for_list (K := K) (a := b) (xs := xs) (fun i σ H' => ∃ (r : Addr) (t : Int × Int) (w2 : Option V), σ = [some (.ref b), some (.ref r), w2] ∧ Same H H' ∧ ShAt T.C_Share H' r t ∧ Ok (75 + 75 * i) t ∧ Int.gcd t.1 t.2 = 1 ∧ Eqf t (NN (ls.take i)) (PP (ls.take i))) ⟨r0, shr 0 1, _, rfl, s1, h1, ?_, shr_low (by decide), shr_eqf 0 1⟩ (fun i σ H' _ h => ?_) ?_ ?_⟩
  · have z := shr_sz (k := 75 + 75 * 0) (n := 0) (d := 1) (by decide) (by show (0 : Int).natAbs < 2 ^ 75; decide) (by show (1 : Int).natAbs < 2 ^ 75; decide)
    exact ⟨shr_pos (by decide), z.1, z.2⟩
  · obtain ⟨_, _, _, _, s, _⟩ := h
    exact s.seq hS
  · rintro i x σ H2 hi ⟨r, t, w2, rfl, s2, ⟨dr, hr'⟩, ok, low, eq⟩
    obtain ⟨p, l, rfl, hl', hp⟩ := (hL.same (NL.of s2)).at_ i x hi
    have gl := hG l (List.mem_of_getElem? hl')
    have okl := good_ok gl
    have hil : i < ls.length := (List.getElem?_eq_some_iff.mp hl').1
    refine ⟨_, rfl, r, dr, _, rfl, hr', sf_no t (by decide +kernel) (by decide +kernel), _, rfl, r, p, t, shr l.1 l.2, 75 + 75 * i, 70, rfl, ⟨dr, hr'⟩, hp, ok, okl, by omega, by omega, fun H3 r3 s3 h3 => ?_⟩
    refine ⟨r3, _, _, rfl, s2.trans s3, h3, ?_, shr_low (Int.mul_ne_zero (by have := ok.1; omega) (by have := okl.1; omega)), ?_⟩
    · have z := plus_sz ok okl (by omega)
      exact ⟨z.1, z.2.1.mono (by omega), z.2.2.mono (by omega)⟩
    · rw [List.take_add_one, hl']
      show Eqf (fPlus t (shr l.1 l.2)) (NN (ls.take i ++ [l])) (PP (ls.take i ++ [l]))
      rw [NN_snoc, PP_snoc]
      exact eqf_plus eq (shr_eqf l.1 l.2) ok.1 okl.1
  · rintro σ H2 ⟨r, t, w2, rfl, s2, hr', ok, low, eq⟩
    rw [eL, List.take_of_length_le (Nat.le_refl _)] at eq
    rw [eL] at ok
    exact ⟨_, rfl, q H2 r t s2 hr' ⟨ok.1, ok.2.1.mono (by omega), ok.2.2.mono (by omega)⟩ low eq⟩
end
end KB
namespace KB
open PySem PySem.Spec PyProof.Rows L2 KA
section
variable {P : Program} {w : World} {K : PySem.W.Frag} {mg : Str → Option Value} {base : Heap}
def PM : Int → Prop := fun b => 0 ≤ b ∧ b < 2147483647
def spCell (K : PySem.W.Frag) : Sp := fun vs H Q _ => ∃ (a : Addr) (ns : List Int), vs = [.ref a, .int 0] ∧ SqL K H a (ns.map V.int) ∧ Q (.int (ns.headD 0)) H
theorem ok_cell_at (T : Tx K mg) : FnOk P w K mg base CX0 1 T.A_cell_at T.fd_cell_at ["_law_script", "_law_k"] (spCell K) := by
  refine T.F_cell_at.ok sc_cell_at (fun vs H Q E h => ?_) (fun cdv A outer s H vs Q E hr h => ?_)
  · obtain ⟨a, ns, rfl, hS, q⟩ := h
    rfl
  obtain ⟨a, ns, rfl, hS, q⟩ := h
  refine ⟨_, (pss_cons (ps_if (pt_cmpR op_lt (pv 1) (pe_callB call_len_seq (by rfl) T.z_len PySem.boot_len (pa_cons (pv 0) pa_nil)) (nomark _)) (pss_one (ps_ret (pe_ix ix_list (pv 0) (pv 1) (fun _ _ => rfl)))) pss_nil)
      (pss_one (ps_ret pe_int))), ?_⟩
  refine ⟨_, rfl, _, rfl, a, _, rfl, .inl hS, _, _, rfl, rfl, _, rfl, ?_⟩
  cases ns with
  | nil => exact iteF q
  | cons n r =>
    rw [decide_eq_true (show (0 : Int) < (((n :: r).map V.int).length : Int) by rw [List.length_map, List.length_cons]; omega)]
    exact iteT ⟨_, rfl, _, rfl, a, _, _, _, rfl, rfl, hS, atI_nat (j := 0) rfl, q⟩
def spDraws : Sp := fun vs H Q _ => ∃ (n : Int), vs = [.int n] ∧ ∀ (d : Addr) (H' : Hp), H d = none → Same H H' → Dr PM d 0 H' → Q (.ref d) H'
theorem ok_draws (T : Tx K mg) : FnOk P w K mg base CX0 1 T.A_draws T.fd_draws ["_law_cell"] (spDraws) := by
  refine T.F_draws.ok sc_draws (fun vs H Q E h => ?_) (fun cdv A outer s H vs Q E hr h => ?_)
  · obtain ⟨n, rfl, q⟩ := h
    rfl
  obtain ⟨n, rfl, q⟩ := h
  refine ⟨_, (pss_one (ps_ret (pe_lst (pa_cons (pe_op op_mul (pv 0) (pe_callTy call_int1 (by rfl) T.z_int (by decide +kernel) (pa_cons (pe_cmpR op_ge (pv 0) (pe_op op_pow pe_int pe_int) (nomark _)) pa_nil))) (pa_cons (pe_op op_mod (pv 0) pe_int) (pa_cons pe_int pa_nil)))))), ?_⟩
  refine ⟨_, rfl, _, rfl, _, _, rfl, rfl, ⟨by decide, by decide, by decide⟩, _, _, rfl, rfl, .inr ⟨_, rfl, _, _, rfl, rfl, .inr ?_, ?_⟩⟩
  · split <;> decide
  · refine ⟨_, rfl, _, _, rfl, rfl, (by show (0 : Int) < 2147483647; decide), (by show 3 ≤ sizeLine; decide), fun d hd => q d _ hd (same_upd hd) ⟨_, _, _, upd_same, ⟨Int.emod_nonneg _ (by decide), Int.emod_lt_of_pos _ (by decide)⟩, Int.le_refl _, Int.le_refl _⟩⟩
def spOne : Sp := fun vs H Q _ => ∃ (d : Addr) (m : Int) (n : Nat), vs = [.ref d, .int m] ∧ 0 < m ∧ m.natAbs.log2 < 9000 ∧ Dr PM d n H ∧ n ≤ 1000000 ∧
  ∀ (H' : Hp) (r : Int), 0 ≤ r → r < m → But d H H' → Dr PM d (n + 1) H' → Q (.int r) H'
theorem ok_one (T : Tx K mg) : FnOk P w K mg base CX0 1 T.A_one T.fd_one ["_law_draws_here", "_law_many"] (spOne) := by
  refine T.F_one.ok sc_one (fun vs H Q E h => ?_) (fun cdv A outer s H vs Q E hr h => ?_)
  · obtain ⟨d, m, n, rfl, hm, hl, ⟨a, b, c, hd, ⟨hb0, hb1⟩, hc0, hc1⟩, hn, q⟩ := h
    rfl
  obtain ⟨d, m, n, rfl, hm, hl, ⟨a, b, c, hd, ⟨hb0, hb1⟩, hc0, hc1⟩, hn, q⟩ := h
  refine ⟨_, (pss_cons (ps_if (pt_cmpR op_gt (pe_ix ix_list (pv 0) pe_int (fun _ _ => rfl)) pe_int (nomark _)) (pss_cons (ps_set (i := 2) sc_one.nd rfl (Or.inl rfl) (pe_op op_mod (pe_ix ix_list (pv 0) pe_int (fun _ _ => rfl)) (pv 1)))
      (pss_cons (ps_asg (pe_op op_fdivW (pe_ix ix_list (pv 0) pe_int (fun _ _ => rfl)) (pv 1)) (pg_sub (pv 0) pe_int set_list))
      (pss_one (ps_ret (pv 2))))) pss_nil)
      (pss_cons (ps_asg (pe_op op_add (pe_ix ix_list (pv 0) pe_int (fun _ _ => rfl)) pe_int) (pg_sub (pv 0) pe_int set_list))
      (pss_cons (ps_set (i := 3) sc_one.nd rfl (Or.inl rfl) (pe_op op_mod (pe_op op_pow (pe_op op_add (pe_op op_add (pe_ix ix_list (pv 0) pe_int (fun _ _ => rfl)) (pe_op op_mul pe_int (pe_ix ix_list (pv 0) pe_int (fun _ _ => rfl)))) pe_int) pe_int) pe_int))
      (pss_cons (ps_set (i := 3) sc_one.nd rfl (Or.inl rfl) (pe_op op_mod (pe_op op_mul (pv 3) (pe_op op_add (pe_op op_add (pe_op op_fdiv (pv 3) pe_int) pe_int) (pe_ix ix_list (pv 0) pe_int (fun _ _ => rfl)))) pe_int))
      (pss_one (ps_ret (pe_op op_mod (pe_op op_mod (pe_op op_mul (pv 3) (pe_op op_add (pe_op op_fdiv (pv 3) pe_int) pe_int)) pe_int) (pv 1)))))))), ?_⟩
  refine ⟨_, rfl, d, _, _, _, rfl, rfl, SqL.of hd, atI_nat (j := 0) rfl, _, _, rfl, rfl, _, rfl, ite2 (fun e => ?_) (fun e => ?_)⟩
  · refine ⟨_, rfl, d, _, _, _, rfl, rfl, SqL.of hd, atI_nat (j := 0) rfl, _, rfl, _, _, rfl, rfl, hm, ?_⟩
    refine ⟨_, rfl, d, _, _, _, rfl, rfl, SqL.of hd, atI_nat (j := 0) rfl, _, rfl, _, _, rfl, rfl, ⟨hm, hl⟩, ?_⟩
    refine ⟨_, rfl, d, _, _, 0, rfl, rfl, hd, rfl, ?_⟩
    exact ⟨_, rfl, q _ _ (Int.emod_nonneg _ (by omega)) (Int.emod_lt_of_pos _ hm) But.at_ ⟨_, _, _, upd_same, ⟨hb0, hb1⟩, hc0, by omega⟩⟩
  · refine ⟨_, rfl, d, _, _, _, rfl, rfl, SqL.of hd, atI_nat (j := 2) rfl, _, _, rfl, rfl, ?_⟩
    refine ⟨_, rfl, d, _, _, 2, rfl, rfl, hd, rfl, ?_⟩
    have hd' : (upd H d (.lst [.int a, .int b, .int (c + 1)])) d = some (.lst [.int a, .int b, .int (c + 1)]) := upd_same
    refine ⟨_, rfl, d, _, _, _, rfl, rfl, SqL.of hd', atI_nat (j := 1) rfl, _, rfl, d, _, _, _, rfl, rfl, SqL.of hd', atI_nat (j := 2) rfl, _, _, rfl, rfl, .inl ⟨by decide, by decide⟩, _, _, rfl, rfl, _, _, rfl, rfl, _, _, rfl, rfl, ⟨by decide, by decide, ?_⟩, _, _, rfl, rfl, (by show (0 : Int) < 2147483647; decide), ?_⟩
    · have e64 : (2 : Nat) ^ 64 = 18446744073709551616 := by decide
      rw [e64]
      omega
    · generalize hx : (b + 7919 * (c + 1) + 1) ^ (5 : Int).toNat % 2147483647 = x
      have hx0 : 0 ≤ x := by rw [← hx]; exact Int.emod_nonneg _ (by decide)
      have hx1 : x < 2147483647 := by rw [← hx]; exact Int.emod_lt_of_pos _ (by decide)
      have e64 : (2 : Int) ^ 64 = 18446744073709551616 := by decide
      refine ⟨_, rfl, _, rfl, _, _, rfl, rfl, ⟨by decide, by decide⟩, _, _, rfl, rfl, _, rfl, d, _, _, _, rfl, rfl, SqL.of hd', atI_nat (j := 2) rfl, _, _, rfl, rfl, _, _, rfl, rfl, .inl ⟨?_, ?_⟩, _, _, rfl, rfl, (by show (0 : Int) < 2147483629; decide), ?_⟩
      · rw [e64]; omega
      · rw [e64]; omega
      · generalize hy : x * (x / 1009 + 69621 + (c + 1)) % 2147483629 = y
        have hy0 : 0 ≤ y := by rw [← hy]; exact Int.emod_nonneg _ (by decide)
        have hy1 : y < 2147483629 := by rw [← hy]; exact Int.emod_lt_of_pos _ (by decide)
        refine ⟨_, rfl, _, rfl, _, _, rfl, rfl, ⟨by decide, by decide⟩, _, _, rfl, rfl, _, _, rfl, rfl, .inl ⟨?_, ?_⟩, _, _, rfl, rfl, (by show (0 : Int) < 2147483399; decide), _, rfl, _, _, rfl, rfl, hm, ?_⟩
        · rw [e64]; omega
        · rw [e64]; omega
        · exact q _ _ (Int.emod_nonneg _ (by omega)) (Int.emod_lt_of_pos _ hm) But.at_ ⟨_, _, _, upd_same, ⟨hb0, hb1⟩, by omega, by omega⟩
def spOf (K : PySem.W.Frag) : Sp := fun vs H Q _ => ∃ (d b : Addr) (n : Nat) (xs : List V), vs = [.ref d, .ref b] ∧ b ≠ d ∧ SqL K H b xs ∧ xs ≠ [] ∧ xs.length ≤ 1000 ∧ Dr PM d n H ∧ n ≤ 1000000 ∧
  ∀ (H' : Hp) (v : V), v ∈ xs → But d H H' → Dr PM d (n + 1) H' → Q v H'
theorem ok_of (T : Tx K mg) : FnOk P w K mg base CX0 2 T.A_of T.fd_of ["_law_draws_here", "_law_some"] (spOf K) := by
  refine T.F_of.ok sc_of (fun vs H Q E h => ?_) (fun cdv A outer s H vs Q E hr h => ?_)
  · obtain ⟨d, b, n, xs, rfl, hbd, hS, hne, hlen, dr, hn, q⟩ := h
    rfl
  obtain ⟨d, b, n, xs, rfl, hbd, hS, hne, hlen, dr, hn, q⟩ := h
  refine ⟨_, (pss_one (ps_ret (pe_ix ix_list (pv 1) (pe_call (ok_one T) (hr.mono (by decide)) (by rfl) T.g_one T.F_one.kp T.b_one .nil pass0 (pa_cons (pv 0) (pa_cons (pe_callB call_len_seq (by rfl) T.z_len PySem.boot_len (pa_cons (pv 1) pa_nil)) pa_nil))) (fun _ _ => rfl)))), ?_⟩
  have hl : 0 < (xs.length : Int) := by
    cases xs with
    | nil => exact absurd rfl hne
    | cons x r => rw [List.length_cons]; omega
  refine ⟨_, rfl, _, rfl, _, rfl, b, xs, rfl, .inl hS, d, _, n, rfl, hl, log_tiny hl (by omega), dr, hn, fun H' r h0 h1 bt dr' => ?_⟩
  obtain ⟨j, rfl⟩ : ∃ j : Nat, r = (j : Int) := ⟨r.toNat, by omega⟩
  have hj : j < xs.length := by omega
  exact ⟨b, xs, _, _, rfl, rfl, but_seq bt hbd hS, atI_nat (List.getElem?_eq_getElem hj), q H' _ (List.getElem_mem hj) bt dr'⟩
theorem dr_nl {Q : Int → Prop} {d : Addr} {n : Nat} {H H' : Hp} (dr : Dr Q d n H) (b : But d H H') : NL H H' := fun c o hn hc => by
  obtain ⟨_, _, _, e, _⟩ := dr
  exact b c o (fun z => by rw [z, e] at hc; exact hn _ (Option.some.inj hc).symm) hc
theorem sz70 {x : Int} (h1 : -100000000000000000000 < x) (h2 : x < 100000000000000000000) : Sz 70 x := by
  show x.natAbs < 2 ^ 70
  have e : (2 : Nat) ^ 70 = 1180591620717411303424 := by decide
  rw [e]
  omega
def spNumber : Sp := fun vs H Q _ => ∃ (d : Addr) (n : Nat), vs = [.ref d] ∧ Dr PM d n H ∧ n ≤ 100000 ∧
  ∀ (H' : Hp) (x : Int), Sz 70 x → But d H H' → Dr PM d (n + 4) H' → Q (.int x) H'
theorem ok_number (T : Tx K mg) : FnOk P w K mg base CX0 3 T.A_number T.fd_number ["_law_draws_here"] (spNumber) := by
  refine T.F_number.ok sc_number (fun vs H Q E h => ?_) (fun cdv A outer s H vs Q E hr h => ?_)
  · obtain ⟨d, n, rfl, dr, hn, q⟩ := h
    rfl
  obtain ⟨d, n, rfl, dr, hn, q⟩ := h
  refine ⟨_, (pss_cons (ps_set (i := 1) sc_number.nd rfl (Or.inl rfl) (pe_op op_sub (pe_call (ok_one T) (hr.mono (by decide)) (by rfl) T.g_one T.F_one.kp T.b_one .nil pass0 (pa_cons (pv 0) (pa_cons pe_int pa_nil))) pe_int))
      (pss_cons (ps_set (i := 2) sc_number.nd rfl (Or.inl rfl) (pe_op op_sub (pe_call (ok_one T) (hr.mono (by decide)) (by rfl) T.g_one T.F_one.kp T.b_one .nil pass0 (pa_cons (pv 0) (pa_cons (pe_op op_pow pe_int pe_int) pa_nil))) (pe_op op_mul pe_int (pe_op op_pow pe_int pe_int))))
      (pss_one (ps_ret (pe_call (ok_of T) (hr.mono (by decide)) (by rfl) T.g_of T.F_of.kp T.b_of .nil pass0 (pa_cons (pv 0) (pa_cons (pe_lst (pa_cons (pv 1) (pa_cons (pv 1) (pa_cons (pv 2) (pa_cons (pe_op op_sub (pe_call (ok_one T) (hr.mono (by decide)) (by rfl) T.g_one T.F_one.kp T.b_one .nil pass0 (pa_cons (pv 0) (pa_cons pe_int pa_nil))) pe_int) pa_nil))))) pa_nil))))))), ?_⟩
  have e20 : (10 : Int) ^ (20 : Int).toNat = 100000000000000000000 := by decide
  have e19 : (10 : Int) ^ (19 : Int).toNat = 10000000000000000000 := by decide
  refine ⟨_, rfl, d, 13, n, rfl, by decide, log_tiny (by decide) (by decide), dr, by omega, fun H1 r1 a1 c1 b1 dr1 => ⟨_, _, rfl, rfl, ?_⟩⟩
  refine ⟨_, rfl, _, _, rfl, rfl, ⟨by decide, by decide, by decide⟩, d, _, n + 1, rfl, by decide, log_tiny (by decide) (by decide), dr1, by omega, fun H2 r2 a2 c2 b2 dr2 => ?_⟩
  refine ⟨_, _, rfl, rfl, ⟨by decide, by decide, by decide⟩, _, _, rfl, rfl, .inl ⟨by decide, by decide⟩, _, _, rfl, rfl, ?_⟩
  refine ⟨_, rfl, _, rfl, _, rfl, _, rfl, _, rfl, d, 2000, n + 2, rfl, by decide, log_tiny (by decide) (by decide), dr2, by omega, fun H3 r3 a3 c3 b3 dr3 => ?_⟩
  refine ⟨_, _, rfl, rfl, (by show 4 ≤ sizeLine; decide), fun l hl => ?_⟩
  have nl := dr3.ne hl
  refine ⟨d, l, n + 3, _, rfl, nl, SqL.of upd_same, by simp, by show 4 ≤ 1000; decide, dr3.upd nl, by omega, fun H4 v hv b4 dr4 => ?_⟩
  have bt : But d H H4 := (b1.trans (b2.trans b3)).trans ((But.new hl).trans b4)
  have fin : ∀ x : Int, Sz 70 x → v = .int x → Q v H4 := fun x hx e => by
    rw [e]
    exact q H4 x hx bt dr4
  simp only [List.mem_cons, List.not_mem_nil, or_false] at hv
  rw [e20] at c2
  rcases hv with e | e | e | e
  · exact fin _ (sz70 (by omega) (by omega)) e
  · exact fin _ (sz70 (by omega) (by omega)) e
  · refine fin _ (sz70 ?_ ?_) e
    · rw [e19]; omega
    · rw [e19]; omega
  · exact fin _ (sz70 (by omega) (by omega)) e
/-- pairs as tuples -/
def PV (K : PySem.W.Frag) (H : Hp) (v : V) (l : Int × Int) : Prop := ∃ t, v = .ref t ∧ SqT K H t [.int l.1, .int l.2]
theorem PV.same {K : PySem.W.Frag} {H H' : Hp} {v : V} {l : Int × Int} (s : NL H H') (h : PV K H v l) : PV K H' v l := by
  obtain ⟨t, e, h⟩ := h
  exact ⟨t, e, nl_tup s h⟩
structure Pls (K : PySem.W.Frag) (H : Hp) (vs : List V) (ls : List (Int × Int)) : Prop where
  len : vs.length = ls.length
  at_ : ∀ (i : Nat) (v : V), vs[i]? = some v → ∃ l, ls[i]? = some l ∧ PV K H v l
theorem Pls.same {K : PySem.W.Frag} {H H' : Hp} {vs : List V} {ls : List (Int × Int)} (s : NL H H') (h : Pls K H vs ls) : Pls K H' vs ls :=
  ⟨h.len, fun i v hv => by
    obtain ⟨l, h1, h2⟩ := h.at_ i v hv
    exact ⟨l, h1, h2.same s⟩⟩
theorem Pls.get {K : PySem.W.Frag} {H : Hp} {vs : List V} {ls : List (Int × Int)} (h : Pls K H vs ls) {i : Nat} {l : Int × Int} (hl : ls[i]? = some l) : ∃ v, vs[i]? = some v ∧ PV K H v l := by
  have hi : i < vs.length := by
    rw [h.len]
    exact (List.getElem?_eq_some_iff.mp hl).1
  obtain ⟨l', h1, h2⟩ := h.at_ i _ (List.getElem?_eq_getElem hi)
  have : l = l' := Option.some.inj (hl.symm.trans h1)
  subst this
  exact ⟨_, List.getElem?_eq_getElem hi, h2⟩
theorem Pls.push {K : PySem.W.Frag} {H : Hp} {vs : List V} {ls : List (Int × Int)} {v : V} {l : Int × Int} (h : Pls K H vs ls) (hv : PV K H v l) : Pls K H (vs ++ [v]) (ls ++ [l]) := by
  refine ⟨by rw [List.length_append, List.length_append, h.len]; rfl, fun i x hx => ?_⟩
  by_cases hi : i < vs.length
  · rw [List.getElem?_append_left hi] at hx
    obtain ⟨l', h1, h2⟩ := h.at_ i x hx
    exact ⟨l', by rw [List.getElem?_append_left (by rw [← h.len]; exact hi)]; exact h1, h2⟩
  · rw [List.getElem?_append_right (by omega)] at hx
    have : i = vs.length := by
      have := (List.getElem?_eq_some_iff.mp hx).1
      rw [List.length_singleton] at this
      omega
    subst this
    rw [Nat.sub_self] at hx
    have : v = x := Option.some.inj hx
    subst this
    exact ⟨l, by rw [h.len, List.getElem?_append_right (Nat.le_refl _), Nat.sub_self]; rfl, hv⟩
def pairD (l : Int × Int) : PyData := .tuple [.int l.1, .int l.2]
theorem Pls.dp {K : PySem.W.Frag} {H : Hp} : ∀ {vs : List V} {ls : List (Int × Int)}, Pls K H vs ls → DpAll K H vs (ls.map pairD)
  | [], [], _ => .nil
  | [], _ :: _, h => by have := h.len; simp at this
  | _ :: _, [], h => by have := h.len; simp at this
  | v :: vs, l :: ls, h => by
    refine .cons ?_ (Pls.dp ⟨by have := h.len; simpa using this, fun i x hx => ?_⟩)
    · obtain ⟨l', e, t, rfl, ht⟩ := h.at_ 0 v rfl
      have : l = l' := Option.some.inj e
      subst this
      exact .tup ht (.cons (.int _) (.cons (.int _) .nil))
    · obtain ⟨l', e, hv⟩ := h.at_ (i + 1) x hx
      exact ⟨l', e, hv⟩
theorem pairs_ok : ∀ ls : List (Int × Int), PyData.canLayAll0 (ls.map pairD) = true ∧ PyData.depthAll (ls.map pairD) ≤ 1
  | [] => ⟨rfl, by decide⟩
  | l :: ls => by
    obtain ⟨a, b⟩ := pairs_ok ls
    constructor
    · show (PyData.canLay0 (pairD l) && PyData.canLayAll0 (ls.map pairD)) = true
      rw [a]
      rfl
    · show max (PyData.depth (pairD l)) (PyData.depthAll (ls.map pairD)) ≤ 1
      have : PyData.depth (pairD l) = 1 := rfl
      omega
theorem pairs_shaped (ls : List (Int × Int)) : SeqAt.shaped (.list (ls.map pairD)) = true := by
  obtain ⟨a, b⟩ := pairs_ok ls
  show (PyData.canLayAll0 (ls.map pairD) && decide (PyData.depthAll (ls.map pairD) + 1 ≤ 64)) = true
  rw [a, decide_eq_true (by omega)]
  rfl
def spShares (K : PySem.W.Frag) : Sp := fun vs H Q _ => ∃ (d : Addr) (n : Nat), vs = [.ref d] ∧ Dr PM d n H ∧ n ≤ 1000 ∧
  ∀ (H' : Hp) (p : Addr) (xs : List V) (ls : List (Int × Int)), H' p = some (.lst xs) → Pls K H' xs ls → GoodL ls → 2 ≤ ls.length → ls.length ≤ 9 → But d H H' → Dr PM d (n + 300) H' → Q (.ref p) H'
theorem ok_shares (T : Tx K mg) : FnOk P w K mg base CX0 4 T.A_shares T.fd_shares ["_law_draws_here"] (spShares K) := by
  refine T.F_shares.ok sc_shares (fun vs H Q E h => ?_) (fun cdv A outer s H vs Q E hr h => ?_)
  · obtain ⟨d, n, rfl, dr, hn, q⟩ := h
    rfl
  obtain ⟨d, n, rfl, dr, hn, q⟩ := h
  refine ⟨_, (pss_cons (ps_set (i := 1) sc_shares.nd rfl (Or.inl rfl) (pe_lst pa_nil))
      (pss_cons (ps_for PassesOwn.never rfl (pi_range1 (by rfl) T.z_range (pa_cons (pe_op op_add pe_int (pe_call (ok_one T) (hr.mono (by decide)) (by rfl) T.g_one T.F_one.kp T.b_one .nil pass0 (pa_cons (pv 0) (pa_cons pe_int pa_nil)))) pa_nil)) (pg_name (i := 2) sc_shares.nd rfl (Or.inl rfl))
        (pss_cons (ps_set (i := 3) sc_shares.nd rfl (Or.inl rfl) (pe_call (ok_number T) (hr.mono (by decide)) (by rfl) T.g_number T.F_number.kp T.b_number .nil pass0 (pa_cons (pv 0) pa_nil)))
      (pss_cons (ps_set (i := 4) sc_shares.nd rfl (Or.inl rfl) (pe_call (ok_number T) (hr.mono (by decide)) (by rfl) T.g_number T.F_number.kp T.b_number .nil pass0 (pa_cons (pv 0) pa_nil)))
      (pss_cons (ps_set (i := 5) sc_shares.nd rfl (Or.inl rfl) (pe_lst (pa_cons (pe_tup (pa_cons (pv 4) (pa_cons (pv 3) pa_nil))) (pa_cons (pe_tup (pa_cons (pv 4) (pa_cons pe_int pa_nil))) (pa_cons (pe_tup (pa_cons (pv 4) (pa_cons (pv 3) pa_nil))) pa_nil)))))
      (pss_cutJ (ps_if (pt_cmpR (op_neD hr.units) (pv 1) (pe_lst pa_nil) (nomark _)) (pss_one (ps_set (i := 5) sc_shares.nd rfl (Or.inl rfl) (pe_op op_cat (pv 5) (pe_lst (pa_cons (pe_ix ix_list (pv 1) (pe_un un_neg pe_int) (fun _ _ => rfl)) (pa_cons (pe_tup (pa_cons (pe_op op_sub pe_int (pe_ix ix_tup (pe_ix ix_list (pv 1) pe_int (fun _ _ => rfl)) pe_int (fun _ _ => rfl))) (pa_cons (pe_ix ix_tup (pe_ix ix_list (pv 1) pe_int (fun _ _ => rfl)) pe_int (fun _ _ => rfl)) pa_nil))) pa_nil)))))) pss_nil)
      (pss_cons (ps_asg (pe_call (ok_of T) (hr.mono (by decide)) (by rfl) T.g_of T.F_of.kp T.b_of .nil pass0 (pa_cons (pv 0) (pa_cons (pv 5) pa_nil))) (pg_tup (by rfl) (pgs_cons (pg_name (i := 4) sc_shares.nd rfl (Or.inl rfl)) (pgs_cons (pg_name (i := 3) sc_shares.nd rfl (Or.inl rfl)) pgs_nil))))
      (pss_one (ps_expr (pe_bm PySem.F.plainAttrs_list PySem.F.slot_list_append PySem.F.type_list_append mt_append (pv 1) (pa_cons (pe_tup (pa_cons (pv 4) (pa_cons (pe_ix ix_list (pe_lst (pa_cons (pv 3) (pa_cons pe_int pa_nil))) (pe_callTy call_int1 (by rfl) T.z_int (by decide +kernel) (pa_cons (pe_cmpR op_eq (pv 3) pe_int (nomark _)) pa_nil)) (fun _ _ => rfl)) pa_nil))) pa_nil))))))))))
      (pss_one (ps_ret (pv 1))))), ?_⟩
  refine ⟨Nat.zero_le _, fun f hf => ?_⟩
  have nf := dr.ne hf
  refine ⟨_, rfl, d, 8, n, rfl, by decide, log_tiny (by decide) (by decide), dr.upd nf, by omega, fun H1 r1 a1 c1 b1 dr1 => ?_⟩
  have bf1 : But d H H1 := (But.new hf).trans b1
  refine ⟨_, _, rfl, rfl, _, rfl, by omega, by omega, ?_⟩
  refine for_range (lo := 0) (n := (2 + r1).toNat) (fun i σ H' => ∃ (w2 w3 w4 w5 : Option V) (acc : List V) (ls : List (Int × Int)), σ = [some (.ref d), some (.ref f), w2, w3, w4, w5] ∧ H' f = some (.lst acc) ∧ Pls K H' acc ls ∧ GoodL ls ∧ ls.length = i ∧ But d H H' ∧ Dr PM d (n + 1 + 20 * i) H')
    ⟨_, _, _, _, [], [], rfl, b1 _ _ nf upd_same, ⟨rfl, fun i v h => by simp at h⟩, (fun _ h => nomatch h), rfl, bf1, dr1⟩ ?_ ?_
  · rintro i σ H2 hi ⟨w2, w3, w4, w5, acc, ls, rfl, ef, hP, hG, hl, b2, dr2⟩
    have eL := hP.len
    refine ⟨_, rfl, d, n + 1 + 20 * i, rfl, dr2, by omega, fun H3 g hg b3 dr3 => ?_⟩
    refine ⟨_, rfl, d, n + 5 + 20 * i, rfl, dr3.mono (by omega), by omega, fun H4 u hu b4 dr4 => ?_⟩
    have b24 := b3.trans b4
    -- some
    refine ⟨_, rfl, _, rfl, (by show 2 ≤ sizeLine; decide), fun t1 ht1 => ?_⟩
    refine ⟨_, rfl, (by show 2 ≤ sizeLine; decide), fun t2 ht2 => ?_⟩
    refine ⟨_, rfl, _, rfl, (by show 2 ≤ sizeLine; decide), fun t3 ht3 => ?_⟩
    refine ⟨(by show 3 ≤ sizeLine; decide), fun l0 hl0 => ?_⟩
    have S1 : Same H4 (upd (upd (upd (upd H4 t1 (.tup [.int u, .int g])) t2 (.tup [.int u, .int 1])) t3 (.tup [.int u, .int g])) l0 (.lst [.ref t1, .ref t2, .ref t3])) := (same_upd ht1).trans ((same_upd ht2).trans ((same_upd ht3).trans (same_upd hl0)))
    have s1 : Sz 70 1 := sz70 (by decide) (by decide)
    have dr5 := dr4.same S1
    have nl0 : l0 ≠ d := (dr4.same ((same_upd ht1).trans ((same_upd ht2).trans (same_upd ht3)))).ne hl0
    have nl24 : NL H2 H4 := dr_nl dr2 b24
    have ef5 : (upd (upd (upd (upd H4 t1 (.tup [.int u, .int g])) t2 (.tup [.int u, .int 1])) t3 (.tup [.int u, .int g])) l0 (.lst [.ref t1, .ref t2, .ref t3])) f = some (.lst acc) := S1 _ _ (b24 _ _ nf ef)
    have hP5 := hP.same (nl24.trans (NL.of S1))
    have el0 : (upd (upd (upd (upd H4 t1 (.tup [.int u, .int g])) t2 (.tup [.int u, .int 1])) t3 (.tup [.int u, .int g])) l0 (.lst [.ref t1, .ref t2, .ref t3])) l0 = some (.lst [.ref t1, .ref t2, .ref t3]) := upd_same
    have g1 := ((same_upd ht2 (o := .tup [.int u, .int 1])).trans ((same_upd ht3 (o := .tup [.int u, .int g])).trans (same_upd hl0 (o := .lst [.ref t1, .ref t2, .ref t3])))) _ _ upd_same
    have g2 := ((same_upd ht3 (o := .tup [.int u, .int g])).trans (same_upd hl0 (o := .lst [.ref t1, .ref t2, .ref t3]))) _ _ upd_same
    have g3 := (same_upd hl0 (o := .lst [.ref t1, .ref t2, .ref t3])) _ _ upd_same
    generalize upd (upd (upd (upd H4 t1 (.tup [.int u, .int g])) t2 (.tup [.int u, .int 1])) t3 (.tup [.int u, .int g])) l0 (.lst [.ref t1, .ref t2, .ref t3]) = H5 at S1 dr5 ef5 hP5 el0 g1 g2 g3 ⊢
    have three : ∀ v ∈ [V.ref t1, .ref t2, .ref t3], ∃ l : Int × Int, PV K H5 v l ∧ Sz 70 l.1 ∧ Sz 70 l.2 := fun v hv => by
      simp only [List.mem_cons, List.not_mem_nil, or_false] at hv
      rcases hv with rfl | rfl | rfl
      · exact ⟨(u, g), ⟨t1, rfl, .inl (.inl g1)⟩, hu, hg⟩
      · exact ⟨(u, 1), ⟨t2, rfl, .inl (.inl g2)⟩, hu, s1⟩
      · exact ⟨(u, g), ⟨t3, rfl, .inl (.inl g3)⟩, hu, hg⟩
    refine ⟨fun σ' H' => ∃ (sl : Addr) (ys : List V) (w2 : Option V), σ' = [some (.ref d), some (.ref f), w2, some (.int g), some (.int u), some (.ref sl)] ∧ H' sl = some (.lst ys) ∧ sl ≠ d ∧ ys ≠ [] ∧ ys.length ≤ 10 ∧ (∀ v ∈ ys, ∃ l : Int × Int, PV K H' v l ∧ Sz 70 l.1 ∧ Sz 70 l.2) ∧ Same H5 H', ?_, ?_⟩
    · refine ⟨_, rfl, Nat.zero_le _, fun e he => ?_⟩
      have z1 := same_upd he (o := .lst [])
      refine ⟨_, _, .lst (SqL.of (z1 _ _ ef5)) (hP5.same (NL.of z1)).dp, .lst (SqL.of upd_same) .nil, pairs_shaped ls, rfl, _, rfl, ?_⟩
      rw [eqv_nil, List.isEmpty_map]
      cases hls : ls with
      | nil => exact iteF ⟨l0, _, _, rfl, z1 _ _ el0, nl0, by simp, by show 3 ≤ 10; decide, fun v hv => by
          obtain ⟨l, h1, h2⟩ := three v hv
          exact ⟨l, h1.same (NL.of z1), h2⟩, z1⟩
      | cons la lr =>
        have hP6 := hP5.same (NL.of z1)
        obtain ⟨v0, hv0, tv0, rfl, ht0⟩ := hP6.get (i := 0) (l := la) (by rw [hls]; rfl)
        obtain ⟨lz, hlz⟩ : ∃ l, ls[ls.length - 1]? = some l := ⟨_, List.getElem?_eq_getElem (by rw [hls, List.length_cons]; omega)⟩
        obtain ⟨vz, hvz, hpz⟩ := hP6.get hlz
        have hat : atI acc (-1) = some vz := by
          have : acc = acc.take (ls.length - 1) ++ [vz] := by
            rw [show [vz] = acc.drop (ls.length - 1) by
              rw [List.drop_eq_getElem_cons (by rw [eL, hls, List.length_cons]; omega)]
              have e1 : acc[ls.length - 1]? = some vz := hvz
              have e2 := List.getElem?_eq_some_iff.mp e1
              rw [e2.2, List.drop_of_length_le (by omega)], List.take_append_drop]
          rw [this]
          exact atI_last _ _
        have gz := hG lz (List.mem_of_getElem? hlz)
        have ga := hG la (by rw [hls]; exact List.mem_cons_self ..)
        refine iteT ⟨_, rfl, _, rfl, 1, rfl, f, _, _, vz, rfl, rfl, SqL.of (z1 _ _ ef5), hat, ?_⟩
        refine ⟨_, rfl, f, _, _, _, rfl, rfl, SqL.of (z1 _ _ ef5), atI_nat hv0, tv0, _, _, _, rfl, rfl, ht0, atI_nat (j := 0) rfl, _, _, rfl, rfl, _, rfl, f, _, _, _, rfl, rfl, SqL.of (z1 _ _ ef5), atI_nat hv0, tv0, _, _, _, rfl, rfl, ht0, atI_nat (j := 1) rfl, (by show 2 ≤ sizeLine; decide), fun t4 ht4 => ?_⟩
        refine ⟨(by show 2 ≤ sizeLine; decide), fun l2 hl2 => ?_⟩
        have z2 := (same_upd ht4 (o := .tup [.int (0 - la.1), .int la.2])).trans (same_upd hl2 (o := .lst [vz, .ref t4]))
        refine ⟨l0, l2, _, _, rfl, rfl, z2 _ _ (z1 _ _ el0), upd_same, (by show 5 ≤ sizeLine; decide), fun l3 hl3 => ?_⟩
        have z3 := z2.trans (same_upd hl3 (o := .lst ([.ref t1, .ref t2, .ref t3] ++ [vz, .ref t4])))
        have z13 := z1.trans z3
        refine ⟨l3, _, _, rfl, upd_same, (dr5.same (z1.trans z2)).ne hl3, by simp, by show 5 ≤ 10; decide, fun v hv => ?_, z13⟩
        rcases List.mem_append.mp hv with h | h
        · obtain ⟨l, h1, h2⟩ := three v h
          exact ⟨l, h1.same (NL.of z13), h2⟩
        · simp only [List.mem_cons, List.not_mem_nil, or_false] at h
          rcases h with rfl | rfl
          · exact ⟨lz, hpz.same (NL.of z3), gz.2.1, gz.2.2⟩
          · refine ⟨(0 - la.1, la.2), ⟨t4, rfl, .inl (.inl (((same_upd hl2).trans (same_upd hl3)) _ _ upd_same))⟩, ?_, ga.2.2⟩
            have := ga.2.1
            unfold Sz at this ⊢
            show (0 - la.1).natAbs < _
            omega
    · rintro σ' H6 ⟨sl, ys, w2', rfl, esl, nsl, ne, lys, hys, S6⟩
      have dr6 := dr5.same S6
      refine ⟨_, rfl, _, rfl, d, sl, n + 9 + 20 * i, ys, rfl, nsl, SqL.of esl, ne, by omega, dr6.mono (by omega), by omega, fun H7 v hv b7 dr7 => ?_⟩
      obtain ⟨l, ⟨tt, rfl, htt⟩, z1, z2⟩ := hys v hv
      have nl7 := dr_nl dr6 b7
      refine ⟨tt, _, rfl, nl_tup nl7 htt, rfl, _, [_], rfl, _, [], rfl, rfl, ?_⟩
      have ef7 := b7 _ _ nf (S6 _ _ ef5)
      have hP7 := hP5.same ((NL.of S6).trans nl7)
      refine ⟨_, rfl, .inl ⟨rfl, _, SqL.of ef7⟩, _, rfl, _, rfl, (by show 2 ≤ sizeLine; decide), fun l4 hl4 => ?_⟩
      obtain ⟨g', hat, hg', hgs⟩ : ∃ g' : Int, atI [V.int l.2, V.int 1] (if decide (V.int l.2 = V.int 0) = true then (1 : Int) else 0) = some (.int g') ∧ g' ≠ 0 ∧ Sz 70 g' := by
        by_cases h : l.2 = 0
        · rw [decide_eq_true (show V.int l.2 = V.int 0 by rw [h])]
          exact ⟨1, rfl, by decide, s1⟩
        · rw [decide_eq_false (show ¬ V.int l.2 = V.int 0 from fun e => h (by injection e))]
          exact ⟨l.2, rfl, h, z2⟩
      refine ⟨_, rfl, rfl, .inr ⟨_, rfl, l4, _, _, _, rfl, rfl, SqL.of upd_same, hat, (by show 2 ≤ sizeLine; decide), fun t5 ht5 => ?_⟩⟩
      have z5 := (same_upd hl4 (o := .lst [.int l.2, .int 1])).trans (same_upd ht5 (o := .tup [.int l.1, .int g']))
      have ef8 := z5 _ _ ef7
      refine ⟨f, _, _, rfl, rfl, ef8, ?_, ?_⟩
      · rw [eL, hl]
        exact Nat.lt_of_lt_of_le (show i < 1000 by omega) (by decide)
      refine ⟨_, _, _, _, acc ++ [.ref t5], ls ++ [(l.1, g')], rfl, upd_same, ?_, ?_, ?_, ?_, ?_⟩
      · exact ((hP7.same (NL.of z5)).push ⟨t5, rfl, .inl (.inl upd_same)⟩).same (NL.at_ ef8)
      · intro x hx
        rcases List.mem_append.mp hx with h | h
        · exact hG x h
        · rw [List.mem_singleton.mp h]
          exact ⟨hg', z1, hgs⟩
      · rw [List.length_append, hl]
        rfl
      · exact ((((b2.trans b24).trans (But.of (S1.trans S6))).trans b7).trans (But.of z5)).mut hf
      · exact ((dr7.same z5).upd nf).mono (by omega)
  · rintro σ H2 ⟨w2, w3, w4, w5, acc, ls, rfl, ef, hP, hG, hl, b2, dr2⟩
    exact ⟨_, rfl, q H2 f acc ls ef hP hG (by omega) (by omega) b2 (dr2.mono (by omega))⟩
end
end KB
namespace KB
open PySem PySem.Spec PyProof.Rows L2 KA
section
variable {P : Program} {w : World} {K : PySem.W.Frag} {mg : Str → Option Value} {base : Heap}
def spGcd : Sp := fun vs H Q _ => ∃ a b : Int, vs = [.int a, .int b] ∧ Q (.int (Int.gcd a b : Nat)) H
theorem ok_common (T : Tx K mg) : FnOk P w K mg base CX0 1 T.A_common T.fd_common ["_law_one_here", "_law_other"] (spGcd) := by
  refine T.F_common.ok sc_common (fun vs H Q E h => ?_) (fun cdv A outer s H vs Q E hr h => ?_)
  · obtain ⟨a, b, rfl, q⟩ := h
    rfl
  obtain ⟨a, b, rfl, q⟩ := h
  refine ⟨_, (pss_cons (ps_par (i := 0) (j := 1) (by rfl) sc_common.nd rfl rfl (by decide) rfl rfl (pa_cons (pe_callB call_abs (by rfl) T.z_abs (by decide +kernel) (pa_cons (pv 0) pa_nil)) (pa_cons (pe_callB call_abs (by rfl) T.z_abs (by decide +kernel) (pa_cons (pv 1) pa_nil)) pa_nil)) (by rfl))
      (pss_cons (ps_while PassesOwn.never (pt_cmpR op_ne (pv 1) pe_int (nomark _)) (pss_one (ps_par (i := 0) (j := 1) (by rfl) sc_common.nd rfl rfl (by decide) rfl rfl (pa_cons (pv 1) (pa_cons (pe_op op_mod (pv 0) (pv 1)) pa_nil)) (by rfl))))
      (pss_one (ps_ret (pv 0))))), ?_⟩
  refine ⟨_, rfl, _, rfl, _, rfl, _, rfl, _, _, rfl, ?_⟩
  refine while_by (fun σ H' => ∃ x y : Nat, σ = [some (.int x), some (.int y)] ∧ Nat.gcd x y = Int.gcd a b ∧ H' = H) (fun σ _ => match σ with | [_, some (.int y)] => y.toNat | _ => 0) ⟨a.natAbs, b.natAbs, ?_, rfl, rfl⟩ ?_ ?_
  · show [some (V.int (if a < 0 then -a else a)), some (V.int (if b < 0 then -b else b))] = _
    rw [abs_nat, abs_nat]
  · rintro σ H' ⟨x, y, rfl, hg, rfl⟩
    refine ⟨_, rfl, rfl, _, rfl, ?_⟩
    by_cases hy : y = 0
    · subst hy
      rw [decide_eq_true (show V.int ((0 : Nat) : Int) = V.int 0 from rfl)]
      rw [Nat.gcd_zero_right] at hg
      subst hg
      exact iteF ⟨_, rfl, q⟩
    · rw [decide_eq_false (show ¬ V.int (y : Int) = V.int 0 from fun e => hy (by injection e with e; omega))]
      refine iteT ⟨_, rfl, _, rfl, _, rfl, _, _, rfl, rfl, (by show (0 : Int) < (y : Int); omega), _, _, rfl, ⟨y, x % y, ?_, ?_, rfl⟩, ?_⟩
      · show [some (V.int (y : Int)), some (V.int ((x : Int) % (y : Int)))] = _
        rw [← Int.natCast_emod]
      · rw [gcd_turn x y (by omega), hg]
      · show ((x : Int) % (y : Int)).toNat < ((y : Nat) : Int).toNat
        have := Int.emod_lt_of_pos (x : Int) (show (0 : Int) < (y : Int) by omega)
        omega
  · rintro σ H' Q1 Q2 hQ ⟨v, h1, h2, k, h4, z⟩
    exact ⟨v, h1, h2, k, h4, hQ _ _ z⟩
theorem dec_int (a b : Int) : decide (V.int a = V.int b) = decide (a = b) := by
  rw [decide_eq_decide]
  exact ⟨fun e => by injection e, fun e => by rw [e]⟩
theorem ifEqF {b : Bool} {A B : Prop} (e : b = false) (h : B) : (if b = true then A else B) := by rw [e]; exact iteF h
theorem ifEqT {b : Bool} {A B : Prop} (e : b = true) (h : A) : (if b = true then A else B) := by rw [e]; exact iteT h
def spIs (C : Addr) : Sp := fun vs H Q _ => ∃ (p : Addr) (x : Int × Int) (u g : Int) (k m : Nat), vs = [.ref p, .int u, .int g] ∧ ShAt C H p x ∧ Ok k x ∧ Int.gcd x.1 x.2 = 1 ∧ Eqf x u g ∧ Sz m u ∧ Sz m g ∧ k ≤ 5000 ∧ m ≤ 5000 ∧ Q (.bl true) H
theorem ok_is (T : Tx K mg) : FnOk P w K mg base CX0 2 T.A_is T.fd_is ["_law_share", "_law_upper", "_law_ground"] (spIs T.C_Share) := by
  refine T.F_is.ok sc_is (fun vs H Q E h => ?_) (fun cdv A outer s H vs Q E hr h => ?_)
  · obtain ⟨p, x, u, g, k, m, rfl, ⟨dx, hp⟩, ⟨x0, x1, x2⟩, low, eq, hu, hg, hk, hm, q⟩ := h
    rfl
  obtain ⟨p, x, u, g, k, m, rfl, ⟨dx, hp⟩, ⟨x0, x1, x2⟩, low, eq, hu, hg, hk, hm, q⟩ := h
  refine ⟨_, (pss_cons (ps_if (PW.pt (pw_or (pt_not (pt_val (pe_callB call_isi (by rfl) T.z_isinstance (by decide +kernel) (pa_cons (pv 0) (pa_cons (pe_glob (v := .ref T.C_Share) (by rfl) T.g_Share rfl) pa_nil))))) (pw_or (pt_cmpR op_lt (pe_fld (pv 0) rfl) pe_int (nomark _)) (pw_or1 (pt_cmpR op_ne (pe_call (ok_common T) (hr.mono (by decide)) (by rfl) T.g_common T.F_common.kp T.b_common .nil pass0 (pa_cons (pe_fld (pv 0) rfl) (pa_cons (pe_fld (pv 0) rfl) pa_nil))) pe_int (nomark _)))))) (pss_one (ps_ret pe_bl)) pss_nil)
      (pss_one (ps_ret (pe_cmpR op_eq (pe_op op_mulW (pe_fld (pv 0) rfl) (pv 2)) (pe_op op_mulW (pv 1) (pe_fld (pv 0) rfl)) (nomark _))))), ?_⟩
  refine ⟨_, rfl, .ref p, .ref T.C_Share, .ref T.C_Share, .ref T.C_Share, true, rfl, .own _, T.i_Share.ty T.cl_Share hp, T.i_Share.kit, _, rfl, ?_⟩
  refine iteF ⟨_, rfl, p, _, dx, _, _, rfl, hp, T.cl_Share, T.n_Share_over, sf_over x, _, _, rfl, rfl, _, rfl, ?_⟩
  rw [decide_eq_false (show ¬ x.2 < 1 by omega)]
  refine iteF ⟨_, rfl, p, _, dx, _, _, rfl, hp, T.cl_Share, T.n_Share_num, sf_num x, _, rfl, p, _, dx, _, _, rfl, hp, T.cl_Share, T.n_Share_over, sf_over x, x.1, x.2, rfl, rfl, _, rfl, ?_⟩
  rw [low, decide_eq_true (show V.int ((1 : Nat) : Int) = V.int 1 from rfl)]
  refine iteF ?_
  refine ⟨_, rfl, p, _, dx, _, _, rfl, hp, T.cl_Share, T.n_Share_num, sf_num x, _, rfl, _, _, rfl, rfl, x1.mw hg (by omega), _, rfl, _, rfl, p, _, dx, _, _, rfl, hp, T.cl_Share, T.n_Share_over, sf_over x, _, _, rfl, rfl, hu.mw x2 (by omega), rfl, ?_⟩
  show Q (.bl (decide (V.int (x.1 * g) = V.int (u * x.2)))) H
  rw [dec_int, decide_eq_true (show x.1 * g = u * x.2 from eq)]
  exact q
def spTwoR (K : PySem.W.Frag) : Sp := fun vs H Q _ => ∃ (v v' : V) (l m : Int × Int), vs = [v, v'] ∧ PV K H v l ∧ PV K H v' m ∧ (l.2 ≠ 0 ∧ Sz 70 l.1 ∧ Sz 70 l.2) ∧ (m.2 ≠ 0 ∧ Sz 70 m.1 ∧ Sz 70 m.2) ∧ ∀ H', Same H H' → Q (.bl true) H'
theorem ok_two_right (T : Tx K mg) : FnOk P w K mg base CX0 5 T.A_two_right T.fd_two_right ["_law_one_here", "_law_other"] (spTwoR K) := by
  refine T.F_two_right.ok sc_two_right (fun vs H Q E h => ?_) (fun cdv A outer s H vs Q E hr h => ?_)
  · obtain ⟨v, v', l, m, rfl, ⟨t1, rfl, ht1⟩, ⟨t2, rfl, ht2⟩, gl, gm, q⟩ := h
    rfl
  obtain ⟨v, v', l, m, rfl, ⟨t1, rfl, ht1⟩, ⟨t2, rfl, ht2⟩, gl, gm, q⟩ := h
  refine ⟨_, (pss_cons (ps_asg (pv 0) (pg_tup (by rfl) (pgs_cons (pg_name (i := 2) sc_two_right.nd rfl (Or.inl rfl)) (pgs_cons (pg_name (i := 3) sc_two_right.nd rfl (Or.inl rfl)) pgs_nil))))
      (pss_cons (ps_asg (pv 1) (pg_tup (by rfl) (pgs_cons (pg_name (i := 4) sc_two_right.nd rfl (Or.inl rfl)) (pgs_cons (pg_name (i := 5) sc_two_right.nd rfl (Or.inl rfl)) pgs_nil))))
      (pss_cons (ps_set (i := 6) sc_two_right.nd rfl (Or.inl rfl) (pe_make T.mk_Share (ok_Share_init T) (hr.mono (by decide)) (by rfl) T.g_Share T.b_Share_init .nil pass0 (pa_cons (pv 2) (pa_cons (pv 3) pa_nil))))
      (pss_cons (ps_set (i := 7) sc_two_right.nd rfl (Or.inl rfl) (pe_makeN T.mk_Share (ok_Share_init T) (hr.mono (by decide)) (by rfl) T.g_Share T.kb_Share pass0 (pa_cons (pv 4) pa_nil) (pk_cons (pv 5) pk_nil)))
      (pss_cons (ps_if (pt_not (pt_val (pe_call (ok_is T) (hr.mono (by decide)) (by rfl) T.g_is T.F_is.kp T.b_is .nil pass0 (pa_cons (pe_meth (pv 6) T.cl_Share T.m_Share_plus (ok_Share_plus T) (hr.mono (by decide)) T.b_Share_plus .nil pass0 (pa_cons (pv 7) pa_nil)) (pa_cons (pe_op op_add (pe_op op_mulW (pv 2) (pv 5)) (pe_op op_mulW (pv 4) (pv 3))) (pa_cons (pe_op op_mulW (pv 3) (pv 5)) pa_nil)))))) (pss_one (ps_ret pe_bl)) pss_nil)
      (pss_cons (ps_if (pt_not (pt_val (pe_call (ok_is T) (hr.mono (by decide)) (by rfl) T.g_is T.F_is.kp T.b_is .nil pass0 (pa_cons (pe_meth (pv 6) T.cl_Share T.m_Share_minus (ok_Share_minus T) (hr.mono (by decide)) T.b_Share_minus .nil pass0 (pa_cons (pv 7) pa_nil)) (pa_cons (pe_op op_sub (pe_op op_mulW (pv 2) (pv 5)) (pe_op op_mulW (pv 4) (pv 3))) (pa_cons (pe_op op_mulW (pv 3) (pv 5)) pa_nil)))))) (pss_one (ps_ret pe_bl)) pss_nil)
      (pss_cons (ps_if (pt_not (pt_val (pe_call (ok_is T) (hr.mono (by decide)) (by rfl) T.g_is T.F_is.kp T.b_is .nil pass0 (pa_cons (pe_meth (pv 6) T.cl_Share T.m_Share_times (ok_Share_times T) (hr.mono (by decide)) T.b_Share_times .nil pass0 (pa_cons (pv 7) pa_nil)) (pa_cons (pe_op op_mulW (pv 2) (pv 4)) (pa_cons (pe_op op_mulW (pv 3) (pv 5)) pa_nil)))))) (pss_one (ps_ret pe_bl)) pss_nil)
      (pss_cons (ps_set (i := 8) sc_two_right.nd rfl (Or.inl rfl) (pe_ix ix_list (pe_lst (pa_cons pe_int (pa_cons (pe_un un_neg pe_int) pa_nil))) (pe_callTy call_int1 (by rfl) T.z_int (by decide +kernel) (pa_cons (pe_cmpR op_lt (pe_op op_mulW (pv 3) (pv 5)) pe_int (nomark _)) pa_nil)) (fun _ _ => rfl)))
      (pss_cons (ps_set (i := 9) sc_two_right.nd rfl (Or.inl rfl) (pe_meth (pv 6) T.cl_Share T.m_Share_is_below (ok_Share_is_below T) (hr.mono (by decide)) T.b_Share_is_below .nil pass0 (pa_cons (pv 7) pa_nil)))
      (pss_cons (ps_if (PW.pt (pw_or (pt_not (pt_val (pe_callB call_isi (by rfl) T.z_isinstance (by decide +kernel) (pa_cons (pv 9) (pa_cons (pe_bltn (v := .ty "bool") (by rfl) T.z_bool (by decide +kernel) rfl) pa_nil))))) (pw_or1 (pt_cmpR op_ne (pv 9) (pe_cmpR op_lt (pe_op op_mulW (pe_op op_mulW (pv 8) (pv 2)) (pv 5)) (pe_op op_mulW (pe_op op_mulW (pv 8) (pv 4)) (pv 3)) (nomark _)) (nomark _))))) (pss_one (ps_ret pe_bl)) pss_nil)
      (pss_cons (ps_if (pt_cmpR op_ne (pe_meth (pv 7) T.cl_Share T.m_Share_is_below (ok_Share_is_below T) (hr.mono (by decide)) T.b_Share_is_below .nil pass0 (pa_cons (pv 6) pa_nil)) (pe_cmpR op_lt (pe_op op_mulW (pe_op op_mulW (pv 8) (pv 4)) (pv 3)) (pe_op op_mulW (pe_op op_mulW (pv 8) (pv 2)) (pv 5)) (nomark _)) (nomark _)) (pss_one (ps_ret pe_bl)) pss_nil)
      (pss_one (ps_ret (pe_and (pe_cmpR (op_eqG (rcG_ins (E := E0) (ok_Share_eq T) T.m_Share_eq.at_ T.m_Share_eq.fn T.b_Share_eq pass0) (hr.mono (by decide))) (pv 6) (pe_make T.mk_Share (ok_Share_init T) (hr.mono (by decide)) (by rfl) T.g_Share T.b_Share_init .nil pass0 (pa_cons (pv 2) (pa_cons (pv 3) pa_nil))) (nomark _)) (pe_one (pe_cmpR (op_eqG (rcG_ins (E := E0) (ok_Share_eq T) T.m_Share_eq.at_ T.m_Share_eq.fn T.b_Share_eq pass0) (hr.mono (by decide))) (pv 7) (pe_make T.mk_Share (ok_Share_init T) (hr.mono (by decide)) (by rfl) T.g_Share T.b_Share_init .nil pass0 (pa_cons (pv 4) (pa_cons (pv 5) pa_nil))) (nomark _))))))))))))))))), ?_⟩
  obtain ⟨a, b⟩ := l
  obtain ⟨c, d⟩ := m
  obtain ⟨b0, sa, sb⟩ := gl
  obtain ⟨d0, sc, sd⟩ := gm
  have b0 : b ≠ 0 := b0
  have d0 : d ≠ 0 := d0
  have sa : Sz 70 a := sa
  have sb : Sz 70 b := sb
  have sc : Sz 70 c := sc
  have sd : Sz 70 d := sd
  have ok1 : Ok 70 (shr a b) := good_ok (l := (a, b)) ⟨b0, sa, sb⟩
  have ok2 : Ok 70 (shr c d) := good_ok (l := (c, d)) ⟨d0, sc, sd⟩
  have q1 := shr_eqf a b
  have q2 := shr_eqf c d
  have mad := sa.mul sd
  have mcb := sc.mul sb
  have mbd := sb.mul sd
  have o12 : (shr a b).2 * (shr c d).2 ≠ 0 := Int.mul_ne_zero (by have := ok1.1; omega) (by have := ok2.1; omega)
  refine ⟨_, rfl, t1, _, rfl, ht1, rfl, _, [_], rfl, _, [], rfl, rfl, ?_⟩
  refine ⟨_, rfl, t2, _, rfl, ht2, rfl, _, [_], rfl, _, [], rfl, rfl, ?_⟩
  -- first, second
  refine ⟨_, rfl, _, rfl, ?_⟩
  intro r1 e1 n1 m1 ne1
  refine ⟨r1, e1, a, b, 70, rfl, upd_same, b0, sb, by decide, fun H1 h1 k1 => ⟨rfl, ?_⟩⟩
  have s1 := made_same n1 m1 k1
  refine ⟨_, rfl, _, rfl, rfl, rfl, ?_⟩
  intro r2 e2 n2 m2 ne2
  refine ⟨r2, e2, c, d, 70, rfl, upd_same, d0, sd, by decide, fun H2 h2 k2 => ⟨rfl, ?_⟩⟩
  have s2 := made_same n2 m2 k2
  have h1 := h1.same (NL.of s2)
  obtain ⟨dx1, g1⟩ := id h1
  obtain ⟨dx2, g2⟩ := id h2
  -- plus
  refine ⟨_, rfl, r1, dx1, _, rfl, g1, sf_no _ (by decide +kernel) (by decide +kernel), _, rfl, r1, r2, _, _, 70, 70, rfl, h1, h2, ok1, ok2, by decide, by decide, fun H3 r3 s3 h3 => ?_⟩
  have ok3 : Ok 141 (fPlus (shr a b) (shr c d)) := plus_sz ok1 ok2 (by decide)
  refine ⟨_, rfl, _, rfl, _, _, rfl, rfl, sa.mw sd (by decide), _, rfl, _, rfl, _, _, rfl, rfl, sc.mw sb (by decide), _, _, rfl, rfl, _, rfl, _, rfl, _, _, rfl, rfl, sb.mw sd (by decide), ?_⟩
  refine ⟨r3, _, _, _, 141, 141, rfl, h3, ok3, shr_low o12, eqf_plus q1 q2 ok1.1 ok2.1, Sz.add mad mcb, mbd.mono (by decide), by decide, by decide, _, rfl, ?_⟩
  refine iteF ?_
  have h1 := h1.same (NL.of s3)
  have h2 := h2.same (NL.of s3)
  -- minus
  have g1 := s3 _ _ g1
  refine ⟨_, rfl, r1, dx1, _, rfl, g1, sf_no _ (by decide +kernel) (by decide +kernel), _, rfl, r1, r2, _, _, 70, 70, rfl, h1, h2, ok1, ok2, by decide, by decide, fun H4 r4 s4 h4 => ?_⟩
  have ok4 : Ok 141 (fMinus (shr a b) (shr c d)) := by
    have z := shr_sz (k := 141) o12 (Sz.sub (ok1.2.1.mul ok2.2.2) (ok2.2.1.mul ok1.2.2)) ((ok1.2.2.mul ok2.2.2).mono (by decide))
    exact ⟨shr_pos o12, z.1, z.2⟩
  refine ⟨_, rfl, _, rfl, _, _, rfl, rfl, sa.mw sd (by decide), _, rfl, _, rfl, _, _, rfl, rfl, sc.mw sb (by decide), _, _, rfl, rfl, _, rfl, _, rfl, _, _, rfl, rfl, sb.mw sd (by decide), ?_⟩
  refine ⟨r4, _, _, _, 141, 141, rfl, h4, ok4, shr_low o12, eqf_minus q1 q2 ok1.1 ok2.1, Sz.sub mad mcb, mbd.mono (by decide), by decide, by decide, _, rfl, ?_⟩
  refine iteF ?_
  have h1 := h1.same (NL.of s4)
  have h2 := h2.same (NL.of s4)
  have g1 := s4 _ _ g1
  -- times
  refine ⟨_, rfl, r1, dx1, _, rfl, g1, sf_no _ (by decide +kernel) (by decide +kernel), _, rfl, r1, r2, _, _, 70, 70, rfl, h1, h2, ok1, ok2, by decide, by decide, fun H5 r5 s5 h5 => ?_⟩
  have ok5 : Ok 141 (fTimes (shr a b) (shr c d)) := by
    have z := shr_sz (k := 141) o12 ((ok1.2.1.mul ok2.2.1).mono (by decide)) ((ok1.2.2.mul ok2.2.2).mono (by decide))
    exact ⟨shr_pos o12, z.1, z.2⟩
  refine ⟨_, rfl, _, rfl, _, _, rfl, rfl, sa.mw sc (by decide), _, rfl, _, rfl, _, _, rfl, rfl, sb.mw sd (by decide), ?_⟩
  refine ⟨r5, _, _, _, 141, 141, rfl, h5, ok5, shr_low o12, eqf_times q1 q2 ok1.1 ok2.1, (sa.mul sc).mono (by decide), mbd.mono (by decide), by decide, by decide, _, rfl, ?_⟩
  refine iteF ?_
  have h1 := h1.same (NL.of s5)
  have h2 := h2.same (NL.of s5)
  have g1 := s5 _ _ g1
  have g2 := s5 _ _ (s4 _ _ (s3 _ _ g2))
  have s25 := (s3.trans s4).trans s5
  have sH := (s1.trans s2).trans s25
  -- sign
  refine ⟨1, rfl, (by show 2 ≤ sizeLine; decide), fun l1 hl1 => ?_⟩
  have hat : atI [V.int 1, V.int (-1)] (if decide (b * d < 0) = true then (1 : Int) else 0) = some (.int (sgn (b * d))) := by
    by_cases h : b * d < 0
    · rw [decide_eq_true h]
      show _ = some (V.int (if b * d < 0 then -1 else 1))
      rw [if_pos h]
      rfl
    · rw [decide_eq_false h]
      show _ = some (V.int (if b * d < 0 then -1 else 1))
      rw [if_neg h]
      rfl
  refine ⟨_, rfl, _, rfl, _, _, rfl, rfl, sb.mw sd (by decide), _, _, rfl, rfl, .inr ⟨_, rfl, l1, _, _, _, rfl, rfl, SqL.of upd_same, hat, ?_⟩⟩
  have sL := same_upd (H := H5) hl1 (o := .lst [.int 1, .int (-1)])
  have h1 := h1.same (NL.of sL)
  have h2 := h2.same (NL.of sL)
  have g1 := sL _ _ g1
  have g2 := sL _ _ g2
  have sH := sH.trans sL
  have ssg : Sz 2 (sgn (b * d)) := by
    show (sgn (b * d)).natAbs < 2 ^ 2
    unfold sgn
    split <;> decide
  have ksg : sgn (d * b) = sgn (b * d) := by rw [Int.mul_comm]
  -- below
  refine ⟨_, rfl, r1, dx1, _, rfl, g1, sf_no _ (by decide +kernel) (by decide +kernel), _, rfl, r1, r2, _, _, 70, 70, rfl, h1, h2, ok1, ok2, by decide, by decide, ?_⟩
  have b12 : decide ((shr a b).1 * (shr c d).2 < (shr c d).1 * (shr a b).2) = decide (sgn (b * d) * a * d < sgn (b * d) * c * b) := by
    rw [decide_eq_decide]
    exact below_iff q1 q2 ok1.1 ok2.1 b0 d0
  have b21 : decide ((shr c d).1 * (shr a b).2 < (shr a b).1 * (shr c d).2) = decide (sgn (b * d) * c * b < sgn (b * d) * a * d) := by
    rw [decide_eq_decide, ← ksg]
    exact below_iff q2 q1 ok2.1 ok1.1 d0 b0
  obtain ⟨t9, ty9, k9⟩ := isi_bool (K := K) (H := upd H5 l1 (HO.lst [V.int 1, V.int (-1)])) (Th.bl (decide ((shr a b).1 * (shr c d).2 < (shr c d).1 * (shr a b).2)))
  refine ⟨_, rfl, _, _, _, _, _, rfl, .ty _, ty9, k9, _, rfl, ?_⟩
  refine iteF ⟨_, rfl, _, rfl, _, rfl, _, _, rfl, rfl, ssg.mw sa (by decide), _, rfl, _, _, rfl, rfl, (ssg.mul sa).mw sd (by decide), _, rfl, _, rfl, _, _, rfl, rfl, ssg.mw sc (by decide), _, rfl, _, _, rfl, rfl, (ssg.mul sc).mw sb (by decide), _, _, rfl, rfl, rfl, _, rfl, ?_⟩
  refine ifEqF (by rw [decide_eq_true (congrArg V.bl b12)]; rfl) ?_
  refine ⟨_, rfl, r2, dx2, _, rfl, g2, sf_no _ (by decide +kernel) (by decide +kernel), _, rfl, r2, r1, _, _, 70, 70, rfl, h2, h1, ok2, ok1, by decide, by decide, ?_⟩
  refine ⟨_, rfl, _, rfl, _, _, rfl, rfl, ssg.mw sc (by decide), _, rfl, _, _, rfl, rfl, (ssg.mul sc).mw sb (by decide), _, rfl, _, rfl, _, _, rfl, rfl, ssg.mw sa (by decide), _, rfl, _, _, rfl, rfl, (ssg.mul sa).mw sd (by decide), _, _, rfl, rfl, rfl, _, rfl, ?_⟩
  refine ifEqF (by rw [decide_eq_true (congrArg V.bl b21)]; rfl) ?_
  refine ⟨_, rfl, _, rfl, _, rfl, ?_⟩
  intro r6 e6 n6 m6 ne6
  refine ⟨r6, e6, a, b, 70, rfl, upd_same, b0, sb, by decide, fun H6 h6 k6 => ⟨rfl, ?_⟩⟩
  have s6 := made_same n6 m6 k6
  have h1 := h1.same (NL.of s6)
  have h2 := h2.same (NL.of s6)
  have sH := sH.trans s6
  obtain ⟨y1, w1⟩ := id h1
  obtain ⟨y6, w6⟩ := id h6
  refine ⟨⟨r1, r6, _, _, _, _, rfl, rfl, w1, w6, _, h1, h6⟩, fun H7 x7 => ⟨_, rfl, iteT ?_⟩⟩
  have s7 : Same H6 H7 := fun b o e => x7 b o e
  have h2 := h2.same (NL.of s7)
  have sH := sH.trans s7
  refine ⟨_, rfl, _, rfl, _, rfl, ?_⟩
  intro r8 e8 n8 m8 ne8
  refine ⟨r8, e8, c, d, 70, rfl, upd_same, d0, sd, by decide, fun H8 h8 k8 => ⟨rfl, ?_⟩⟩
  have s8 := made_same n8 m8 k8
  have h2 := h2.same (NL.of s8)
  obtain ⟨y2, w2⟩ := id h2
  obtain ⟨y8, w8⟩ := id h8
  refine ⟨⟨r2, r8, _, _, _, _, rfl, rfl, w2, w8, _, h2, h8⟩, fun H9 x9 => ?_⟩
  exact q H9 ((sH.trans s8).trans fun b o e => x9 b o e)
end
end KB
namespace KB
open PySem PySem.Spec PyProof.Rows L2 KA
section
variable {P : Program} {w : World} {K : PySem.W.Frag} {mg : Str → Option Value} {base : Heap}
theorem size_take {ls : List (Int × Int)} (hG : GoodL ls) : ∀ i : Nat, Sz (71 * i + 1) (NN (ls.take i)) ∧ Sz (71 * i + 1) (PP (ls.take i))
  | 0 => by
    rw [List.take_zero]
    exact ⟨by show (0 : Int).natAbs < 2 ^ 1; decide, by show (1 : Int).natAbs < 2 ^ 1; decide⟩
  | i + 1 => by
    obtain ⟨h1, h2⟩ := size_take hG i
    cases hl : ls[i]? with
    | none =>
      have : ls.take (i + 1) = ls.take i := by rw [List.take_add_one, hl]; simp
      rw [this]
      exact ⟨h1.mono (by omega), h2.mono (by omega)⟩
    | some l =>
      have e : ls.take (i + 1) = ls.take i ++ [l] := by rw [List.take_add_one, hl]; rfl
      obtain ⟨g0, g1, g2⟩ := hG l (List.mem_of_getElem? hl)
      rw [e, NN_snoc, PP_snoc]
      exact ⟨(Sz.add (h1.mul g2) ((g1.mul h2).mono (by omega : 70 + (71 * i + 1) ≤ 71 * i + 1 + 70))).mono (by omega), (h2.mul g2).mono (by omega)⟩
theorem size_all {ls : List (Int × Int)} (hG : GoodL ls) (hl : ls.length ≤ 9) : Sz 700 (NN ls) ∧ Sz 700 (PP ls) := by
  have h := size_take hG ls.length
  rw [List.take_of_length_le (Nat.le_refl _)] at h
  exact ⟨h.1.mono (by omega), h.2.mono (by omega)⟩
theorem GoodL.rev {ls : List (Int × Int)} (h : GoodL ls) : GoodL ls.reverse := fun l hl => h l (List.mem_reverse.mp hl)
theorem at_any {xs : List V} {k : Nat} (hk : k < xs.length) : ∃ (i : Nat) (v : V), atI xs ((k : Int) - 1) = some v ∧ xs[i]? = some v := by
  cases k with
  | zero =>
    obtain ⟨ys, v, rfl⟩ : ∃ ys v, xs = ys ++ [v] := by
      rcases List.eq_nil_or_concat xs with h | ⟨ys, v, h⟩
      · rw [h] at hk
        exact absurd hk (Nat.not_lt_zero _)
      · exact ⟨ys, v, by rw [h, List.concat_eq_append]⟩
    exact ⟨ys.length, v, atI_last ys v, by rw [List.getElem?_append_right (Nat.le_refl _), Nat.sub_self]; rfl⟩
  | succ k =>
    refine ⟨k, xs[k], ?_, List.getElem?_eq_getElem (by omega)⟩
    have e : (((k + 1 : Nat) : Int) - 1) = (k : Int) := by omega
    rw [e]
    exact atI_nat (List.getElem?_eq_getElem (by omega))
def spLaw (K : PySem.W.Frag) : Sp := fun vs H Q _ => ∃ (a : Addr) (ns : List Int), vs = [.ref a] ∧ SqL K H a (ns.map V.int) ∧ ns.length ≤ 63 ∧ ∀ H', Q (.bl true) H'
theorem ok_law {f : Addr} {fd : FuncData} (T : Tx K mg) (F : Fun K "law" "law" s_law f fd) : FnOk P w K mg base CX0 6 f fd ["_law_script"] (spLaw K) := by
  refine F.ok sc_law (fun vs H Q E h => ?_) (fun cdv A outer s H vs Q E hr h => ?_)
  · obtain ⟨a, ns, rfl, hS, hlen, q⟩ := h
    rfl
  obtain ⟨a, ns, rfl, hS, hlen, q⟩ := h
  refine ⟨_, (pss_cons (ps_for PassesOwn.never rfl (pi_list (pe_op op_cat (pe_lst (pa_cons (pe_call (ok_cell_at T) (hr.mono (by decide)) (by rfl) T.g_cell_at T.F_cell_at.kp T.b_cell_at .nil pass0 (pa_cons (pv 0) (pa_cons pe_int pa_nil))) pa_nil)) (pe_slice sl_list (pv 0) (po_some pe_int) (po_some pe_int)))) (pg_name (i := 1) sc_law.nd rfl (Or.inl rfl))
        (pss_cons (ps_set (i := 2) sc_law.nd rfl (Or.inl rfl) (pe_call (ok_shares T) (hr.mono (by decide)) (by rfl) T.g_shares T.F_shares.kp T.b_shares .nil pass0 (pa_cons (pe_call (ok_draws T) (hr.mono (by decide)) (by rfl) T.g_draws T.F_draws.kp T.b_draws .nil pass0 (pa_cons (pv 1) pa_nil)) pa_nil)))
      (pss_cons (ps_asg (pe_tup (pa_cons pe_int (pa_cons pe_int pa_nil))) (pg_tup (by rfl) (pgs_cons (pg_name (i := 3) sc_law.nd rfl (Or.inl rfl)) (pgs_cons (pg_name (i := 4) sc_law.nd rfl (Or.inl rfl)) pgs_nil))))
      (pss_cons (ps_for PassesOwn.never rfl (pi_list (pv 2)) (pg_tup (by rfl) (pgs_cons (pg_name (i := 5) sc_law.nd rfl (Or.inl rfl)) (pgs_cons (pg_name (i := 6) sc_law.nd rfl (Or.inl rfl)) pgs_nil)))
        (pss_one (ps_par (i := 3) (j := 4) (by rfl) sc_law.nd rfl rfl (by decide) rfl rfl (pa_cons (pe_op op_add (pe_op op_mulW (pv 3) (pv 6)) (pe_op op_mulW (pv 5) (pv 4))) (pa_cons (pe_op op_mulW (pv 4) (pv 6)) pa_nil)) (by rfl))))
      (pss_cons (ps_setLc (i := 7) (own := [("_law_a", 5), ("_law_b", 6)]) (g := gTup K 2 (gCons (gName 5) (gCons (gName 6) gNil))) (tt := tYes) rfl sc_law.nd rfl rfl (sw_true rfl rfl rfl (by decide +kernel)) (pi_list (pv 2)) (blkOk_by (N := ["_law_script", "_law_cell", "_law_rows", "_law_upper", "_law_ground", "_law_a", "_law_b", "_law_shares_here", "_law_turn", "_law_k"]) (sc := defScope s_law) (by decide +kernel)) (fun _ _ _ _ _ => (pg_tupK (K' := K) rfl (by rfl) (pgs_cons (pg_name (i := 5) sc_law.nd rfl (Or.inl rfl)) (pgs_cons (pg_name (i := 6) sc_law.nd rfl (Or.inl rfl)) pgs_nil)))) (fun _ _ _ _ _ => pts_nil) (fun _ _ _ _ _ => (pe_make T.mk_Share (ok_Share_init T) (hr.mono (by decide)) (by rfl) T.g_Share T.b_Share_init .nil pass0 (pa_cons (pv 5) (pa_cons (pv 6) pa_nil)))))
      (pss_cons (ps_for PassesOwn.never rfl (pi_range1 (by rfl) T.z_range (pa_cons pe_int pa_nil)) (pg_name (i := 8) sc_law.nd rfl (Or.inl rfl))
        (pss_cons (ps_if (pt_not (pt_val (pe_call (ok_is T) (hr.mono (by decide)) (by rfl) T.g_is T.F_is.kp T.b_is .nil pass0 (pa_cons (pe_call (ok_shares_sum T) (hr.mono (by decide)) (by rfl) T.g_shares_sum T.F_shares_sum.kp T.b_shares_sum .nil pass0 (pa_cons (pv 7) pa_nil)) (pa_cons (pv 3) (pa_cons (pv 4) pa_nil)))))) (pss_one (ps_ret pe_bl)) pss_nil)
      (pss_one (ps_expr (pe_bm0 PySem.F.plainAttrs_list PySem.F.slot_list_reverse PySem.F.type_list_reverse mt_reverse (pv 7))))))
      (pss_cons (ps_if (PW.pt (pw_or (pt_cmpR (op_neG mon_Share (eqG_ins (E := E0) (ok_Share_eq T) T.m_Share_eq.at_ T.m_Share_eq.fn T.b_Share_eq pass0) (hr.mono (by decide))) (pv 7) (pe_lc (own := [("_law_a", 5), ("_law_b", 6)]) (g := gTup K 2 (gCons (gName 5) (gCons (gName 6) gNil))) (tt := tYes) rfl sc_law.nd (pi_list (pv 2)) (blkOk_by (N := ["_law_script", "_law_cell", "_law_rows", "_law_upper", "_law_ground", "_law_a", "_law_b", "_law_shares_here", "_law_turn", "_law_k"]) (sc := defScope s_law) (by decide +kernel)) (fun _ _ _ _ _ => (pg_tupK (K' := K) rfl (by rfl) (pgs_cons (pg_name (i := 5) sc_law.nd rfl (Or.inl rfl)) (pgs_cons (pg_name (i := 6) sc_law.nd rfl (Or.inl rfl)) pgs_nil)))) (fun _ _ _ _ _ => pts_nil) (fun _ _ _ _ _ => (pe_make T.mk_Share (ok_Share_init T) (hr.mono (by decide)) (by rfl) T.g_Share T.b_Share_init .nil pass0 (pa_cons (pv 5) (pa_cons (pv 6) pa_nil))))) (nomark _)) (pw_or1 (pt_cmpR op_ne (pe_callB call_len_seq (by rfl) T.z_len PySem.boot_len (pa_cons (pv 7) pa_nil)) (pe_callB call_len_seq (by rfl) T.z_len PySem.boot_len (pa_cons (pv 2) pa_nil)) (nomark _))))) (pss_one (ps_ret pe_bl)) pss_nil)
      (pss_one (ps_for PassesOwn.never rfl (pi_range1 (by rfl) T.z_range (pa_cons (pe_callB call_len_seq (by rfl) T.z_len PySem.boot_len (pa_cons (pv 2) pa_nil)) pa_nil)) (pg_name (i := 9) sc_law.nd rfl (Or.inl rfl))
        (pss_one (ps_if (PW.pt (pw_or (pt_not (pt_val (pe_call (ok_two_right T) (hr.mono (by decide)) (by rfl) T.g_two_right T.F_two_right.kp T.b_two_right .nil pass0 (pa_cons (pe_ix ix_list (pv 2) (pv 9) (fun _ _ => rfl)) (pa_cons (pe_ix ix_list (pv 2) (pe_op op_sub (pv 9) pe_int) (fun _ _ => rfl)) pa_nil))))) (pw_or1 (pt_not (pt_val (pe_call (ok_two_right T) (hr.mono (by decide)) (by rfl) T.g_two_right T.F_two_right.kp T.b_two_right .nil pass0 (pa_cons (pe_ix ix_list (pv 2) (pv 9) (fun _ _ => rfl)) (pa_cons (pe_ix ix_list (pv 2) (pv 9) (fun _ _ => rfl)) pa_nil)))))))) (pss_one (ps_ret pe_bl)) pss_nil)))))))))))
      (pss_one (ps_ret (pe_call (ok_is T) (hr.mono (by decide)) (by rfl) T.g_is T.F_is.kp T.b_is .nil pass0 (pa_cons (pe_call (ok_shares_sum T) (hr.mono (by decide)) (by rfl) T.g_shares_sum T.F_shares_sum.kp T.b_shares_sum .nil pass0 (pa_cons (pe_lst pa_nil) pa_nil)) (pa_cons pe_int (pa_cons pe_int pa_nil))))))), ?_⟩
  refine ⟨_, rfl, a, ns, rfl, hS, (by show 1 ≤ sizeLine; decide), fun p hp => ?_⟩
  have s1 : Same H (upd H p (.lst [.int (ns.headD 0)])) := same_upd hp
  refine ⟨_, rfl, _, rfl, _, rfl, a, _, rfl, s1.seq hS, fun p2 hp2 => ?_⟩
  have s2 : Same (upd H p (.lst [.int (ns.headD 0)])) (upd (upd H p (.lst [.int (ns.headD 0)])) p2 (.lst (cutV (ns.map V.int) (some 1) (some 12)))) := same_upd hp2
  have hcut : (cutV (ns.map V.int) (some 1) (some 12)).length ≤ 63 := by
    have := len_cut (ns.map V.int) (some 1) (some 12)
    rw [List.length_map] at this
    omega
  refine ⟨p, p2, _, _, rfl, rfl, s2 _ _ upd_same, upd_same, sz _ (by rw [List.length_singleton]; omega), fun p3 hp3 => ?_⟩
  refine ⟨p3, rfl, ⟨_, SqL.of upd_same⟩, for_list (K := K) (a := p3) (xs := [V.int (ns.headD 0)] ++ cutV (ns.map V.int) (some 1) (some 12)) (fun i σ H' => ∃ w1 w2 w3 w4 w5 w6 w7 w8 w9, σ = [some (.ref a), w1, w2, w3, w4, w5, w6, w7, w8, w9] ∧ H' p3 = some (.lst ([V.int (ns.headD 0)] ++ cutV (ns.map V.int) (some 1) (some 12)))) ⟨_, _, _, _, _, _, _, _, _, rfl, upd_same⟩ (fun i σ H' _ h => ?_) ?_ ?_⟩
  · obtain ⟨_, _, _, _, _, _, _, _, _, _, e⟩ := h
    exact SqL.of e
  · rintro i x σ H0 hi ⟨w1, w2, w3, w4, w5, w6, w7, w8, w9, rfl, e0⟩
    obtain ⟨cell, rfl⟩ := cells_int hi
    refine ⟨_, rfl, cell, rfl, fun d H1 hd t1 dr1 => ?_⟩
    refine ⟨d, 0, rfl, dr1, by omega, fun H2 pr xs ls ep hP hG l2 l9 b2 dr2 => ?_⟩
    have u2 : Same H0 H2 := b2.same hd t1
    have eL := hP.len
    -- upper, ground
    refine ⟨(by show 2 ≤ sizeLine; decide), fun pt hpt => ?_⟩
    have u2 := u2.trans (same_upd hpt (o := .tup [.int 0, .int 1]))
    have ep := (same_upd hpt (o := .tup [.int 0, .int 1])) _ _ ep
    have hP := hP.same (NL.of (same_upd hpt (o := .tup [.int 0, .int 1])))
    refine ⟨pt, _, rfl, .inl (.inl upd_same), rfl, _, [_], rfl, _, [], rfl, rfl, ?_⟩
    generalize upd H2 pt (.tup [.int 0, .int 1]) = H2 at *
    refine ⟨_, rfl, pr, rfl, ⟨_, SqL.of ep⟩, for_list (K := K) (a := pr) (xs := xs) (fun i σ H' => ∃ v5 v6, σ = [some (.ref a), some (.int cell), some (.ref pr), some (.int (NN (ls.take i))), some (.int (PP (ls.take i))), v5, v6, w7, w8, w9] ∧ H' = H2) ⟨_, _, rfl, rfl⟩ (fun i σ H' _ h => ?_) ?_ ?_⟩
    · obtain ⟨_, _, _, rfl⟩ := h
      exact SqL.of ep
    · rintro i x σ H' hx ⟨v5, v6, rfl, rfl⟩
      obtain ⟨l, hl, t, rfl, ht⟩ := hP.at_ i x hx
      obtain ⟨g0, g1, g2⟩ := hG l (List.mem_of_getElem? hl)
      obtain ⟨z1, z2⟩ := size_take hG i
      have hil : i < ls.length := (List.getElem?_eq_some_iff.mp hl).1
      have e : ls.take (i + 1) = ls.take i ++ [l] := by rw [List.take_add_one, hl]; rfl
      refine ⟨t, _, rfl, ht, rfl, _, [_], rfl, _, [], rfl, rfl, ?_⟩
      refine ⟨_, rfl, _, rfl, _, _, rfl, rfl, z1.mw g2 (by omega), _, rfl, _, rfl, _, _, rfl, rfl, g1.mw z2 (by omega), _, _, rfl, rfl, _, rfl, _, rfl, _, _, rfl, rfl, z2.mw g2 (by omega), _, _, rfl, ?_⟩
      refine ⟨some (.int l.1), some (.int l.2), ?_, rfl⟩
      rw [e, NN_snoc, PP_snoc]
      rfl
    · rintro σ H' ⟨v5, v6, rfl, rfl⟩
      rw [eL, List.take_of_length_le (Nat.le_refl _)]
      obtain ⟨zN, zP⟩ := size_all hG l9
      -- the shares
      refine ⟨_, rfl, pr, rfl, ⟨_, SqL.of ep⟩, fun D hD => lc_gen (K := K) (a := pr) hD (SqL.of ep) (by omega) (fun j v H => ∃ p l, v = .ref p ∧ ls[j]? = some l ∧ ShAt T.C_Share H p (shr l.1 l.2)) (fun j v H1 H2 s ⟨p, l, e1, e2, e3⟩ => ⟨p, l, e1, e2, e3.same s⟩) ?_ ?_⟩
      · intro j x H8 R C hx s8 hR'
        obtain ⟨l, hl, t, rfl, ht⟩ := hP.at_ j x hx
        obtain ⟨g0, g1, g2⟩ := hG l (List.mem_of_getElem? hl)
        refine ⟨t, _, rfl, nl_tup (NL.of s8) ht, rfl, _, [_], rfl, _, [], rfl, rfl, ⟨rfl, yesT ⟨_, rfl, _, rfl, ?_⟩⟩⟩
        intro r e n m ne
        exact ⟨r, e, l.1, l.2, 70, rfl, upd_same, g0, g2, by decide, fun H9 h9 k9 => ⟨rfl, hR' _ H9 (made_same n m k9) ⟨r, l, rfl, hl, h9⟩⟩⟩
      intro H3 acc s3 e3 la g3
      have hSh : Shs T.C_Share H3 acc ls := ⟨by omega, g3⟩
      -- both turns
      refine ⟨_, rfl, by decide, by decide, ?_⟩
      refine for_range (lo := 0) (n := (2 : Int).toNat) (fun i σ H4 => ∃ (ac : List V) (lz : List (Int × Int)) (v8 : Option V), σ = [some (.ref a), some (.int cell), some (.ref pr), some (.int (NN ls)), some (.int (PP ls)), v5, v6, some (.ref D), v8, w9] ∧ H4 D = some (.lst ac) ∧ Shs T.C_Share H4 ac lz ∧ lz = (if i % 2 = 0 then ls else ls.reverse) ∧ Same H' H4) ⟨acc, ls, _, rfl, e3, hSh, rfl, s3⟩ ?_ ?_
      · rintro i σ H4 hi2 ⟨ac, lz, v8, rfl, e4, hS4, elz, s4⟩
        have en : NN lz = NN ls := by
          rw [elz]
          split
          · rfl
          · exact NN_rev ls
        have epp : PP lz = PP ls := by
          rw [elz]
          split
          · rfl
          · exact PP_rev ls
        have gz : GoodL lz := by
          rw [elz]
          split
          · exact hG
          · exact hG.rev
        have lnz : lz.length = ls.length := by
          rw [elz]
          split
          · rfl
          · exact List.length_reverse
        refine ⟨_, rfl, D, ac, lz, rfl, SqL.of e4, hS4, gz, by omega, fun H5 r t s5 h5 ok5 low5 eq5 => ?_⟩
        rw [en, epp] at eq5
        refine ⟨_, rfl, _, rfl, r, t, NN ls, PP ls, 1200, 700, rfl, h5, ok5, low5, eq5, zN, zP, by decide, by decide, _, rfl, iteF ?_⟩
        refine ⟨_, rfl, .inl ⟨rfl, _, SqL.of (s5 _ _ e4)⟩, D, ac, rfl, rfl, s5 _ _ e4, ?_⟩
        refine ⟨ac.reverse, lz.reverse, _, rfl, upd_same, ((hS4.same (NL.of s5)).same (NL.at_ (s5 _ _ e4))).rev, ?_, ?_⟩
        · rw [elz]
          rcases Nat.mod_two_eq_zero_or_one i with z | z
          · rw [if_pos z, if_neg (by omega)]
          · rw [if_neg (by omega), if_pos (by omega), List.reverse_reverse]
        · intro b o h
          rw [upd_ne (ne_of_none h hD)]
          exact s5 _ _ (s4 _ _ h)
      · rintro σ H4 ⟨ac, lz, v8, rfl, e4, hS4, elz, s4⟩
        have elz : lz = ls := elz
        rw [elz] at hS4
        have ep4 := s4 _ _ ep
        have hP4 := hP.same (NL.of s4)
        have lac := hS4.len
        refine ⟨_, rfl, _, rfl, pr, rfl, ⟨_, SqL.of ep4⟩, fun D2 hD2 => lc_gen (K := K) (a := pr) hD2 (SqL.of ep4) (by omega) (fun j v H => ∃ p l, v = .ref p ∧ ls[j]? = some l ∧ ShAt T.C_Share H p (shr l.1 l.2)) (fun j v H1 H2 s ⟨p, l, e1, e2, e3⟩ => ⟨p, l, e1, e2, e3.same s⟩) ?_ ?_⟩
        · intro j x H8 R C hx s8 hR'
          obtain ⟨l, hl, t, rfl, ht⟩ := hP4.at_ j x hx
          obtain ⟨g0, g1, g2⟩ := hG l (List.mem_of_getElem? hl)
          refine ⟨t, _, rfl, nl_tup (NL.of s8) ht, rfl, _, [_], rfl, _, [], rfl, rfl, ⟨rfl, yesT ⟨_, rfl, _, rfl, ?_⟩⟩⟩
          intro r e n m ne
          exact ⟨r, e, l.1, l.2, 70, rfl, upd_same, g0, g2, by decide, fun H9 h9 k9 => ⟨rfl, hR' _ H9 (made_same n m k9) ⟨r, l, rfl, hl, h9⟩⟩⟩
        intro H6 acc2 s6 e6 la2 g6
        have hS6 := hS4.same (NL.of s6)
        refine ⟨⟨D, D2, ac, acc2, rfl, rfl, s6 _ _ e4, e6, by omega, fun i x y hx hy => ?_⟩, fun H7 x7 => ⟨_, rfl, iteF ?_⟩⟩
        · obtain ⟨p1, l1, rfl, q1, z1⟩ := hS6.at_ i x hx
          obtain ⟨p2', l2', rfl, q2, z2⟩ := g6 i y hy
          have : l1 = l2' := Option.some.inj (q1.symm.trans q2)
          subst this
          obtain ⟨y1, m1⟩ := id z1
          obtain ⟨y2, m2⟩ := id z2
          exact ⟨p1, p2', _, _, _, _, rfl, rfl, m1, m2, _, z1, z2⟩
        have s7 : Same H6 H7 := fun b o e => x7 b o e
        have s47 := s6.trans s7
        have ep7 := s47 _ _ ep4
        have hP7 := hP4.same (NL.of s47)
        refine ⟨_, rfl, D, ac, rfl, .inl (SqL.of (s47 _ _ e4)), _, rfl, pr, xs, rfl, .inl (SqL.of ep7), rfl, _, rfl, ?_⟩
        refine ifEqF (by rw [decide_eq_true (show V.int (ac.length : Int) = V.int (xs.length : Int) by rw [lac, eL])]; rfl) ?_
        refine ⟨_, rfl, pr, xs, rfl, .inl (SqL.of ep7), _, rfl, by omega, by omega, ?_⟩
        have u7 := (u2.trans s4).trans s47
        refine for_range (lo := 0) (n := ((xs.length : Nat) : Int).toNat) (fun i σ H8 => ∃ (v9 : Option V), σ = [some (.ref a), some (.int cell), some (.ref pr), some (.int (NN ls)), some (.int (PP ls)), v5, v6, some (.ref D), v8, v9] ∧ Same H7 H8) ⟨_, rfl, Same.refl _⟩ ?_ ?_
        · rintro k σ H8 hk ⟨v9, rfl, s8⟩
          have ek : (0 : Int) + (k : Int) = (k : Int) := by omega
          rw [ek]
          have hk : k < xs.length := by omega
          obtain ⟨l, hl, hv⟩ := hP7.at_ k _ (List.getElem?_eq_getElem hk)
          obtain ⟨j, v', hat, hj⟩ := at_any hk
          obtain ⟨l', hl', hv'⟩ := hP7.at_ j _ hj
          have gl := hG l (List.mem_of_getElem? hl)
          have gl' := hG l' (List.mem_of_getElem? hl')
          have ep8 := s8 _ _ ep7
          have hat0 := atI_nat (List.getElem?_eq_getElem hk)
          refine ⟨_, rfl, _, rfl, pr, _, _, _, rfl, rfl, SqL.of ep8, hat0, _, rfl, _, rfl, _, _, rfl, rfl, pr, _, _, _, rfl, rfl, SqL.of ep8, hat, ?_⟩
          refine ⟨_, _, l, l', rfl, hv.same (NL.of s8), hv'.same (NL.of s8), gl, gl', fun H9 s9 => ⟨_, rfl, iteF ?_⟩⟩
          have ep9 := s9 _ _ ep8
          have s89 := s8.trans s9
          refine ⟨_, rfl, _, rfl, pr, _, _, _, rfl, rfl, SqL.of ep9, hat0, _, rfl, _, rfl, pr, _, _, _, rfl, rfl, SqL.of ep9, hat0, ?_⟩
          refine ⟨_, _, l, l, rfl, hv.same (NL.of s89), hv.same (NL.of s89), gl, gl, fun H10 s10 => ⟨_, rfl, iteF ?_⟩⟩
          exact ⟨_, rfl, s89.trans s10⟩
        · rintro σ H8 ⟨v9, rfl, s8⟩
          exact ⟨_, _, _, _, _, _, _, _, _, rfl, s8 _ _ (u7 _ _ e0)⟩
  · rintro σ H' ⟨w1, w2, w3, w4, w5, w6, w7, w8, w9, rfl, e0⟩
    refine ⟨(by show 0 ≤ sizeLine; decide), fun l hl => ?_⟩
    refine ⟨l, [], [], rfl, SqL.of upd_same, ⟨rfl, fun i v h => by simp at h⟩, fun _ h => by simp at h, by decide, fun H5 r t s5 h5 ok5 low5 eq5 => ?_⟩
    exact ⟨r, t, 0, 1, 1200, 700, rfl, h5, ok5, low5, eq5, (Sz.mono (k := 1) (by show (0 : Int).natAbs < 2 ^ 1; decide) (by decide)), (Sz.mono (k := 1) (by show (1 : Int).natAbs < 2 ^ 1; decide) (by decide)), by decide, by decide, q _⟩
end
theorem all_mk {l : PySem.W.OpenLaw} {w : World} {K : PySem.W.Frag} {h : Heap} {mg : Str → Option Value} {fa : Addr} (X : K.In h) (G : h.Ns mainGlobals mg) (hfa : mg "law" = some (.ref fa))
    {C_Share : Addr}
    {f0 : Addr} {od0 an0 : Option Addr} {sl0 : Array (Option Value)} {oc0 kV0 dc0 pm0 cd0 ct0 : Value}
    {f1 : Addr} {od1 an1 : Option Addr} {sl1 : Array (Option Value)} {oc1 kV1 dc1 pm1 cd1 ct1 : Value}
    {T1 : Addr} {oT1 : Value} {dT1 : Option Addr} {nT1 : Nat} {sT1 : Array (Option Value)} {td1_0 : Tok}
    {f2 : Addr} {od2 an2 : Option Addr} {sl2 : Array (Option Value)} {oc2 kV2 dc2 pm2 cd2 ct2 : Value}
    {f3 : Addr} {od3 an3 : Option Addr} {sl3 : Array (Option Value)} {oc3 kV3 dc3 pm3 cd3 ct3 : Value}
    {f4 : Addr} {od4 an4 : Option Addr} {sl4 : Array (Option Value)} {oc4 kV4 dc4 pm4 cd4 ct4 : Value}
    {f5 : Addr} {od5 an5 : Option Addr} {sl5 : Array (Option Value)} {oc5 kV5 dc5 pm5 cd5 ct5 : Value}
    {f6 : Addr} {od6 an6 : Option Addr} {sl6 : Array (Option Value)} {oc6 kV6 dc6 pm6 cd6 ct6 : Value}
    {f7 : Addr} {od7 an7 : Option Addr} {sl7 : Array (Option Value)} {oc7 kV7 dc7 pm7 cd7 ct7 : Value}
    {f8 : Addr} {od8 an8 : Option Addr} {sl8 : Array (Option Value)} {oc8 kV8 dc8 pm8 cd8 ct8 : Value}
    {f9 : Addr} {od9 an9 : Option Addr} {sl9 : Array (Option Value)} {oc9 kV9 dc9 pm9 cd9 ct9 : Value}
    {f10 : Addr} {od10 an10 : Option Addr} {sl10 : Array (Option Value)} {oc10 kV10 dc10 pm10 cd10 ct10 : Value}
    {f11 : Addr} {od11 an11 : Option Addr} {sl11 : Array (Option Value)} {oc11 kV11 dc11 pm11 cd11 ct11 : Value}
    {f12 : Addr} {od12 an12 : Option Addr} {sl12 : Array (Option Value)} {oc12 kV12 dc12 pm12 cd12 ct12 : Value}
    {f13 : Addr} {od13 an13 : Option Addr} {sl13 : Array (Option Value)} {oc13 kV13 dc13 pm13 cd13 ct13 : Value}
    {f14 : Addr} {od14 an14 : Option Addr} {sl14 : Array (Option Value)} {oc14 kV14 dc14 pm14 cd14 ct14 : Value}
    {f15 : Addr} {od15 an15 : Option Addr} {sl15 : Array (Option Value)} {oc15 kV15 dc15 pm15 cd15 ct15 : Value}
    {f16 : Addr} {od16 an16 : Option Addr} {sl16 : Array (Option Value)} {oc16 kV16 dc16 pm16 cd16 ct16 : Value}
    {f17 : Addr} {od17 an17 : Option Addr} {sl17 : Array (Option Value)} {oc17 kV17 dc17 pm17 cd17 ct17 : Value}
    (aC_Share : PySem.W.nsIn K mainGlobals "Share" = some (some (.ref C_Share)))
    (pg_Share : PySem.W.plainGet K C_Share Str.empty = true)
    (hd_Share : PySem.W.hasDictIn K C_Share = true)
    (po_Share : PySem.W.plainOver K C_Share = true)
    (sa_Share : PySem.W.findIn K (.ref C_Share) "__setattr__" = some (some (.builtin "object.__setattr__")))
    (mk_Share : PySem.W.makesIn K C_Share = true)
    (kc_Share : PySem.W.keepIn K (.ref C_Share) = true)
    (n_Share_num : PySem.W.findIn K (.ref C_Share) "num" = some none)
    (n_Share_over : PySem.W.findIn K (.ref C_Share) "over" = some none)
    (a0 : PySem.W.nsIn K mainGlobals "common_part" = some (some (.ref f0)))
    (l0 : K.lookup f0 = some ⟨oc0, od0, .func (PySem.W.fnOf "common_part" "common_part" (defArgs s_common_part) (defBody s_common_part) (defScope s_common_part) .none kV0 dc0 pm0 an0 cd0 ct0), sl0⟩)
    (c0 : PySem.W.codeIn K cd0 "common_part" = true)
    (k0 : PySem.W.keepIn K (.ref f0) = true)
    (a1 : PySem.W.findIn K (.ref C_Share) "__init__" = some (some (.ref f1)))
    (i1 : PySem.W.isFn K (.ref f1) = true)
    (l1 : K.lookup f1 = some ⟨oc1, od1, .func (PySem.W.fnOf "__init__" "Share.__init__" (defArgs s_Share_init) (defBody s_Share_init) (defScope s_Share_init) (.ref T1) kV1 dc1 pm1 an1 cd1 ct1), sl1⟩)
    (d1 : K.lookup T1 = some ⟨oT1, dT1, .seq (List.toArray [.int 1 td1_0]) nT1, sT1⟩)
    (c1 : PySem.W.codeIn K cd1 "Share.__init__" = true)
    (k1 : PySem.W.keepIn K (.ref f1) = true)
    (a2 : PySem.W.findIn K (.ref C_Share) "plus" = some (some (.ref f2)))
    (i2 : PySem.W.isFn K (.ref f2) = true)
    (l2 : K.lookup f2 = some ⟨oc2, od2, .func (PySem.W.fnOf "plus" "Share.plus" (defArgs s_Share_plus) (defBody s_Share_plus) (defScope s_Share_plus) .none kV2 dc2 pm2 an2 cd2 ct2), sl2⟩)
    (c2 : PySem.W.codeIn K cd2 "Share.plus" = true)
    (k2 : PySem.W.keepIn K (.ref f2) = true)
    (a3 : PySem.W.findIn K (.ref C_Share) "minus" = some (some (.ref f3)))
    (i3 : PySem.W.isFn K (.ref f3) = true)
    (l3 : K.lookup f3 = some ⟨oc3, od3, .func (PySem.W.fnOf "minus" "Share.minus" (defArgs s_Share_minus) (defBody s_Share_minus) (defScope s_Share_minus) .none kV3 dc3 pm3 an3 cd3 ct3), sl3⟩)
    (c3 : PySem.W.codeIn K cd3 "Share.minus" = true)
    (k3 : PySem.W.keepIn K (.ref f3) = true)
    (a4 : PySem.W.findIn K (.ref C_Share) "times" = some (some (.ref f4)))
    (i4 : PySem.W.isFn K (.ref f4) = true)
    (l4 : K.lookup f4 = some ⟨oc4, od4, .func (PySem.W.fnOf "times" "Share.times" (defArgs s_Share_times) (defBody s_Share_times) (defScope s_Share_times) .none kV4 dc4 pm4 an4 cd4 ct4), sl4⟩)
    (c4 : PySem.W.codeIn K cd4 "Share.times" = true)
    (k4 : PySem.W.keepIn K (.ref f4) = true)
    (a5 : PySem.W.findIn K (.ref C_Share) "is_below" = some (some (.ref f5)))
    (i5 : PySem.W.isFn K (.ref f5) = true)
    (l5 : K.lookup f5 = some ⟨oc5, od5, .func (PySem.W.fnOf "is_below" "Share.is_below" (defArgs s_Share_is_below) (defBody s_Share_is_below) (defScope s_Share_is_below) .none kV5 dc5 pm5 an5 cd5 ct5), sl5⟩)
    (c5 : PySem.W.codeIn K cd5 "Share.is_below" = true)
    (k5 : PySem.W.keepIn K (.ref f5) = true)
    (a6 : PySem.W.findIn K (.ref C_Share) "__eq__" = some (some (.ref f6)))
    (i6 : PySem.W.isFn K (.ref f6) = true)
    (l6 : K.lookup f6 = some ⟨oc6, od6, .func (PySem.W.fnOf "__eq__" "Share.__eq__" (defArgs s_Share_eq) (defBody s_Share_eq) (defScope s_Share_eq) .none kV6 dc6 pm6 an6 cd6 ct6), sl6⟩)
    (c6 : PySem.W.codeIn K cd6 "Share.__eq__" = true)
    (k6 : PySem.W.keepIn K (.ref f6) = true)
    (a7 : PySem.W.nsIn K mainGlobals "shares_sum" = some (some (.ref f7)))
    (l7 : K.lookup f7 = some ⟨oc7, od7, .func (PySem.W.fnOf "shares_sum" "shares_sum" (defArgs s_shares_sum) (defBody s_shares_sum) (defScope s_shares_sum) .none kV7 dc7 pm7 an7 cd7 ct7), sl7⟩)
    (c7 : PySem.W.codeIn K cd7 "shares_sum" = true)
    (k7 : PySem.W.keepIn K (.ref f7) = true)
    (a8 : PySem.W.nsIn K mainGlobals "_law_cell_at" = some (some (.ref f8)))
    (l8 : K.lookup f8 = some ⟨oc8, od8, .func (PySem.W.fnOf "_law_cell_at" "_law_cell_at" (defArgs s_cell_at) (defBody s_cell_at) (defScope s_cell_at) .none kV8 dc8 pm8 an8 cd8 ct8), sl8⟩)
    (c8 : PySem.W.codeIn K cd8 "_law_cell_at" = true)
    (k8 : PySem.W.keepIn K (.ref f8) = true)
    (a9 : PySem.W.nsIn K mainGlobals "_law_draws" = some (some (.ref f9)))
    (l9 : K.lookup f9 = some ⟨oc9, od9, .func (PySem.W.fnOf "_law_draws" "_law_draws" (defArgs s_draws) (defBody s_draws) (defScope s_draws) .none kV9 dc9 pm9 an9 cd9 ct9), sl9⟩)
    (c9 : PySem.W.codeIn K cd9 "_law_draws" = true)
    (k9 : PySem.W.keepIn K (.ref f9) = true)
    (a10 : PySem.W.nsIn K mainGlobals "_law_one" = some (some (.ref f10)))
    (l10 : K.lookup f10 = some ⟨oc10, od10, .func (PySem.W.fnOf "_law_one" "_law_one" (defArgs s_one) (defBody s_one) (defScope s_one) .none kV10 dc10 pm10 an10 cd10 ct10), sl10⟩)
    (c10 : PySem.W.codeIn K cd10 "_law_one" = true)
    (k10 : PySem.W.keepIn K (.ref f10) = true)
    (a11 : PySem.W.nsIn K mainGlobals "_law_of" = some (some (.ref f11)))
    (l11 : K.lookup f11 = some ⟨oc11, od11, .func (PySem.W.fnOf "_law_of" "_law_of" (defArgs s_of) (defBody s_of) (defScope s_of) .none kV11 dc11 pm11 an11 cd11 ct11), sl11⟩)
    (c11 : PySem.W.codeIn K cd11 "_law_of" = true)
    (k11 : PySem.W.keepIn K (.ref f11) = true)
    (a12 : PySem.W.nsIn K mainGlobals "_law_number" = some (some (.ref f12)))
    (l12 : K.lookup f12 = some ⟨oc12, od12, .func (PySem.W.fnOf "_law_number" "_law_number" (defArgs s_number) (defBody s_number) (defScope s_number) .none kV12 dc12 pm12 an12 cd12 ct12), sl12⟩)
    (c12 : PySem.W.codeIn K cd12 "_law_number" = true)
    (k12 : PySem.W.keepIn K (.ref f12) = true)
    (a13 : PySem.W.nsIn K mainGlobals "_law_shares" = some (some (.ref f13)))
    (l13 : K.lookup f13 = some ⟨oc13, od13, .func (PySem.W.fnOf "_law_shares" "_law_shares" (defArgs s_shares) (defBody s_shares) (defScope s_shares) .none kV13 dc13 pm13 an13 cd13 ct13), sl13⟩)
    (c13 : PySem.W.codeIn K cd13 "_law_shares" = true)
    (k13 : PySem.W.keepIn K (.ref f13) = true)
    (a14 : PySem.W.nsIn K mainGlobals "_law_common" = some (some (.ref f14)))
    (l14 : K.lookup f14 = some ⟨oc14, od14, .func (PySem.W.fnOf "_law_common" "_law_common" (defArgs s_common) (defBody s_common) (defScope s_common) .none kV14 dc14 pm14 an14 cd14 ct14), sl14⟩)
    (c14 : PySem.W.codeIn K cd14 "_law_common" = true)
    (k14 : PySem.W.keepIn K (.ref f14) = true)
    (a15 : PySem.W.nsIn K mainGlobals "_law_is" = some (some (.ref f15)))
    (l15 : K.lookup f15 = some ⟨oc15, od15, .func (PySem.W.fnOf "_law_is" "_law_is" (defArgs s_is) (defBody s_is) (defScope s_is) .none kV15 dc15 pm15 an15 cd15 ct15), sl15⟩)
    (c15 : PySem.W.codeIn K cd15 "_law_is" = true)
    (k15 : PySem.W.keepIn K (.ref f15) = true)
    (a16 : PySem.W.nsIn K mainGlobals "_law_two_right" = some (some (.ref f16)))
    (l16 : K.lookup f16 = some ⟨oc16, od16, .func (PySem.W.fnOf "_law_two_right" "_law_two_right" (defArgs s_two_right) (defBody s_two_right) (defScope s_two_right) .none kV16 dc16 pm16 an16 cd16 ct16), sl16⟩)
    (c16 : PySem.W.codeIn K cd16 "_law_two_right" = true)
    (k16 : PySem.W.keepIn K (.ref f16) = true)
    (a17 : PySem.W.nsIn K mainGlobals "law" = some (some (.ref f17)))
    (l17 : K.lookup f17 = some ⟨oc17, od17, .func (PySem.W.fnOf "law" "law" (defArgs s_law) (defBody s_law) (defScope s_law) .none kV17 dc17 pm17 an17 cd17 ct17), sl17⟩)
    (c17 : PySem.W.codeIn K cd17 "law" = true)
    (k17 : PySem.W.keepIn K (.ref f17) = true)
    (z0 : PySem.W.nsIn K mainGlobals "abs" = some none)
    (z1 : PySem.W.nsIn K mainGlobals "isinstance" = some none)
    (z2 : PySem.W.nsIn K mainGlobals "len" = some none)
    (z3 : PySem.W.nsIn K mainGlobals "int" = some none)
    (z4 : PySem.W.nsIn K mainGlobals "range" = some none)
    (z5 : PySem.W.nsIn K mainGlobals "bool" = some none)
    (ic1 : PySem.W.findIn K (.ref C_Share) "__class__" = some (some (.builtin "object.__class__")))
    (ic2 : PySem.W.specialIn K (.builtin "object.__class__") "__get__" = some (some (.builtin "getset_descriptor.__get__")))
    (ic3 : PySem.W.takesIn K (.builtin "object.__class__") = some true)
    (ic4 : PySem.W.mroIn K C_Share (.type "object") = some true) :
    ∃ fd : FuncData, (∀ (s : Shared) (v : Value), BindsTo s fd ⟨[v], []⟩ [("_law_script", v)]) ∧ ∀ base : Heap, K.In base → base.Ns mainGlobals mg → FnOk l.prog w K mg base CX0 6 fa fd ["_law_script"] (spLaw K) := by
  have e := hfa.symm.trans (PySem.W.mg_of X G a17)
  cases e
  have F0 := fun_mk (st := s_common_part) l0 c0 k0
  have F1 : FunD K "__init__" "Share.__init__" (defArgs s_Share_init) (defBody s_Share_init) (defScope s_Share_init) [.int 1] [] f1 (PySem.W.fnOf "__init__" "Share.__init__" (defArgs s_Share_init) (defBody s_Share_init) (defScope s_Share_init) (.ref T1) kV1 dc1 pm1 an1 cd1 ct1) := ⟨⟨_, _, _, _, _, _, _, _, _, _, rfl, l1, c1, .inr ⟨(fun z => nomatch z), _, _, _, _, rfl, d1, rfl, .cons ⟨_, rfl⟩ (.nil)⟩, .inl rfl⟩, k1⟩
  have F2 := fun_mk (st := s_Share_plus) l2 c2 k2
  have F3 := fun_mk (st := s_Share_minus) l3 c3 k3
  have F4 := fun_mk (st := s_Share_times) l4 c4 k4
  have F5 := fun_mk (st := s_Share_is_below) l5 c5 k5
  have F6 := fun_mk (st := s_Share_eq) l6 c6 k6
  have F7 := fun_mk (st := s_shares_sum) l7 c7 k7
  have F8 := fun_mk (st := s_cell_at) l8 c8 k8
  have F9 := fun_mk (st := s_draws) l9 c9 k9
  have F10 := fun_mk (st := s_one) l10 c10 k10
  have F11 := fun_mk (st := s_of) l11 c11 k11
  have F12 := fun_mk (st := s_number) l12 c12 k12
  have F13 := fun_mk (st := s_shares) l13 c13 k13
  have F14 := fun_mk (st := s_common) l14 c14 k14
  have F15 := fun_mk (st := s_is) l15 c15 k15
  have F16 := fun_mk (st := s_two_right) l16 c16 k16
  have F17 := fun_mk (st := s_law) l17 c17 k17
  have b0 := F0.binds (ps := ["one", "other"]) fun _ _ _ _ _ _ us hl => match us, hl with | [_, _], _ => rfl
  have b1 : Binds K (PySem.W.fnOf "__init__" "Share.__init__" (defArgs s_Share_init) (defBody s_Share_init) (defScope s_Share_init) (.ref T1) kV1 dc1 pm1 an1 cd1 ct1) ["self", "num", "over"] [] := by
    obtain ⟨ds, hv, hb⟩ := F1.binds1 (ps := ["self", "num", "over"]) 3 1 (fun z => nomatch z) rfl fun _ _ _ _ _ _ _ us its h1 h2 => match us, its, h1, h2 with | [_, _, _], [_], _, _ => ⟨_, rfl, rfl⟩
    cases hv
    exact hb
  have b2 := F2.binds (ps := ["self", "other"]) fun _ _ _ _ _ _ us hl => match us, hl with | [_, _], _ => rfl
  have b3 := F3.binds (ps := ["self", "other"]) fun _ _ _ _ _ _ us hl => match us, hl with | [_, _], _ => rfl
  have b4 := F4.binds (ps := ["self", "other"]) fun _ _ _ _ _ _ us hl => match us, hl with | [_, _], _ => rfl
  have b5 := F5.binds (ps := ["self", "other"]) fun _ _ _ _ _ _ us hl => match us, hl with | [_, _], _ => rfl
  have b6 := F6.binds (ps := ["self", "other"]) fun _ _ _ _ _ _ us hl => match us, hl with | [_, _], _ => rfl
  have b7 := F7.binds (ps := ["shares"]) fun _ _ _ _ _ _ us hl => match us, hl with | [_], _ => rfl
  have b8 := F8.binds (ps := ["_law_script", "_law_k"]) fun _ _ _ _ _ _ us hl => match us, hl with | [_, _], _ => rfl
  have b9 := F9.binds (ps := ["_law_cell"]) fun _ _ _ _ _ _ us hl => match us, hl with | [_], _ => rfl
  have b10 := F10.binds (ps := ["_law_draws_here", "_law_many"]) fun _ _ _ _ _ _ us hl => match us, hl with | [_, _], _ => rfl
  have b11 := F11.binds (ps := ["_law_draws_here", "_law_some"]) fun _ _ _ _ _ _ us hl => match us, hl with | [_, _], _ => rfl
  have b12 := F12.binds (ps := ["_law_draws_here"]) fun _ _ _ _ _ _ us hl => match us, hl with | [_], _ => rfl
  have b13 := F13.binds (ps := ["_law_draws_here"]) fun _ _ _ _ _ _ us hl => match us, hl with | [_], _ => rfl
  have b14 := F14.binds (ps := ["_law_one_here", "_law_other"]) fun _ _ _ _ _ _ us hl => match us, hl with | [_, _], _ => rfl
  have b15 := F15.binds (ps := ["_law_share", "_law_upper", "_law_ground"]) fun _ _ _ _ _ _ us hl => match us, hl with | [_, _, _], _ => rfl
  have b16 := F16.binds (ps := ["_law_one_here", "_law_other"]) fun _ _ _ _ _ _ us hl => match us, hl with | [_, _], _ => rfl
  have kbS : KBn K (PySem.W.fnOf "__init__" "Share.__init__" (defArgs s_Share_init) (defBody s_Share_init) (defScope s_Share_init) (.ref T1) kV1 dc1 pm1 an1 cd1 ct1) ["self", "num", "over"] 2 ["over"] (fun us ws => us ++ ws) (fun vs zs => vs ++ zs) := by
    obtain ⟨its, h⟩ := F1.kbindsD (ps := ["self", "num", "over"]) 2 ["over"] (fun us _ ws => us ++ ws) (fun z => nomatch z) (fun r1 _ r3 => r1.append r3) (fun _ _ _ _ _ _ _ us its ws h1 h2 h3 => match us, its, ws, h1, h2, h3 with | [_, _], [_], [_], _, _, _ => ⟨_, rfl, rfl⟩)
    exact h
  obtain ⟨dsS, hdS, bdS⟩ := F1.binds1 (ps := ["self", "num", "over"]) 2 0 (fun z => nomatch z) rfl fun _ _ _ _ _ _ _ us its h1 h2 => match us, its, h1, h2 with | [_, _], [_], _, _ => ⟨_, rfl, rfl⟩
  let T : Tx K mg := ⟨C_Share, ⟨pg_Share, hd_Share, po_Share, sa_Share⟩, PySem.W.mg_of X G aC_Share, n_Share_num, n_Share_over,
    _, _, F0, PySem.W.mg_of X G a0, b0,
    _, _, F1, ⟨mk_Share, a1, i1, kc_Share⟩, b1,
    _, _, F2, ⟨a2, i2, k2⟩, b2,
    _, _, F3, ⟨a3, i3, k3⟩, b3,
    _, _, F4, ⟨a4, i4, k4⟩, b4,
    _, _, F5, ⟨a5, i5, k5⟩, b5,
    _, _, F6, ⟨a6, i6, k6⟩, b6,
    _, _, F7, PySem.W.mg_of X G a7, b7,
    _, _, F8, PySem.W.mg_of X G a8, b8,
    _, _, F9, PySem.W.mg_of X G a9, b9,
    _, _, F10, PySem.W.mg_of X G a10, b10,
    _, _, F11, PySem.W.mg_of X G a11, b11,
    _, _, F12, PySem.W.mg_of X G a12, b12,
    _, _, F13, PySem.W.mg_of X G a13, b13,
    _, _, F14, PySem.W.mg_of X G a14, b14,
    _, _, F15, PySem.W.mg_of X G a15, b15,
    _, _, F16, PySem.W.mg_of X G a16, b16,
    kbS,
    dsS,
    hdS,
    bdS,
    ⟨ic1, ic2, ic3, ic4, if_pos (beq_self_eq_true _)⟩,
    PySem.W.mg_none_of X G z0,
    PySem.W.mg_none_of X G z1,
    PySem.W.mg_none_of X G z2,
    PySem.W.mg_none_of X G z3,
    PySem.W.mg_none_of X G z4,
    PySem.W.mg_none_of X G z5⟩
  exact ⟨PySem.W.fnOf "law" "law" (defArgs s_law) (defBody s_law) (defScope s_law) .none kV17 dc17 pm17 an17 cd17 ct17, fun s v => .of_eq rfl, fun base _ _ => ok_law T F17⟩
end KB
open PySem PySem.W PyProof.Rows
set_option maxRecDepth 100000 in
set_option maxHeartbeats 0 in
theorem PySem.Challenge.cw_pearlrise_k03_shares_reckoned_holds : PySem.Challenge.rw_pearlrise_k03_shares_reckoned.Holds := by
  w_on; o_law; k_head; (case hw => w_witness2)
  k_fill
  refine L2.walk_of (l := PySem.Challenge.rw_pearlrise_k03_shares_reckoned) (n := 63) (k := 6) (x := "_law_script") (CX := fun _ => L2.CX0) (sp := fun w => KB.spLaw _) rfl (by decide) rfl ⟨rfl, by decide, by decide⟩ (fun w h Y => PySem.W.kIn_of Y) ?F (fun _ _ a ns hl _ hS => ⟨a, ns, rfl, hS, hl, fun _ => rfl⟩) (fun _ _ _ _ _ h => h)
  case F =>
    intro w mg fa h KX G hmg
    refine' KB.all_mk KX G hmg ?aC_Share ?pg_Share ?hd_Share ?po_Share ?sa_Share ?mk_Share ?kc_Share ?n_Share_num ?n_Share_over ?a0 ?l0 ?c0 ?k0 ?a1 ?i1 ?l1 ?d1 ?c1 ?k1 ?a2 ?i2 ?l2 ?c2 ?k2 ?a3 ?i3 ?l3 ?c3 ?k3 ?a4 ?i4 ?l4 ?c4 ?k4 ?a5 ?i5 ?l5 ?c5 ?k5 ?a6 ?i6 ?l6 ?c6 ?k6 ?a7 ?l7 ?c7 ?k7 ?a8 ?l8 ?c8 ?k8 ?a9 ?l9 ?c9 ?k9 ?a10 ?l10 ?c10 ?k10 ?a11 ?l11 ?c11 ?k11 ?a12 ?l12 ?c12 ?k12 ?a13 ?l13 ?c13 ?k13 ?a14 ?l14 ?c14 ?k14 ?a15 ?l15 ?c15 ?k15 ?a16 ?l16 ?c16 ?k16 ?a17 ?l17 ?c17 ?k17 ?z0 ?z1 ?z2 ?z3 ?z4 ?z5 ?ic1 ?ic2 ?ic3 ?ic4
    (case aC_Share => k_is)
    (case pg_Share => k_is)
    (case hd_Share => k_is)
    (case po_Share => k_is)
    (case sa_Share => k_is)
    (case mk_Share => k_is)
    (case kc_Share => k_is)
    (case n_Share_num => k_is)
    (case n_Share_over => k_is)
    (case a0 => k_is)
    (case l0 => k_is)
    (case c0 => k_is)
    (case k0 => k_is)
    (case a1 => k_is)
    (case i1 => k_is)
    (case l1 => k_is)
    (case d1 => k_is)
    (case c1 => k_is)
    (case k1 => k_is)
    (case a2 => k_is)
    (case i2 => k_is)
    (case l2 => k_is)
    (case c2 => k_is)
    (case k2 => k_is)
    (case a3 => k_is)
    (case i3 => k_is)
    (case l3 => k_is)
    (case c3 => k_is)
    (case k3 => k_is)
    (case a4 => k_is)
    (case i4 => k_is)
    (case l4 => k_is)
    (case c4 => k_is)
    (case k4 => k_is)
    (case a5 => k_is)
    (case i5 => k_is)
    (case l5 => k_is)
    (case c5 => k_is)
    (case k5 => k_is)
    (case a6 => k_is)
    (case i6 => k_is)
    (case l6 => k_is)
    (case c6 => k_is)
    (case k6 => k_is)
    (case a7 => k_is)
    (case l7 => k_is)
    (case c7 => k_is)
    (case k7 => k_is)
    (case a8 => k_is)
    (case l8 => k_is)
    (case c8 => k_is)
    (case k8 => k_is)
    (case a9 => k_is)
    (case l9 => k_is)
    (case c9 => k_is)
    (case k9 => k_is)
    (case a10 => k_is)
    (case l10 => k_is)
    (case c10 => k_is)
    (case k10 => k_is)
    (case a11 => k_is)
    (case l11 => k_is)
    (case c11 => k_is)
    (case k11 => k_is)
    (case a12 => k_is)
    (case l12 => k_is)
    (case c12 => k_is)
    (case k12 => k_is)
    (case a13 => k_is)
    (case l13 => k_is)
    (case c13 => k_is)
    (case k13 => k_is)
    (case a14 => k_is)
    (case l14 => k_is)
    (case c14 => k_is)
    (case k14 => k_is)
    (case a15 => k_is)
    (case l15 => k_is)
    (case c15 => k_is)
    (case k15 => k_is)
    (case a16 => k_is)
    (case l16 => k_is)
    (case c16 => k_is)
    (case k16 => k_is)
    (case a17 => k_is)
    (case l17 => k_is)
    (case c17 => k_is)
    (case k17 => k_is)
    (case z0 => k_is)
    (case z1 => k_is)
    (case z2 => k_is)
    (case z3 => k_is)
    (case z4 => k_is)
    (case z5 => k_is)
    (case ic1 => k_is)
    (case ic2 => k_is)
    (case ic3 => k_is)
    (case ic4 => k_is)
