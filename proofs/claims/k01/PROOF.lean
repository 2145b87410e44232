import PyProof.Rows.All
import Wide.All
import OpenK.AllK
import Wide.FinOn
import HandS.ForMost
import HandS.IsInst
import HandS.Wide
import HandS.Walk
import KE.IntTextLaws
import PySem.Challenge.RW_pearlrise_k01_names_and_numbers
set_option Elab.async false
set_option linter.all false
set_option maxRecDepth 100000
set_option maxHeartbeats 4000000
namespace KA
open PySem PySem.Spec PyProof.Rows L2
/-! ### heaps -/
theorem same_upd {H : Hp} {p : Addr} {o : HO} (h : H p = none) : Same H (upd H p o) := fun b x e => by
  rw [upd_ne (ne_of_none e h)]
  exact e
/-- all but what stands at d is as it was -/
def But (d : Addr) (H H' : Hp) : Prop := ∀ b o, b ≠ d → H b = some o → H' b = some o
theorem But.refl (d : Addr) (H : Hp) : But d H H := fun _ _ _ h => h
theorem But.trans {d : Addr} {H H1 H2 : Hp} (a : But d H H1) (b : But d H1 H2) : But d H H2 := fun c o n h => b c o n (a c o n h)
theorem But.of {d : Addr} {H H' : Hp} (s : Same H H') : But d H H' := fun b o _ h => s b o h
theorem But.at_ {d : Addr} {H : Hp} {o : HO} : But d H (upd H d o) := fun b x n h => by
  rw [upd_ne n]
  exact h
theorem But.new {d p : Addr} {H : Hp} {o : HO} (h : H p = none) : But d H (upd H p o) := But.of (same_upd h)
theorem But.same {d : Addr} {H0 H H' : Hp} (h0 : H0 d = none) (s : Same H0 H) (b : But d H H') : Same H0 H' := fun c o h => b c o (ne_of_none h h0) (s c o h)
theorem But.mut {d : Addr} {H0 H : Hp} {o : HO} {p : Addr} (b : But d H0 H) (h : H0 p = none) : But d H0 (upd H p o) := fun c x n e => by
  rw [upd_ne (ne_of_none e h)]
  exact b c x n e
theorem But.free {d p : Addr} {H H' : Hp} (b : But d H H') (n : p ≠ d) (h : H' p = none) : H p = none := by
  cases q : H p with
  | none => rfl
  | some o =>
    rw [b p o n q] at h
    cases h
theorem but_seq {K : PySem.W.Frag} {d a : Addr} {H H' : Hp} {xs : List V} (b : But d H H') (n : a ≠ d) (h : SqL K H a xs) : SqL K H' a xs := by
  rcases h with (h | ⟨o, h⟩) | h
  · exact .inl (.inl (b _ _ n h))
  · exact .inl (.inr ⟨o, b _ _ n h⟩)
  · exact .inr h
/-- the draws' list at d, its counter at most n -/
def Dr (d : Addr) (n : Nat) (H : Hp) : Prop := ∃ a b c : Int, H d = some (.lst [.int a, .int b, .int c]) ∧ 0 ≤ b ∧ b < 2147483647 ∧ 0 ≤ c ∧ c ≤ n
theorem Dr.same {d : Addr} {n : Nat} {H H' : Hp} (h : Dr d n H) (s : Same H H') : Dr d n H' := by
  obtain ⟨a, b, c, e, r⟩ := h
  exact ⟨a, b, c, s _ _ e, r⟩
theorem Dr.ne {d p : Addr} {n : Nat} {H : Hp} (h : Dr d n H) (e : H p = none) : p ≠ d := by
  obtain ⟨a, b, c, z, _⟩ := h
  exact (ne_of_none z e).symm
theorem Dr.mono {d : Addr} {n m : Nat} {H : Hp} (h : Dr d n H) (e : n ≤ m) : Dr d m H := by
  obtain ⟨a, b, c, z, h1, h2, h3, h4⟩ := h
  exact ⟨a, b, c, z, h1, h2, h3, by omega⟩
theorem Dr.upd {d p : Addr} {n : Nat} {H : Hp} {o : HO} (h : Dr d n H) (e : p ≠ d) : Dr d n (L2.upd H p o) := by
  obtain ⟨a, b, c, z, r⟩ := h
  exact ⟨a, b, c, by rw [upd_ne e.symm]; exact z, r⟩
theorem yesT {σ : L2.St} {H : Hp} {A B : Hp → Prop} (h : A H) : tYes σ H (fun b H3 => if b = true then A H3 else B H3) := by
  show if true = true then A H else B H
  exact iteT h
/-! ### what is no own object -/
inductive Th (K : PySem.W.Frag) (H : Hp) : V → Prop
  | int (i : Int) : Th K H (.int i)
  | bl (b : Bool) : Th K H (.bl b)
  | str (z : Str) : Th K H (.str z)
  | non : Th K H .non
  | lst {a : Addr} (h : TyX K H (.ref a) (.type "list")) : Th K H (.ref a)
  | tup {a : Addr} (h : TyX K H (.ref a) (.type "tuple")) : Th K H (.ref a)
  | dct {a : Addr} (h : TyX K H (.ref a) (.type "dict")) : Th K H (.ref a)
def isI : V → Bool
  | .int _ => true
  | _ => false
def isB : V → Bool
  | .bl _ => true
  | _ => false
def isS : V → Bool
  | .str _ => true
  | _ => false
theorem isi_int {K : PySem.W.Frag} {H : Hp} {v : V} (h : Th K H v) : ∃ t, TyX K H v t ∧ PySem.W.kitOne K t (.type "int") = some (isI v || isB v) := by
  cases h with
  | int i => exact ⟨_, .base (.int i), kit_ty (r := true) (by decide +kernel)⟩
  | bl b => exact ⟨_, .base (.bl b), kit_ty (r := true) (by decide +kernel)⟩
  | str z => exact ⟨_, .base (.str z), kit_ty (r := false) (by decide +kernel)⟩
  | non => exact ⟨_, .base .non, kit_ty (r := false) (by decide +kernel)⟩
  | lst h => exact ⟨_, h, kit_ty (r := false) (by decide +kernel)⟩
  | tup h => exact ⟨_, h, kit_ty (r := false) (by decide +kernel)⟩
  | dct h => exact ⟨_, h, kit_ty (r := false) (by decide +kernel)⟩
theorem isi_bool {K : PySem.W.Frag} {H : Hp} {v : V} (h : Th K H v) : ∃ t, TyX K H v t ∧ PySem.W.kitOne K t (.type "bool") = some (isB v) := by
  cases h with
  | int i => exact ⟨_, .base (.int i), kit_ty (r := false) (by decide +kernel)⟩
  | bl b => exact ⟨_, .base (.bl b), kit_ty (r := true) (by decide +kernel)⟩
  | str z => exact ⟨_, .base (.str z), kit_ty (r := false) (by decide +kernel)⟩
  | non => exact ⟨_, .base .non, kit_ty (r := false) (by decide +kernel)⟩
  | lst h => exact ⟨_, h, kit_ty (r := false) (by decide +kernel)⟩
  | tup h => exact ⟨_, h, kit_ty (r := false) (by decide +kernel)⟩
  | dct h => exact ⟨_, h, kit_ty (r := false) (by decide +kernel)⟩
theorem isi_str {K : PySem.W.Frag} {H : Hp} {v : V} (h : Th K H v) : ∃ t, TyX K H v t ∧ PySem.W.kitOne K t (.type "str") = some (isS v) := by
  cases h with
  | int i => exact ⟨_, .base (.int i), kit_ty (r := false) (by decide +kernel)⟩
  | bl b => exact ⟨_, .base (.bl b), kit_ty (r := false) (by decide +kernel)⟩
  | str z => exact ⟨_, .base (.str z), kit_ty (r := true) (by decide +kernel)⟩
  | non => exact ⟨_, .base .non, kit_ty (r := false) (by decide +kernel)⟩
  | lst h => exact ⟨_, h, kit_ty (r := false) (by decide +kernel)⟩
  | tup h => exact ⟨_, h, kit_ty (r := false) (by decide +kernel)⟩
  | dct h => exact ⟨_, h, kit_ty (r := false) (by decide +kernel)⟩
/-! ### signs -/
def lower (c : Nat) : Bool := decide (97 ≤ c) && decide (c ≤ 122)
def figure (c : Nat) : Bool := decide (48 ≤ c) && decide (c ≤ 57)
theorem sgl_lt (a b : Nat) : (([a] : List Nat) < [b]) ↔ a < b := by
  rw [List.cons_lt_cons_iff]
  simp
theorem ge_a (c : Nat) : (!decide ((⟨#[c]⟩ : Str).cps.toList < ("a" : Str).cps.toList)) = decide (97 ≤ c) := by
  have e : ("a" : Str).cps.toList = [97] := by decide +kernel
  rw [e]
  show (!decide ([c] < [97])) = _
  rw [decide_eq_decide.mpr (sgl_lt c 97), ← decide_not, decide_eq_decide]
  omega
theorem le_z (c : Nat) : (!decide (("z" : Str).cps.toList < (⟨#[c]⟩ : Str).cps.toList)) = decide (c ≤ 122) := by
  have e : ("z" : Str).cps.toList = [122] := by decide +kernel
  rw [e]
  show (!decide ([122] < [c])) = _
  rw [decide_eq_decide.mpr (sgl_lt 122 c), ← decide_not, decide_eq_decide]
  omega
theorem in_az (c : Nat) : decide (c ∈ ("abcdefghijklmnopqrstuvwxyz" : Str).cps.toList) = lower c := by
  have e : ("abcdefghijklmnopqrstuvwxyz" : Str).cps.toList = (List.range 26).map (· + 97) := by decide +kernel
  unfold lower
  rw [e, ← Bool.decide_and, decide_eq_decide, List.mem_map]
  constructor
  · rintro ⟨a, ha, rfl⟩
    rw [List.mem_range] at ha
    omega
  · intro h
    exact ⟨c - 97, List.mem_range.mpr (by omega), by omega⟩
theorem in_09 (c : Nat) : decide (c ∈ ("0123456789" : Str).cps.toList) = figure c := by
  have e : ("0123456789" : Str).cps.toList = (List.range 10).map (· + 48) := by decide +kernel
  unfold figure
  rw [e, ← Bool.decide_and, decide_eq_decide, List.mem_map]
  constructor
  · rintro ⟨a, ha, rfl⟩
    rw [List.mem_range] at ha
    omega
  · intro h
    exact ⟨c - 48, List.mem_range.mpr (by omega), by omega⟩
/-! ### numbers by figures -/
open NumText TL
theorem fold_lt : ∀ (cs : List Nat) (a : Nat), AllDigits cs → a * 10 ^ cs.length ≤ cs.foldl (fun acc c => acc * 10 + (c - 48)) a ∧ cs.foldl (fun acc c => acc * 10 + (c - 48)) a < (a + 1) * 10 ^ cs.length
  | [], a, _ => by simp
  | c :: cs, a, h => by
    have hc := h.head
    have ih := fold_lt cs (a * 10 + (c - 48)) h.tail
    rw [List.foldl_cons, List.length_cons, Nat.pow_succ]
    have p : 0 < 10 ^ cs.length := Nat.pos_of_ne_zero (by simp)
    generalize 10 ^ cs.length = q at *
    refine ⟨Nat.le_trans ?_ ih.1, Nat.lt_of_lt_of_le ih.2 ?_⟩
    · have : a * (q * 10) = (a * 10) * q := by rw [Nat.mul_comm q 10, ← Nat.mul_assoc]
      rw [this]
      exact Nat.mul_le_mul_right q (by omega)
    · have : (a + 1) * (q * 10) = ((a + 1) * 10) * q := by rw [Nat.mul_comm q 10, ← Nat.mul_assoc]
      rw [this]
      exact Nat.mul_le_mul_right q (by omega)
theorem val_lt {cs : List Nat} (h : AllDigits cs) : digitsVal cs < 10 ^ cs.length := by
  have := (fold_lt cs 0 h).2
  rw [Nat.zero_add, Nat.one_mul] at this
  exact this
theorem val_ge {c : Nat} {cs : List Nat} (h : AllDigits (c :: cs)) (hc : c ≠ 48) : 10 ^ cs.length ≤ digitsVal (c :: cs) := by
  have h1 := h.head
  have := (fold_lt cs (0 * 10 + (c - 48)) h.tail).1
  refine Nat.le_trans ?_ this
  have : 1 * 10 ^ cs.length ≤ (0 * 10 + (c - 48)) * 10 ^ cs.length := Nat.mul_le_mul_right _ (by omega)
  omega
theorem val_zero {cs : List Nat} : digitsVal (48 :: cs) = digitsVal cs := rfl
/-- the figures of a number have as many signs as the word just where it has no nought ahead of others -/
theorem len_canon {c : Nat} {cs : List Nat} (h : AllDigits (c :: cs)) : (numL (digitsVal (c :: cs))).length = (c :: cs).length ↔ ¬ (c = 48 ∧ 1 < (c :: cs).length) := by
  constructor
  · rintro e ⟨rfl, hl⟩
    rw [val_zero] at e
    rw [List.length_cons] at e hl
    have := numL_len (n := digitsVal cs) (k := cs.length) (by omega) (val_lt h.tail)
    omega
  · intro hn
    by_cases hc : c = 48
    · subst hc
      have : cs = [] := by
        cases cs with
        | nil => rfl
        | cons d r =>
          exact absurd ⟨rfl, by rw [List.length_cons, List.length_cons]; omega⟩ hn
      subst this
      rw [val_zero]
      show (numL 0).length = 1
      rw [numL_lt (by decide)]
      rfl
    · have u := numL_len (n := digitsVal (c :: cs)) (k := (c :: cs).length) (by rw [List.length_cons]; omega) (val_lt h)
      have l := val_ge h hc
      have v := val_lt (numL_digits (digitsVal (c :: cs)))
      rw [numL_val] at v
      have w : 10 ^ cs.length < 10 ^ (numL (digitsVal (c :: cs))).length := Nat.lt_of_le_of_lt l v
      have := (Nat.pow_lt_pow_iff_right (by decide : 1 < 10)).mp w
      rw [List.length_cons] at *
      omega
/-- words of figures of one length and one worth are one -/
theorem fold_inj : ∀ (cs ds : List Nat) (a b : Nat), AllDigits cs → AllDigits ds → cs.length = ds.length → cs.foldl (fun acc c => acc * 10 + (c - 48)) a = ds.foldl (fun acc c => acc * 10 + (c - 48)) b → a = b ∧ cs = ds
  | [], [], a, b, _, _, _, e => ⟨e, rfl⟩
  | [], _ :: _, _, _, _, _, l, _ => by simp at l
  | _ :: _, [], _, _, _, _, l, _ => by simp at l
  | c :: cs, d :: ds, a, b, h1, h2, l, e => by
    have q := fold_inj cs ds (a * 10 + (c - 48)) (b * 10 + (d - 48)) h1.tail h2.tail (by simpa using l) e
    have hc := h1.head
    have hd := h2.head
    have e1 := q.1
    have : a = b ∧ c = d := by omega
    exact ⟨this.1, by rw [this.2, q.2]⟩
theorem canon_eq {c : Nat} {cs : List Nat} (h : AllDigits (c :: cs)) (hn : ¬ (c = 48 ∧ 1 < (c :: cs).length)) : numL (digitsVal (c :: cs)) = c :: cs :=
  (fold_inj _ _ 0 0 (numL_digits _) h ((len_canon h).mpr hn) (numL_val _)).2
end KA
namespace KA
open PySem PySem.Spec PyProof.Rows L2
section
variable {X : Cx}
/-- a text many times -/
def timesS (z : Str) (n : Nat) : Str := ⟨(List.replicate n z.cps).foldl (· ++ ·) #[]⟩
theorem times_fold (c : Nat) : ∀ (n : Nat) (a : Array Nat), ((List.replicate n #[c]).foldl (· ++ ·) a).toList = a.toList ++ List.replicate n c
  | 0, a => by simp
  | n + 1, a => by
    rw [List.replicate_succ, List.foldl_cons, times_fold c n (a ++ #[c]), Array.toList_append, List.append_assoc]
    rfl
theorem times_list {z : Str} {c n : Nat} (h : z.cps = #[c]) : (timesS z n).cps.toList = List.replicate n c := by
  unfold timesS
  show ((List.replicate n z.cps).foldl (· ++ ·) #[]).toList = _
  rw [h, times_fold c n #[]]
  rfl
theorem times_len {z : Str} {c n : Nat} (h : z.cps = #[c]) : (timesS z n).length = n := by
  show (timesS z n).cps.size = n
  rw [← Array.length_toList, times_list h, List.length_replicate]
theorem op_mulS : OpR X (binaryOp .Mult) (fun x y H Q => ∃ (z : Str) (k : Int), x = .str z ∧ y = .int k ∧ 2 ≤ k ∧ k ≤ 100000 ∧ (∃ c, z.cps = #[c]) ∧ Q (.str (timesS z k.toNat)) H) := by
  intro pins s σ H x y v u Q I rx ry h
  obtain ⟨z, k, rfl, rfl, h2, h3, ⟨c, hc⟩, q⟩ := h
  have hz : z.length = 1 := by
    show z.cps.size = 1
    rw [hc]
    rfl
  obtain ⟨t, rfl⟩ := rx
  obtain ⟨t', rfl⟩ := ry
  refine PySem.P.mul_str ?_ ?_ ?_ ?_
  · rw [decide_eq_false (by omega), decide_eq_false (by omega)]
    rfl
  · intro _ _
    rw [hz]
    have : (1 : Int) ≤ (2 ^ 63 - 1) / k := by
      have : (2 ^ 63 - 1 : Int) / k ≥ 1 := (Int.le_ediv_iff_mul_le (by omega)).mpr (by omega)
      exact this
    omega
  · intro _ _
    rw [hz]
    exact decide_eq_false (by
      have : (100000 : Nat) ≤ sizeLine := by decide
      show ¬ _ > _
      omega)
  · have hk1 : (k == 1) = false := by
      rw [beq_eq_false_iff_ne]
      omega
    rw [if_neg (by omega), if_neg (by rw [hk1, hz]; decide)]
    refine ⟨?_, ⟨.str (timesS z k.toNat), H, I.tok _, ⟨_, rfl⟩, q⟩⟩
    have e := times_len (n := k.toNat) hc
    have : (100000 : Nat) ≤ sizeLine := by decide
    show (timesS z k.toNat).length ≤ sizeLine
    omega
end

/-! ### comprehensions over a text -/
/-- [truth of each sign] -/
theorem lc_all {z : Str} {H : Hp} {D : Addr} (hD : H D = none) (hz : z.length ≤ 100000) (f : Nat → Bool) {g : TG} {tt : TT} {te : TE} {vs : List Nat} {σ : L2.St} {Qd : Hp → Prop}
    (turn : ∀ (c : Nat) (H2 : Hp) (R : V → Hp → Prop) (C : Hp → Prop), Same H H2 → R (.bl (f c)) H2 → g (.str ⟨#[c]⟩) (wipe σ vs) H2 fun σ2 H2 => wipe σ2 vs = wipe σ vs ∧ tt σ2 H2 fun b H3 => if b = true then te σ2 H3 R else C H3)
    (fin : ∀ H', Same H H' → H' D = some (.lst ((z.cps.toList.map f).map V.bl)) → Qd H') :
    ∃ W : Nat → Nat → Hp → Prop, (∃ m, W 0 m (upd H D (.lst []))) ∧ ∀ i m H, W i m H →
      ((Its z).stop i H ∧ Qd H) ∨ ((Its z).go i H ∧ ∃ Nx : Hp → Prop, (∀ H', Nx H' → ∃ m', m' < m ∧ W (i + 1) m' H') ∧ ∀ x H', (Its z).yld i H x H' → g x (wipe σ vs) H' fun σ2 H2 => wipe σ2 vs = wipe σ vs ∧ tt σ2 H2 fun b H3 =>
        if b = true then te σ2 H3 fun y H4 => ∃ acc, H4 D = some (.lst acc) ∧ acc.length < sizeLine ∧ Nx (upd H4 D (.lst (acc ++ [y]))) else Nx H3) := by
  have hzl : z.length ≤ sizeLine := Nat.le_trans hz (by decide)
  refine lc_it walk_str (fun i H' => Same H H' ∧ H' D = some (.lst (((z.cps.toList.take i).map f).map V.bl))) ⟨same_upd hD, upd_same⟩ (fun _ _ _ _ => trivial) ?_ ?_
  · rintro i x H1 H2 hi ⟨s1, e1⟩ ⟨rfl, c, hc, rfl⟩
    refine turn c _ _ _ s1 ?_
    have hc' : z.cps.toList[i]? = some c := by rw [Array.getElem?_toList]; exact hc
    refine ⟨_, e1, ?_, fun b o h => ?_, ?_⟩
    · rw [List.length_map, List.length_map, List.length_take]
      exact Nat.lt_of_le_of_lt (Nat.min_le_left _ _) (Nat.lt_of_lt_of_le hi hzl)
    · rw [upd_ne (ne_of_none h hD)]
      exact s1 _ _ h
    · rw [upd_same, List.take_add_one, hc', List.map_append, List.map_append]
      rfl
  · rintro H' ⟨s1, e1⟩
    have ef : z.cps.toList.take z.cps.size = z.cps.toList := List.take_of_length_le (by rw [Array.length_toList]; exact Nat.le_refl _)
    rw [ef] at e1
    exact fin H' s1 e1
def sg (c : Nat) : V := .str ⟨#[c]⟩
/-- [sign for sign in text if ..] -/
theorem lc_filter {z : Str} {H : Hp} {D : Addr} (hD : H D = none) (hz : z.length ≤ 100000) (f : Nat → Bool) {g : TG} {tt : TT} {te : TE} {vs : List Nat} {σ : L2.St} {Qd : Hp → Prop}
    (turn : ∀ (c : Nat) (H2 : Hp) (R : V → Hp → Prop) (C : Hp → Prop), Same H H2 → (f c = true → R (sg c) H2) → (f c = false → C H2) → g (.str ⟨#[c]⟩) (wipe σ vs) H2 fun σ2 H2 => wipe σ2 vs = wipe σ vs ∧ tt σ2 H2 fun b H3 => if b = true then te σ2 H3 R else C H3)
    (fin : ∀ H', Same H H' → H' D = some (.lst ((z.cps.toList.filter f).map sg)) → Qd H') :
    ∃ W : Nat → Nat → Hp → Prop, (∃ m, W 0 m (upd H D (.lst []))) ∧ ∀ i m H, W i m H →
      ((Its z).stop i H ∧ Qd H) ∨ ((Its z).go i H ∧ ∃ Nx : Hp → Prop, (∀ H', Nx H' → ∃ m', m' < m ∧ W (i + 1) m' H') ∧ ∀ x H', (Its z).yld i H x H' → g x (wipe σ vs) H' fun σ2 H2 => wipe σ2 vs = wipe σ vs ∧ tt σ2 H2 fun b H3 =>
        if b = true then te σ2 H3 fun y H4 => ∃ acc, H4 D = some (.lst acc) ∧ acc.length < sizeLine ∧ Nx (upd H4 D (.lst (acc ++ [y]))) else Nx H3) := by
  have hzl : z.length ≤ sizeLine := Nat.le_trans hz (by decide)
  refine lc_it walk_str (fun i H' => Same H H' ∧ H' D = some (.lst (((z.cps.toList.take i).filter f).map sg))) ⟨same_upd hD, upd_same⟩ (fun _ _ _ _ => trivial) ?_ ?_
  · rintro i x H1 H2 hi ⟨s1, e1⟩ ⟨rfl, c, hc, rfl⟩
    have hc' : z.cps.toList[i]? = some c := by rw [Array.getElem?_toList]; exact hc
    refine turn c _ _ _ s1 (fun hf => ?_) (fun hf => ?_)
    · refine ⟨_, e1, ?_, fun b o h => ?_, ?_⟩
      · rw [List.length_map]
        refine Nat.lt_of_le_of_lt (List.length_filter_le _ _) ?_
        rw [List.length_take]
        exact Nat.lt_of_le_of_lt (Nat.min_le_left _ _) (Nat.lt_of_lt_of_le hi hzl)
      · rw [upd_ne (ne_of_none h hD)]
        exact s1 _ _ h
      · rw [upd_same, List.take_add_one, hc', List.filter_append, List.map_append]
        show _ = some (HO.lst (_ ++ List.map sg (List.filter f [c])))
        rw [List.filter_cons_of_pos hf]
        rfl
    · refine ⟨s1, ?_⟩
      rw [e1, List.take_add_one, hc', List.filter_append, List.map_append]
      show _ = some (HO.lst (_ ++ List.map sg (List.filter f [c])))
      rw [List.filter_cons_of_neg (by rw [hf]; exact Bool.false_ne_true)]
      show _ = some (HO.lst (_ ++ []))
      rw [List.append_nil]
  · rintro H' ⟨s1, e1⟩
    have ef : z.cps.toList.take z.cps.size = z.cps.toList := List.take_of_length_le (by rw [Array.length_toList]; exact Nat.le_refl _)
    rw [ef] at e1
    exact fin H' s1 e1
/-- a list of signs beside [] -/
theorem dp_signs {K : PySem.W.Frag} {H : Hp} : ∀ cs : List Nat, DpAll K H (cs.map sg) (cs.map fun c => PyData.str ⟨#[c]⟩)
  | [] => .nil
  | c :: cs => .cons (.str _) (dp_signs cs)
theorem eqv_nil (ds : List PyData) : PyData.eqv (.list ds) (.list []) = ds.isEmpty := by
  cases ds with
  | nil => rfl
  | cons d r => rfl
theorem lay_signs : ∀ cs : List Nat, (∀ c ∈ cs, c < 128) → PyData.canLayAll0 (cs.map fun c => PyData.str ⟨#[c]⟩) = true
  | [], _ => rfl
  | c :: r, h => by
    have h1 := h c (List.mem_cons_self ..)
    have h2 := lay_signs r fun d hd => h d (List.mem_cons_of_mem _ hd)
    show (PyData.canLay0 (.str ⟨#[c]⟩) && PyData.canLayAll0 (r.map fun c => PyData.str ⟨#[c]⟩)) = true
    rw [h2, Bool.and_true]
    show (#[c].all (· < 0x110000)) = true
    simp
    omega
theorem dep_signs : ∀ cs : List Nat, PyData.depthAll (cs.map fun c => PyData.str ⟨#[c]⟩) = 0
  | [] => rfl
  | c :: r => by
    show max 0 (PyData.depthAll (r.map fun c => PyData.str ⟨#[c]⟩)) = 0
    rw [dep_signs r]
    rfl
theorem shp_signs {cs : List Nat} (h : ∀ c ∈ cs, c < 128) : SeqAt.shaped (.list (cs.map fun c => PyData.str ⟨#[c]⟩)) = true := by
  unfold SeqAt.shaped
  have e1 : PyData.canLay0 (.list (cs.map fun c => PyData.str ⟨#[c]⟩)) = true := lay_signs cs h
  have e2 : PyData.depth (.list (cs.map fun c => PyData.str ⟨#[c]⟩)) = 1 := by
    show PyData.depthAll _ + 1 = 1
    rw [dep_signs]
  rw [e1, e2]
  rfl
/-- signs below 128 alone -/
def Asc (z : Str) : Prop := ∀ c ∈ z.cps.toList, c < 128
theorem asc_cut {z : Str} (h : Asc z) (lo hi : Option Int) : Asc (cutS z lo hi) := fun c hc => h c (List.mem_of_mem_drop (List.mem_of_mem_take hc))
theorem asc_app {x y : Str} (hx : Asc x) (hy : Asc y) : Asc (x ++ y) := fun c hc => by
  have hc : c ∈ TL.tl (x ++ y) := hc
  rw [TL.tl_append] at hc
  rcases List.mem_append.mp hc with h | h
  · exact hx c h
  · exact hy c h
theorem asc_upper {z : Str} (h : Asc z) : Asc (Txt.upper z) ∧ (Txt.upper z).length = z.length := by
  rw [PyProof.Rows.upper_ascii h]
  refine ⟨fun c hc => ?_, ?_⟩
  · have hc : c ∈ (z.cps.map PyProof.Rows.up1).toList := hc
    rw [Array.toList_map] at hc
    obtain ⟨a, ha, rfl⟩ := List.mem_map.mp hc
    have := h a ha
    unfold PyProof.Rows.up1
    split <;> omega
  · show (z.cps.map PyProof.Rows.up1).size = z.cps.size
    rw [Array.size_map]
theorem asc_of {z : Str} {cs : List Nat} (h : z.cps.toList = cs) (hl : ∀ c ∈ cs, c < 128) : Asc z := fun c hc => hl c (by rw [← h]; exact hc)
theorem lower_lt {c : Nat} (h : lower c = true) : c < 128 := by
  unfold lower at h
  simp only [Bool.and_eq_true, decide_eq_true_eq] at h
  omega
theorem figure_lt {c : Nat} (h : figure c = true) : c < 128 := by
  unfold figure at h
  simp only [Bool.and_eq_true, decide_eq_true_eq] at h
  omega
theorem filter_none {l : List Nat} {f : Nat → Bool} : (l.filter (fun c => !f c)).isEmpty = l.all f := by
  induction l with
  | nil => rfl
  | cons c r ih =>
    rw [List.filter_cons, List.all_cons]
    cases h : f c with
    | true => simpa using ih
    | false => rfl
theorem str_sign {c d : Nat} {z : Str} (h : z.cps = #[d]) : decide (V.str ⟨#[c]⟩ = V.str z) = decide (c = d) := by
  obtain ⟨z⟩ := z
  rw [decide_eq_decide]
  constructor
  · intro e
    injection e with e
    injection e with e
    rw [show z = #[d] from h] at e
    injection e with e
    injection e
  · rintro rfl
    rw [show z = #[c] from h]
/-! ### a text joined of signs -/
open TL
theorem join_signs : ∀ cs : List Nat, joinL [] ((cs.map fun c => (⟨#[c]⟩ : Str)).map tl) = cs
  | [] => rfl
  | [c] => rfl
  | c :: d :: r => by
    show [c] ++ ([] ++ joinL [] (((d :: r).map fun c => (⟨#[c]⟩ : Str)).map tl)) = c :: d :: r
    rw [join_signs (d :: r)]
    rfl
theorem join_text {y : Str} (hy : tl y = []) (cs : List Nat) : (Txt.join y (cs.map fun c => (⟨#[c]⟩ : Str))).cps.toList = cs := by
  show tl (Txt.join y _) = cs
  rw [join_eq, tl_join, hy, join_signs]
theorem size_signs : ∀ cs : List Nat, ((cs.map fun c => (⟨#[c]⟩ : Str)).map (·.length)).sum = cs.length
  | [] => rfl
  | c :: r => by
    rw [List.map_cons, List.map_cons, List.sum_cons, size_signs r, List.length_cons]
    show 1 + r.length = _
    omega

/-- [.. for _ in range(k)], each a drawn sign -/
theorem lc_draw {d D : Addr} {n k : Nat} {H1 : Hp} (hD : H1 D = none) (dr : Dr d n H1) (hk : k ≤ 1000) (p : Nat → Bool) {g : TG} {tt : TT} {te : TE} {vs : List Nat} {σ : L2.St} {Qd : Hp → Prop}
    (turn : ∀ (i : Nat) (H2 : Hp) (R : V → Hp → Prop) (C : Hp → Prop), i < k → Dr d (n + i) H2 → (∀ H3 c, p c = true → But d H2 H3 → Dr d (n + i + 1) H3 → R (sg c) H3) → g (.int (0 + i)) (wipe σ vs) H2 fun σ2 H2 => wipe σ2 vs = wipe σ vs ∧ tt σ2 H2 fun b H3 => if b = true then te σ2 H3 R else C H3)
    (fin : ∀ H' (cs : List Nat), cs.length = k → (∀ c ∈ cs, p c = true) → But d H1 H' → Dr d (n + k) H' → H' D = some (.lst (cs.map sg)) → Qd H') :
    ∃ W : Nat → Nat → Hp → Prop, (∃ m, W 0 m (upd H1 D (.lst []))) ∧ ∀ i m H, W i m H →
      ((Itr 0 k).stop i H ∧ Qd H) ∨ ((Itr 0 k).go i H ∧ ∃ Nx : Hp → Prop, (∀ H', Nx H' → ∃ m', m' < m ∧ W (i + 1) m' H') ∧ ∀ x H', (Itr 0 k).yld i H x H' → g x (wipe σ vs) H' fun σ2 H2 => wipe σ2 vs = wipe σ vs ∧ tt σ2 H2 fun b H3 =>
        if b = true then te σ2 H3 fun y H4 => ∃ acc, H4 D = some (.lst acc) ∧ acc.length < sizeLine ∧ Nx (upd H4 D (.lst (acc ++ [y]))) else Nx H3) := by
  have nD : D ≠ d := dr.ne hD
  refine lc_range (lo := 0) (n := k) (fun i H' => ∃ cs : List Nat, cs.length = i ∧ (∀ c ∈ cs, p c = true) ∧ But d H1 H' ∧ Dr d (n + i) H' ∧ H' D = some (.lst (cs.map sg))) ⟨[], rfl, (fun _ h => nomatch h), But.new hD, dr.upd nD, upd_same⟩ ?_ ?_
  · rintro i H2 hi ⟨cs, hl, hp, b2, dr2, e2⟩
    refine turn i H2 _ _ hi dr2 fun H3 c hc b3 dr3 => ?_
    refine ⟨_, b3 _ _ nD e2, ?_, cs ++ [c], ?_, ?_, ?_, ?_, ?_⟩
    · rw [List.length_map, hl]
      exact Nat.lt_of_lt_of_le (show i < 1000 by omega) (by decide)
    · rw [List.length_append, hl]
      rfl
    · intro x hx
      rcases List.mem_append.mp hx with h | h
      · exact hp x h
      · rw [List.mem_singleton.mp h]
        exact hc
    · exact (b2.trans b3).mut hD
    · exact (dr3.upd nD).mono (by omega)
    · rw [upd_same, List.map_append]
      rfl
  · rintro H' ⟨cs, hl, hp, b, dr', e⟩
    exact fin H' cs hl hp b dr' e
theorem map_sg (cs : List Nat) : (cs.map fun c => (⟨#[c]⟩ : Str)).map V.str = cs.map sg := by
  rw [List.map_map]
  rfl
theorem join_len {y : Str} (hy : TL.tl y = []) (cs : List Nat) : (Txt.join y (cs.map fun c => (⟨#[c]⟩ : Str))).length = cs.length := by
  have := join_text hy cs
  show (Txt.join y (cs.map fun c => (⟨#[c]⟩ : Str))).cps.size = _
  rw [← Array.length_toList, this]
theorem az_at {r : Int} (h0 : 0 ≤ r) (h1 : r < 26) : ∃ c, atI ("abcdefghijklmnopqrstuvwxyz" : Str).cps.toList r = some c ∧ lower c = true := by
  obtain ⟨j, rfl⟩ : ∃ j : Nat, r = (j : Int) := ⟨r.toNat, by omega⟩
  have e : ("abcdefghijklmnopqrstuvwxyz" : Str).cps.toList = (List.range 26).map (· + 97) := by decide +kernel
  refine ⟨j + 97, atI_nat ?_, ?_⟩
  · rw [e, List.getElem?_map, List.getElem?_range (by omega)]
    rfl
  · unfold lower
    rw [decide_eq_true (by omega), decide_eq_true (by omega)]
    rfl
theorem fig_at {r : Int} (h0 : 0 ≤ r) (h1 : r < 10) : ∃ c, atI ("0123456789" : Str).cps.toList r = some c ∧ figure c = true := by
  obtain ⟨j, rfl⟩ : ∃ j : Nat, r = (j : Int) := ⟨r.toNat, by omega⟩
  have e : ("0123456789" : Str).cps.toList = (List.range 10).map (· + 48) := by decide +kernel
  refine ⟨j + 48, atI_nat ?_, ?_⟩
  · rw [e, List.getElem?_map, List.getElem?_range (by omega)]
    rfl
  · unfold figure
    rw [decide_eq_true (by omega), decide_eq_true (by omega)]
    rfl
theorem log_small {m : Int} (h0 : 0 < m) (h : m < 2 ^ 200) : m.natAbs.log2 < 9000 := by
  refine Nat.lt_of_lt_of_le (PySem.Flt.log2_lt_of (k := 200) (by decide) ?_) (by decide)
  have e : ((2 : Int) ^ 200) = ((2 ^ 200 : Nat) : Int) := by decide
  rw [e] at h
  omega
theorem log_tiny {m : Int} (h0 : 0 < m) (h : m < 1000000000000000000000000000000) : m.natAbs.log2 < 9000 := log_small h0 (Int.lt_trans h (by decide))
theorem at_str {z : Str} {r : Int} (h0 : 0 ≤ r) (h1 : r < (z.length : Int)) : ∃ c, atI z.cps.toList r = some c ∧ c ∈ z.cps.toList := by
  obtain ⟨j, rfl⟩ : ∃ j : Nat, r = (j : Int) := ⟨r.toNat, by omega⟩
  have hj : j < z.cps.toList.length := by
    have : z.cps.toList.length = z.length := Array.length_toList
    omega
  exact ⟨_, atI_nat (List.getElem?_eq_getElem hj), List.getElem_mem hj⟩
theorem sz (n : Nat) (h : n ≤ 100000) : n ≤ sizeLine := Nat.le_trans h (by decide)
theorem tyx_same {K : PySem.W.Frag} {H H' : Hp} (s : Same H H') {v : V} {t : Value} (h : TyX K H v t) : TyX K H' v t := by
  cases h with
  | base h =>
    cases h with
    | non => exact .base .non
    | bl b => exact .base (.bl b)
    | int i => exact .base (.int i)
    | str z => exact .base (.str z)
    | flt x => exact .base (.flt x)
    | lst e => exact .base (.lst (s _ _ e))
    | frz e => exact .base (.frz (s _ _ e))
    | tup e => exact .base (.tup (s _ _ e))
    | dK e => exact .base (.dK (s _ _ e))
    | dT e => exact .base (.dT (s _ _ e))
    | ins e cl ha hn htk hm => exact .base (.ins (s _ _ e) cl ha hn htk hm)
  | byt b => exact .byt b
  | set e => exact .set (s _ _ e)
  | kList e c => exact .kList e c
  | kTuple e c => exact .kTuple e c
  | kDict e c => exact .kDict e c
  | fTuple e => exact .fTuple (s _ _ e)
  | fDict e => exact .fDict (s _ _ e)
theorem Th.same {K : PySem.W.Frag} {H H' : Hp} (s : Same H H') {v : V} (h : Th K H v) : Th K H' v := by
  cases h with
  | int i => exact .int i
  | bl b => exact .bl b
  | str z => exact .str z
  | non => exact .non
  | lst h => exact .lst (tyx_same s h)
  | tup h => exact .tup (tyx_same s h)
  | dct h => exact .dct (tyx_same s h)
theorem cells_int {ns : List Int} {n : Int} {lo hi : Option Int} {i : Nat} {x : V} (h : ([V.int n] ++ cutV (ns.map V.int) lo hi)[i]? = some x) : ∃ k, x = .int k := by
  have hm := List.mem_of_getElem? h
  rcases List.mem_append.mp hm with h | h
  · exact ⟨n, List.mem_singleton.mp h⟩
  · have := List.mem_of_mem_drop (List.mem_of_mem_take h)
    obtain ⟨k, _, rfl⟩ := List.mem_map.mp this
    exact ⟨k, rfl⟩
end KA
namespace KB
open PySem PySem.Spec PyProof.Rows L2 KA
def topS (i : Nat) : Stmt := PySem.Challenge.pw_pearlrise_k01_names_and_numbers.main.body.getD i (.Pass ⟨0, 0, 0, 0⟩)
abbrev s_is_int : Stmt := topS 4
theorem sc_is_int : FnScope ["thing"] ["thing"] (defScope s_is_int) := ⟨rfl, rfl, rfl, by decide +kernel, rfl, by decide +kernel, by decide +kernel⟩
abbrev s_is_whole : Stmt := topS 5
theorem sc_is_whole : FnScope ["thing", "least", "most"] ["thing", "least", "most"] (defScope s_is_whole) := ⟨rfl, rfl, rfl, by decide +kernel, rfl, by decide +kernel, by decide +kernel⟩
abbrev s_is_name : Stmt := topS 6
theorem sc_is_name : FnScope ["thing", "sign"] ["thing"] (defScope s_is_name) := ⟨rfl, rfl, rfl, by decide +kernel, rfl, by decide +kernel, by decide +kernel⟩
abbrev s_is_number : Stmt := topS 7
theorem sc_is_number : FnScope ["thing"] ["thing"] (defScope s_is_number) := ⟨rfl, rfl, rfl, by decide +kernel, rfl, by decide +kernel, by decide +kernel⟩
abbrev s_whole_in : Stmt := topS 8
theorem sc_whole_in : FnScope ["word", "most", "sign"] ["word", "most"] (defScope s_whole_in) := ⟨rfl, rfl, rfl, by decide +kernel, rfl, by decide +kernel, by decide +kernel⟩
abbrev s_cell_at : Stmt := topS 10
theorem sc_cell_at : FnScope ["_law_script", "_law_k"] ["_law_script", "_law_k"] (defScope s_cell_at) := ⟨rfl, rfl, rfl, by decide +kernel, rfl, by decide +kernel, by decide +kernel⟩
abbrev s_draws : Stmt := topS 11
theorem sc_draws : FnScope ["_law_cell"] ["_law_cell"] (defScope s_draws) := ⟨rfl, rfl, rfl, by decide +kernel, rfl, by decide +kernel, by decide +kernel⟩
abbrev s_one : Stmt := topS 12
theorem sc_one : FnScope ["_law_draws_here", "_law_many", "_law_found", "_law_mix"] ["_law_draws_here", "_law_many"] (defScope s_one) := ⟨rfl, rfl, rfl, by decide +kernel, rfl, by decide +kernel, by decide +kernel⟩
abbrev s_of : Stmt := topS 13
theorem sc_of : FnScope ["_law_draws_here", "_law_some"] ["_law_draws_here", "_law_some"] (defScope s_of) := ⟨rfl, rfl, rfl, by decide +kernel, rfl, by decide +kernel, by decide +kernel⟩
abbrev s_word : Stmt := topS 14
theorem sc_word : FnScope ["_law_draws_here", "_law_most", "_law_letters", "_law_k"] ["_law_draws_here", "_law_most"] (defScope s_word) := ⟨rfl, rfl, rfl, by decide +kernel, rfl, by decide +kernel, by decide +kernel⟩
abbrev s_text : Stmt := topS 15
theorem sc_text : FnScope ["_law_draws_here", "_law_text_here", "_law_at", "_law_signs", "_law_sign", "_law_spoilt"] ["_law_draws_here"] (defScope s_text) := ⟨rfl, rfl, rfl, by decide +kernel, rfl, by decide +kernel, by decide +kernel⟩
abbrev s_figures : Stmt := topS 16
theorem sc_figures : FnScope ["_law_draws_here", "_law_word_here", "_law_at", "_law_sign", "_law_k"] ["_law_draws_here"] (defScope s_figures) := ⟨rfl, rfl, rfl, by decide +kernel, rfl, by decide +kernel, by decide +kernel⟩
abbrev s_is : Stmt := topS 17
theorem sc_is : FnScope ["_law_found", "_law_due"] ["_law_found", "_law_due"] (defScope s_is) := ⟨rfl, rfl, rfl, by decide +kernel, rfl, by decide +kernel, by decide +kernel⟩
abbrev s_name_right : Stmt := topS 18
theorem sc_name_right : FnScope ["_law_text_here", "_law_strange", "_law_sign"] ["_law_text_here"] (defScope s_name_right) := ⟨rfl, rfl, rfl, by decide +kernel, rfl, by decide +kernel, by decide +kernel⟩
abbrev s_number_right : Stmt := topS 19
theorem sc_number_right : FnScope ["_law_number", "_law_least", "_law_most"] ["_law_number", "_law_least", "_law_most"] (defScope s_number_right) := ⟨rfl, rfl, rfl, by decide +kernel, rfl, by decide +kernel, by decide +kernel⟩
abbrev s_word_right : Stmt := topS 20
theorem sc_word_right : FnScope ["_law_word_here", "_law_most", "_law_due", "_law_strange", "_law_found", "_law_sign"] ["_law_word_here", "_law_most"] (defScope s_word_right) := ⟨rfl, rfl, rfl, by decide +kernel, rfl, by decide +kernel, by decide +kernel⟩
abbrev s_law : Stmt := topS 21
theorem sc_law : FnScope ["_law_script", "_law_cell", "_law_draws_here", "_law_text_here", "_law_number", "_law_near", "_law_least", "_law_most", "_law_thing", "_law_found", "_law_one_here"] ["_law_script"] (defScope s_law) := ⟨rfl, rfl, rfl, by decide +kernel, rfl, by decide +kernel, by decide +kernel⟩
structure Tx (K : PySem.W.Frag) (mg : Str → Option Value) : Type where
  A_is_int : Addr
  fd_is_int : FuncData
  F_is_int : Fun K "is_int" "is_int" s_is_int A_is_int fd_is_int
  g_is_int : mg "is_int" = some (.ref A_is_int)
  b_is_int : Binds K fd_is_int ["thing"] []
  A_is_whole : Addr
  fd_is_whole : FuncData
  F_is_whole : Fun K "is_whole" "is_whole" s_is_whole A_is_whole fd_is_whole
  g_is_whole : mg "is_whole" = some (.ref A_is_whole)
  b_is_whole : Binds K fd_is_whole ["thing", "least", "most"] []
  A_is_name : Addr
  fd_is_name : FuncData
  F_is_name : Fun K "is_name" "is_name" s_is_name A_is_name fd_is_name
  g_is_name : mg "is_name" = some (.ref A_is_name)
  b_is_name : Binds K fd_is_name ["thing"] []
  A_is_number : Addr
  fd_is_number : FuncData
  F_is_number : Fun K "is_number" "is_number" s_is_number A_is_number fd_is_number
  g_is_number : mg "is_number" = some (.ref A_is_number)
  b_is_number : Binds K fd_is_number ["thing"] []
  A_whole_in : Addr
  fd_whole_in : FuncData
  F_whole_in : Fun K "whole_in" "whole_in" s_whole_in A_whole_in fd_whole_in
  g_whole_in : mg "whole_in" = some (.ref A_whole_in)
  b_whole_in : Binds K fd_whole_in ["word", "most"] []
  A_cell_at : Addr
  fd_cell_at : FuncData
  F_cell_at : Fun K "_law_cell_at" "_law_cell_at" s_cell_at A_cell_at fd_cell_at
  g_cell_at : mg "_law_cell_at" = some (.ref A_cell_at)
  b_cell_at : Binds K fd_cell_at ["_law_script", "_law_k"] []
  A_draws : Addr
  fd_draws : FuncData
  F_draws : Fun K "_law_draws" "_law_draws" s_draws A_draws fd_draws
  g_draws : mg "_law_draws" = some (.ref A_draws)
  b_draws : Binds K fd_draws ["_law_cell"] []
  A_one : Addr
  fd_one : FuncData
  F_one : Fun K "_law_one" "_law_one" s_one A_one fd_one
  g_one : mg "_law_one" = some (.ref A_one)
  b_one : Binds K fd_one ["_law_draws_here", "_law_many"] []
  A_of : Addr
  fd_of : FuncData
  F_of : Fun K "_law_of" "_law_of" s_of A_of fd_of
  g_of : mg "_law_of" = some (.ref A_of)
  b_of : Binds K fd_of ["_law_draws_here", "_law_some"] []
  A_word : Addr
  fd_word : FuncData
  F_word : Fun K "_law_word" "_law_word" s_word A_word fd_word
  g_word : mg "_law_word" = some (.ref A_word)
  b_word : Binds K fd_word ["_law_draws_here", "_law_most"] []
  A_text : Addr
  fd_text : FuncData
  F_text : Fun K "_law_text" "_law_text" s_text A_text fd_text
  g_text : mg "_law_text" = some (.ref A_text)
  b_text : Binds K fd_text ["_law_draws_here"] []
  A_figures : Addr
  fd_figures : FuncData
  F_figures : Fun K "_law_figures" "_law_figures" s_figures A_figures fd_figures
  g_figures : mg "_law_figures" = some (.ref A_figures)
  b_figures : Binds K fd_figures ["_law_draws_here"] []
  A_is : Addr
  fd_is : FuncData
  F_is : Fun K "_law_is" "_law_is" s_is A_is fd_is
  g_is : mg "_law_is" = some (.ref A_is)
  b_is : Binds K fd_is ["_law_found", "_law_due"] []
  A_name_right : Addr
  fd_name_right : FuncData
  F_name_right : Fun K "_law_name_right" "_law_name_right" s_name_right A_name_right fd_name_right
  g_name_right : mg "_law_name_right" = some (.ref A_name_right)
  b_name_right : Binds K fd_name_right ["_law_text_here"] []
  A_number_right : Addr
  fd_number_right : FuncData
  F_number_right : Fun K "_law_number_right" "_law_number_right" s_number_right A_number_right fd_number_right
  g_number_right : mg "_law_number_right" = some (.ref A_number_right)
  b_number_right : Binds K fd_number_right ["_law_number", "_law_least", "_law_most"] []
  A_word_right : Addr
  fd_word_right : FuncData
  F_word_right : Fun K "_law_word_right" "_law_word_right" s_word_right A_word_right fd_word_right
  g_word_right : mg "_law_word_right" = some (.ref A_word_right)
  b_word_right : Binds K fd_word_right ["_law_word_here", "_law_most"] []
  t_FIGURES : Tok
  g_FIGURES : mg "FIGURES" = some (.str "0123456789" t_FIGURES)
  t_LONGEST_NAME : Tok
  g_LONGEST_NAME : mg "LONGEST_NAME" = some (.int 8 t_LONGEST_NAME)
  t_GREATEST_NUMBER : Tok
  g_GREATEST_NUMBER : mg "GREATEST_NUMBER" = some (.int 1000000000 t_GREATEST_NUMBER)
  z_bool : mg "bool" = none
  z_isinstance : mg "isinstance" = none
  z_int : mg "int" = none
  z_len : mg "len" = none
  z_str : mg "str" = none
  z_all : mg "all" = none
  z_range : mg "range" = none
/-! ### what the defs are worth -/
def whl (v : V) (lo hi : Int) : Bool := match v with
  | .int i => decide (lo ≤ i) && decide (i ≤ hi)
  | _ => false
def nm (v : V) : Bool := match v with
  | .str z => decide (1 ≤ z.length) && decide (z.length ≤ 8) && z.cps.toList.all lower
  | _ => false
def goodWord (z : Str) (m : Int) : Bool := decide (1 ≤ z.length) && decide ((z.length : Int) ≤ m) && z.cps.toList.all figure && !(decide (z.cps.toList.head? = some 48) && decide (1 < z.length))
def wholeV (z : Str) (m : Int) : V := if goodWord z m = true then .int (NumText.digitsVal z.cps.toList : Nat) else .non
def spIsInt (K : PySem.W.Frag) : Sp := fun vs H Q _ => ∃ v, vs = [v] ∧ Th K H v ∧ Q (.bl (isI v)) H
def spIsWhole (K : PySem.W.Frag) : Sp := fun vs H Q _ => ∃ v lo hi, vs = [v, .int lo, .int hi] ∧ Th K H v ∧ Q (.bl (whl v lo hi)) H
def spIsNumber (K : PySem.W.Frag) : Sp := fun vs H Q _ => ∃ v, vs = [v] ∧ Th K H v ∧ Q (.bl (whl v 1 1000000000)) H
def spIsName (K : PySem.W.Frag) : Sp := fun vs H Q _ => ∃ v, vs = [v] ∧ Th K H v ∧ (∀ z, v = .str z → z.length ≤ 100000) ∧ ∀ H', Same H H' → Q (.bl (nm v)) H'
def spWholeIn : Sp := fun vs H Q _ => ∃ z m, vs = [.str z, .int m] ∧ z.length ≤ 100000 ∧ m ≤ 640 ∧ ∀ H', Same H H' → Q (wholeV z m) H'
section
variable {P : Program} {w : World} {K : PySem.W.Frag} {mg : Str → Option Value} {base : Heap}
theorem ok_is_int (T : Tx K mg) : FnOk P w K mg base CX0 1 T.A_is_int T.fd_is_int ["thing"] (spIsInt K) := by
  refine T.F_is_int.ok sc_is_int (fun vs H Q E h => ?_) (fun cdv A outer s H vs Q E hr h => ?_)
  · obtain ⟨v, rfl, th, q⟩ := h
    rfl
  obtain ⟨v, rfl, th, q⟩ := h
  refine ⟨_, (pss_one (ps_ret (pe_and (pe_callB call_isi (by rfl) T.z_isinstance (by decide +kernel) (pa_cons (pv 0) (pa_cons (pe_bltn (v := .ty "int") (by rfl) T.z_int (by decide +kernel) rfl) pa_nil))) (pe_one (pe_not (pe_callB call_isi (by rfl) T.z_isinstance (by decide +kernel) (pa_cons (pv 0) (pa_cons (pe_bltn (v := .ty "bool") (by rfl) T.z_bool (by decide +kernel) rfl) pa_nil)))))))), ?_⟩
  obtain ⟨t1, ty1, k1⟩ := isi_int th
  obtain ⟨t2, ty2, k2⟩ := isi_bool th
  refine ⟨_, rfl, v, _, t1, _, _, rfl, .ty _, ty1, k1, _, rfl, ?_⟩
  refine ite2 (fun e => ?_) (fun e => ?_)
  · refine ⟨_, rfl, v, _, t2, _, _, rfl, .ty _, ty2, k2, _, rfl, ?_⟩
    have : (!isB v) = isI v := by cases v <;> simp_all [isI, isB]
    rw [this]
    exact q
  · have : isI v = false := by cases v <;> simp_all [isI, isB]
    rw [this] at q
    exact q
theorem ok_is_whole (T : Tx K mg) : FnOk P w K mg base CX0 2 T.A_is_whole T.fd_is_whole ["thing", "least", "most"] (spIsWhole K) := by
  refine T.F_is_whole.ok sc_is_whole (fun vs H Q E h => ?_) (fun cdv A outer s H vs Q E hr h => ?_)
  · obtain ⟨v, lo, hi, rfl, th, q⟩ := h
    rfl
  obtain ⟨v, lo, hi, rfl, th, q⟩ := h
  refine ⟨_, (pss_one (ps_ret (pe_and (pe_call (ok_is_int T) (hr.mono (by decide)) (by rfl) T.g_is_int T.F_is_int.kp T.b_is_int .nil pass0 (pa_cons (pv 0) pa_nil)) (pe_one (pe_chain op_le op_le (pv 1) (pv 0) (pv 2)))))), ?_⟩
  refine ⟨_, rfl, v, rfl, th, _, rfl, ?_⟩
  cases v with
  | int i =>
    refine iteT ?_
    refine ⟨_, rfl, _, rfl, _, _, rfl, rfl, _, rfl, ?_⟩
    refine ite2 (fun e => ?_) (fun e => ?_)
    · refine ⟨_, rfl, _, _, rfl, rfl, ?_⟩
      have q : Q (.bl (decide (lo ≤ i) && decide (i ≤ hi))) H := q
      rw [e] at q
      exact q
    · have q : Q (.bl (decide (lo ≤ i) && decide (i ≤ hi))) H := q
      rw [Bool.not_eq_true] at e
      rw [e] at q
      exact q
  | _ => exact iteF q
theorem ok_is_number (T : Tx K mg) : FnOk P w K mg base CX0 3 T.A_is_number T.fd_is_number ["thing"] (spIsNumber K) := by
  refine T.F_is_number.ok sc_is_number (fun vs H Q E h => ?_) (fun cdv A outer s H vs Q E hr h => ?_)
  · obtain ⟨v, rfl, th, q⟩ := h
    rfl
  obtain ⟨v, rfl, th, q⟩ := h
  refine ⟨_, (pss_one (ps_ret (pe_call (ok_is_whole T) (hr.mono (by decide)) (by rfl) T.g_is_whole T.F_is_whole.kp T.b_is_whole .nil pass0 (pa_cons (pv 0) (pa_cons pe_int (pa_cons (pe_glob (v := .int 1000000000) (by rfl) T.g_GREATEST_NUMBER ⟨_, rfl⟩) pa_nil)))))), ?_⟩
  exact ⟨_, rfl, v, 1, 1000000000, rfl, th, q⟩
theorem nm_no {v : V} (h : isS v = false) : nm v = false := by cases v <;> simp_all [nm, isS]
theorem ok_is_name (T : Tx K mg) : FnOk P w K mg base CX0 1 T.A_is_name T.fd_is_name ["thing"] (spIsName K) := by
  refine T.F_is_name.ok sc_is_name (fun vs H Q E h => ?_) (fun cdv A outer s H vs Q E hr h => ?_)
  · obtain ⟨v, rfl, th, hz, q⟩ := h
    rfl
  obtain ⟨v, rfl, th, hz, q⟩ := h
  refine ⟨_, (pss_cons (ps_if (PW.pt (pw_or (pt_not (pt_val (pe_callB call_isi (by rfl) T.z_isinstance (by decide +kernel) (pa_cons (pv 0) (pa_cons (pe_bltn (v := .ty "str") (by rfl) T.z_str (by decide +kernel) rfl) pa_nil))))) (pw_or1 (pt_not (pt_chain op_le op_le pe_int (pe_callB call_len_str (by rfl) T.z_len PySem.boot_len (pa_cons (pv 0) pa_nil)) (pe_glob (v := .int 8) (by rfl) T.g_LONGEST_NAME ⟨_, rfl⟩)))))) (pss_one (ps_ret pe_bl)) pss_nil)
      (pss_one (ps_ret (pe_callB (cr_all rfl) (by rfl) T.z_all (by decide +kernel) (pa_cons (pe_lc (own := [("sign", 1)]) (g := gName 1) (tt := tYes) rfl sc_is_name.nd (pi_str (pv 0)) (blkOk_by (N := ["thing", "sign"]) (sc := defScope s_is_name) (by decide +kernel)) (fun _ _ _ _ _ => (pg_name (i := 1) sc_is_name.nd rfl (Or.inl rfl))) (fun _ _ _ _ _ => pts_nil) (fun _ _ _ _ _ => (pe_chain op_le_str op_le_str pe_str (pv 1) pe_str))) pa_nil))))), ?_⟩
  obtain ⟨t1, ty1, k1⟩ := isi_str th
  refine ⟨_, rfl, v, _, t1, _, _, rfl, .ty _, ty1, k1, _, rfl, ?_⟩
  by_cases hs : isS v = true
  · obtain ⟨z, rfl⟩ : ∃ z, v = .str z := by
      cases v with
      | str z => exact ⟨z, rfl⟩
      | _ => cases hs
    have hz := hz z rfl
    have hzl : z.length ≤ sizeLine := Nat.le_trans hz (by decide)
    rw [hs]
    refine iteF ?_
    refine ⟨_, rfl, z, rfl, hzl, _, _, rfl, rfl, _, rfl, ?_⟩
    by_cases h1 : 1 ≤ z.length
    · rw [decide_eq_true (show (1 : Int) ≤ (z.length : Int) by omega)]
      refine iteT ⟨_, _, rfl, rfl, _, rfl, ?_⟩
      by_cases h2 : z.length ≤ 8
      · rw [decide_eq_true (show (z.length : Int) ≤ 8 by omega)]
        refine iteF ?_
        refine ⟨_, rfl, z, rfl, fun D hD => lc_it walk_str (fun i H' => Same H H' ∧ H' D = some (.lst (((z.cps.toList.take i).map lower).map V.bl))) ⟨same_upd hD, upd_same⟩ (fun _ _ _ _ => trivial) ?_ ?_⟩
        · rintro i x H1 H2 hi ⟨s1, e1⟩ ⟨rfl, c, hc, rfl⟩
          refine ⟨rfl, yesT ?_⟩
          have hc' : z.cps.toList[i]? = some c := by rw [Array.getElem?_toList]; exact hc
          have hlen : (((z.cps.toList.take i).map lower).map V.bl).length < sizeLine := by
            rw [List.length_map, List.length_map, List.length_take]
            exact Nat.lt_of_le_of_lt (Nat.min_le_left _ _) (Nat.lt_of_lt_of_le hi hzl)
          have fin : ∀ b, b = lower c → ∃ acc, H2 D = some (.lst acc) ∧ acc.length < sizeLine ∧ Same H (upd H2 D (.lst (acc ++ [V.bl b]))) ∧ upd H2 D (.lst (acc ++ [V.bl b])) D = some (.lst (((z.cps.toList.take (i + 1)).map lower).map V.bl)) := by
            rintro _ rfl
            refine ⟨_, e1, hlen, fun b o h => ?_, ?_⟩
            · rw [upd_ne (ne_of_none h hD)]
              exact s1 _ _ h
            · rw [upd_same, List.take_add_one, hc', List.map_append, List.map_append]
              rfl
          refine ⟨_, rfl, _, _, rfl, rfl, _, rfl, ?_⟩
          rw [ge_a]
          refine ite2 (fun e => ?_) (fun e => ?_)
          · refine ⟨_, _, rfl, rfl, ?_⟩
            rw [le_z]
            exact fin _ (by unfold lower; rw [e, Bool.true_and])
          · rw [Bool.not_eq_true] at e
            exact fin _ (by unfold lower; rw [e, Bool.false_and])
        · rintro H' ⟨s1, e1⟩
          have ef : z.cps.toList.take z.cps.size = z.cps.toList := List.take_of_length_le (by rw [Array.length_toList]; exact Nat.le_refl _)
          rw [ef] at e1
          refine ⟨D, z.cps.toList.map lower, rfl, SqL.of e1, ?_⟩
          have q := q H' s1
          have : nm (.str z) = (z.cps.toList.map lower).all id := by
            show (decide (1 ≤ z.length) && decide (z.length ≤ 8) && z.cps.toList.all lower) = _
            rw [decide_eq_true h1, decide_eq_true h2, Bool.true_and, Bool.true_and, List.all_map]
            rfl
          rw [this] at q
          exact q
      · rw [decide_eq_false (show ¬ (z.length : Int) ≤ 8 by omega)]
        refine iteT ?_
        have q := q H (Same.refl H)
        have : nm (.str z) = false := by
          show (decide (1 ≤ z.length) && decide (z.length ≤ 8) && z.cps.toList.all lower) = _
          rw [decide_eq_false h2, Bool.and_false, Bool.false_and]
        rw [this] at q
        exact q
    · rw [decide_eq_false (show ¬ (1 : Int) ≤ (z.length : Int) by omega)]
      refine iteF ⟨_, rfl, ?_⟩
      refine iteT ?_
      have q := q H (Same.refl H)
      have : nm (.str z) = false := by
        show (decide (1 ≤ z.length) && decide (z.length ≤ 8) && z.cps.toList.all lower) = _
        rw [decide_eq_false h1, Bool.false_and, Bool.false_and]
      rw [this] at q
      exact q
  · rw [Bool.not_eq_true] at hs
    rw [hs]
    refine iteT (iteT ?_)
    have q := q H (Same.refl H)
    rw [nm_no hs] at q
    exact q
end
end KB
namespace KB
open PySem PySem.Spec PyProof.Rows L2 KA
section
variable {P : Program} {w : World} {K : PySem.W.Frag} {mg : Str → Option Value} {base : Heap}
theorem allFig {l : List Nat} (h : l.all figure = true) : NumText.AllDigits l := fun c hc => by
  have := List.all_eq_true.mp h c hc
  unfold figure at this
  simp only [Bool.and_eq_true, decide_eq_true_eq] at this
  exact this
theorem wholeV_no {z : Str} {m : Int} (h : goodWord z m = false) : wholeV z m = .non := by
  unfold wholeV
  rw [h]
  rfl
theorem wholeV_yes {z : Str} {m : Int} (h : goodWord z m = true) : wholeV z m = .int (NumText.digitsVal z.cps.toList : Nat) := by
  unfold wholeV
  rw [h]
  rfl
theorem ok_whole_in (T : Tx K mg) : FnOk P w K mg base CX0 1 T.A_whole_in T.fd_whole_in ["word", "most"] (spWholeIn) := by
  refine T.F_whole_in.ok sc_whole_in (fun vs H Q E h => ?_) (fun cdv A outer s H vs Q E hr h => ?_)
  · obtain ⟨z, m, rfl, hz, hm, q⟩ := h
    rfl
  obtain ⟨z, m, rfl, hz, hm, q⟩ := h
  refine ⟨_, (pss_cons (ps_if (pt_not (pt_chain op_le op_le pe_int (pe_callB call_len_str (by rfl) T.z_len PySem.boot_len (pa_cons (pv 0) pa_nil)) (pv 1))) (pss_one (ps_ret pe_non)) pss_nil)
      (pss_cons (ps_if (pt_not (pt_val (pe_callB (cr_all rfl) (by rfl) T.z_all (by decide +kernel) (pa_cons (pe_lc (own := [("sign", 2)]) (g := gName 2) (tt := tYes) rfl sc_whole_in.nd (pi_str (pv 0)) (blkOk_by (N := ["word", "most", "sign"]) (sc := defScope s_whole_in) (by decide +kernel)) (fun _ _ _ _ _ => (pg_name (i := 2) sc_whole_in.nd rfl (Or.inl rfl))) (fun _ _ _ _ _ => pts_nil) (fun _ _ _ _ _ => (pe_cmpR op_in_sign (pv 2) (pe_glob (v := .str "0123456789") (by rfl) T.g_FIGURES ⟨_, rfl⟩) (by rfl)))) pa_nil)))) (pss_one (ps_ret pe_non)) pss_nil)
      (pss_cons (ps_if (PW.pt (pw_and (pt_cmpR op_eq (pe_ix ix_str (pv 0) pe_int (fun _ _ => rfl)) pe_str (nomark _)) (pw_and1 (pt_cmpR op_gt (pe_callB call_len_str (by rfl) T.z_len PySem.boot_len (pa_cons (pv 0) pa_nil)) pe_int (nomark _))))) (pss_one (ps_ret pe_non)) pss_nil)
      (pss_one (ps_ret (pe_callTy call_int_str (by rfl) T.z_int (by decide +kernel) (pa_cons (pv 0) pa_nil))))))), ?_⟩
  have hzl : z.length ≤ sizeLine := Nat.le_trans hz (by decide)
  refine ⟨_, rfl, z, rfl, hzl, _, _, rfl, rfl, _, rfl, ?_⟩
  by_cases h1 : 1 ≤ z.length
  · rw [decide_eq_true (show (1 : Int) ≤ (z.length : Int) by omega)]
    refine iteT ⟨_, rfl, _, _, rfl, rfl, _, rfl, ?_⟩
    by_cases h2 : (z.length : Int) ≤ m
    · rw [decide_eq_true h2]
      refine iteF ?_
      refine ⟨_, rfl, z, rfl, fun D hD => lc_all hD hz figure ?_ ?_⟩
      · intro c H2 R C s2 r
        refine ⟨rfl, yesT ?_⟩
        refine ⟨_, rfl, c, _, rfl, rfl, ?_⟩
        rw [in_09]
        exact r
      · intro H' s1 e1
        refine ⟨D, z.cps.toList.map figure, rfl, SqL.of e1, _, rfl, ?_⟩
        rw [List.all_map]
        show if (!z.cps.toList.all figure) = true then _ else _
        by_cases h3 : z.cps.toList.all figure = true
        · rw [h3]
          refine iteF ?_
          obtain ⟨c, cs, hcs⟩ : ∃ c cs, z.cps.toList = c :: cs := by
            cases e : z.cps.toList with
            | nil =>
              have : z.cps.toList.length = z.length := Array.length_toList
              rw [e] at this
              simp at this
              omega
            | cons c cs => exact ⟨c, cs, rfl⟩
          have hat : atI z.cps.toList 0 = some c := atI_nat (j := 0) (by rw [hcs]; rfl)
          refine ⟨_, rfl, z, 0, c, rfl, rfl, hzl, hat, rfl, _, rfl, ?_⟩
          rw [str_sign (d := 48) (by decide +kernel)]
          have hhead : decide (z.cps.toList.head? = some 48) = decide (c = 48) := by
            rw [hcs, decide_eq_decide]
            constructor
            · intro e
              exact Option.some.inj e
            · rintro rfl
              rfl
          have good : goodWord z m = !(decide (c = 48) && decide (1 < z.length)) := by
            unfold goodWord
            rw [decide_eq_true h1, decide_eq_true h2, h3, hhead]
            rfl
          have last : goodWord z m = true → ∃ a n, [V.str z] = [.str a] ∧ PySem.intText? a = some n ∧ a.length ≤ 640 ∧ Q (.int n) H' := fun hg => by
            refine ⟨z, _, rfl, PySem.intText_digits (allFig h3) (by rw [hcs]; simp) (by omega), by omega, ?_⟩
            have q := q H' s1
            rw [wholeV_yes hg] at q
            exact q
          by_cases h4 : c = 48
          · rw [decide_eq_true h4]
            refine iteT ⟨_, rfl, z, rfl, hzl, _, _, rfl, rfl, _, rfl, ?_⟩
            by_cases h5 : 1 < z.length
            · rw [decide_eq_true (show (1 : Int) < (z.length : Int) by omega)]
              refine iteT ?_
              have q := q H' s1
              rw [wholeV_no (by rw [good, decide_eq_true h4, decide_eq_true h5]; rfl)] at q
              exact q
            · rw [decide_eq_false (show ¬ (1 : Int) < (z.length : Int) by omega)]
              refine iteF ?_
              exact ⟨_, rfl, last (by rw [good, decide_eq_false h5, Bool.and_false]; rfl)⟩
          · rw [decide_eq_false h4]
            refine iteF (iteF ?_)
            exact ⟨_, rfl, last (by rw [good, decide_eq_false h4]; rfl)⟩
        · rw [Bool.not_eq_true] at h3
          rw [h3]
          refine iteT ?_
          have q := q H' s1
          rw [wholeV_no (by unfold goodWord; rw [h3, Bool.and_false, Bool.false_and])] at q
          exact q
    · rw [decide_eq_false h2]
      refine iteT ?_
      have q := q H (Same.refl H)
      rw [wholeV_no (by unfold goodWord; rw [decide_eq_false h2, Bool.and_false, Bool.false_and, Bool.false_and])] at q
      exact q
  · rw [decide_eq_false (show ¬ (1 : Int) ≤ (z.length : Int) by omega)]
    refine iteF ⟨_, rfl, ?_⟩
    refine iteT ?_
    have q := q H (Same.refl H)
    rw [wholeV_no (by unfold goodWord; rw [decide_eq_false h1, Bool.false_and, Bool.false_and, Bool.false_and])] at q
    exact q
def spIs : Sp := fun vs H Q _ => ∃ a b, vs = [.bl a, .bl b] ∧ Q (.bl (decide (a = b))) H
theorem ok_is (T : Tx K mg) : FnOk P w K mg base CX0 1 T.A_is T.fd_is ["_law_found", "_law_due"] (spIs) := by
  refine T.F_is.ok sc_is (fun vs H Q E h => ?_) (fun cdv A outer s H vs Q E hr h => ?_)
  · obtain ⟨a, b, rfl, q⟩ := h
    rfl
  obtain ⟨a, b, rfl, q⟩ := h
  refine ⟨_, (pss_one (ps_ret (pe_and (pe_callB call_isi (by rfl) T.z_isinstance (by decide +kernel) (pa_cons (pv 0) (pa_cons (pe_bltn (v := .ty "bool") (by rfl) T.z_bool (by decide +kernel) rfl) pa_nil))) (pe_one (pe_cmpR op_eq (pv 0) (pv 1) (nomark _)))))), ?_⟩
  refine ⟨_, rfl, _, _, _, _, _, rfl, .ty _, .base (.bl a), kit_ty (r := true) (by decide +kernel), _, rfl, ?_⟩
  refine iteT ⟨_, rfl, _, rfl, rfl, ?_⟩
  have : decide (V.bl a = V.bl b) = decide (a = b) := by
    rw [decide_eq_decide]
    exact ⟨fun e => by injection e, fun e => by rw [e]⟩
  rw [this]
  exact q
def spYes1 : Sp := fun vs H Q _ => ∃ z, vs = [.str z] ∧ z.length ≤ 100000 ∧ Asc z ∧ ∀ H', Same H H' → Q (.bl true) H'
theorem ok_name_right (T : Tx K mg) : FnOk P w K mg base CX0 4 T.A_name_right T.fd_name_right ["_law_text_here"] (spYes1) := by
  refine T.F_name_right.ok sc_name_right (fun vs H Q E h => ?_) (fun cdv A outer s H vs Q E hr h => ?_)
  · obtain ⟨z, rfl, hz, ha, q⟩ := h
    rfl
  obtain ⟨z, rfl, hz, ha, q⟩ := h
  refine ⟨_, (pss_cons (ps_setLc (i := 1) (own := [("_law_sign", 2)]) (g := gName 2) (tt := _) rfl sc_name_right.nd rfl rfl (sw_true rfl rfl rfl (by decide +kernel)) (pi_str (pv 0)) (blkOk_by (N := ["_law_text_here", "_law_strange", "_law_sign"]) (sc := defScope s_name_right) (by decide +kernel)) (fun _ _ _ _ _ => (pg_name (i := 2) sc_name_right.nd rfl (Or.inl rfl))) (fun _ _ _ _ _ => (pts_one (pt_cmpR op_notIn_sign (pv 2) pe_str (by rfl)))) (fun _ _ _ _ _ => (pv 2)))
      (pss_cons (ps_if (pt_not (pt_val (pe_call (ok_is T) (hr.mono (by decide)) (by rfl) T.g_is T.F_is.kp T.b_is .nil pass0 (pa_cons (pe_call (ok_is_name T) (hr.mono (by decide)) (by rfl) T.g_is_name T.F_is_name.kp T.b_is_name .nil pass0 (pa_cons (pv 0) pa_nil)) (pa_cons (pe_and (pe_cmpR (op_eqD hr.units) (pv 1) (pe_lst pa_nil) (nomark _)) (pe_one (pe_chain op_le op_le pe_int (pe_callB call_len_str (by rfl) T.z_len PySem.boot_len (pa_cons (pv 0) pa_nil)) pe_int))) pa_nil))))) (pss_one (ps_ret pe_bl)) pss_nil)
      (pss_one (ps_ret (pe_and (pe_call (ok_is T) (hr.mono (by decide)) (by rfl) T.g_is T.F_is.kp T.b_is .nil pass0 (pa_cons (pe_call (ok_is_number T) (hr.mono (by decide)) (by rfl) T.g_is_number T.F_is_number.kp T.b_is_number .nil pass0 (pa_cons (pv 0) pa_nil)) (pa_cons pe_bl pa_nil))) (pe_one (pe_call (ok_is T) (hr.mono (by decide)) (by rfl) T.g_is T.F_is.kp T.b_is .nil pass0 (pa_cons (pe_call (ok_is_whole T) (hr.mono (by decide)) (by rfl) T.g_is_whole T.F_is_whole.kp T.b_is_whole .nil pass0 (pa_cons (pv 0) (pa_cons pe_int (pa_cons pe_int pa_nil)))) (pa_cons pe_bl pa_nil))))))))), ?_⟩
  have hzl : z.length ≤ sizeLine := Nat.le_trans hz (by decide)
  refine ⟨_, rfl, z, rfl, fun D hD => lc_filter hD hz (fun c => !lower c) ?_ ?_⟩
  · intro c H2 R C s2 r1 r2
    refine ⟨rfl, ?_⟩
    refine ⟨_, rfl, c, _, rfl, rfl, _, rfl, ?_⟩
    rw [in_az]
    refine ite2 (fun e => ?_) (fun e => ?_)
    · exact ⟨_, rfl, r1 e⟩
    · exact r2 (by rw [Bool.not_eq_true] at e; exact e)
  · intro H1 s1 e1
    refine ⟨_, rfl, _, rfl, .str z, (fun y hy => by injection hy with hy; rw [← hy]; exact hz), fun H2 s2 => ?_⟩
    refine ⟨_, rfl, Nat.zero_le _, fun l hl => ?_⟩
    have s3 : Same H2 (upd H2 l (.lst [])) := same_upd hl
    have s4 := (s1.trans s2).trans s3
    refine ⟨_, _, .lst (SqL.of (s3 _ _ (s2 _ _ e1))) (dp_signs _), .lst (SqL.of upd_same) .nil, shp_signs fun c hc => ha c (List.mem_filter.mp hc).1, rfl, ?_⟩
    have e2 : PyData.eqv (.list ((z.cps.toList.filter fun c => !lower c).map fun c => PyData.str ⟨#[c]⟩)) (.list []) = z.cps.toList.all lower := by
      rw [eqv_nil, List.isEmpty_map, filter_none]
    rw [e2]
    have nmE : nm (.str z) = (decide (1 ≤ z.length) && decide (z.length ≤ 8) && z.cps.toList.all lower) := rfl
    have fin3 : ∀ b, nm (.str z) = b → decide (nm (.str z) = b) = true := fun b h => decide_eq_true h
    refine ⟨_, rfl, ?_⟩
    by_cases h : z.cps.toList.all lower = true
    · rw [h]
      refine iteT ⟨_, rfl, z, rfl, hzl, _, _, rfl, rfl, _, rfl, ite2 (fun e => ?_) (fun e => ?_)⟩
      · refine ⟨_, _, rfl, rfl, _, _, rfl, _, rfl, ?_⟩
        have h1 := of_decide_eq_true e
        rw [fin3 _ (by rw [nmE, h, Bool.and_true, decide_eq_true (show 1 ≤ z.length by omega), Bool.true_and, decide_eq_decide]; omega)]
        refine iteF ?_
        exact ⟨_, rfl, _, rfl, .str z, _, _, rfl, _, rfl, iteT ⟨_, rfl, _, _, _, rfl, .str z, _, _, rfl, q _ s4⟩⟩
      · refine ⟨_, _, rfl, _, rfl, ?_⟩
        have h1 : ¬ (1 : Int) ≤ (z.length : Int) := fun z => e (decide_eq_true z)
        rw [fin3 _ (by rw [nmE, decide_eq_false (show ¬ 1 ≤ z.length by omega)]; rfl)]
        refine iteF ?_
        exact ⟨_, rfl, _, rfl, .str z, _, _, rfl, _, rfl, iteT ⟨_, rfl, _, _, _, rfl, .str z, _, _, rfl, q _ s4⟩⟩
    · rw [Bool.not_eq_true] at h
      rw [h]
      refine iteF ⟨_, _, rfl, _, rfl, ?_⟩
      rw [fin3 _ (by rw [nmE, h, Bool.and_false])]
      refine iteF ?_
      exact ⟨_, rfl, _, rfl, .str z, _, _, rfl, _, rfl, iteT ⟨_, rfl, _, _, _, rfl, .str z, _, _, rfl, q _ s4⟩⟩
def spNumR : Sp := fun vs H Q _ => ∃ n lo hi, vs = [.int n, .int lo, .int hi] ∧ ∀ H', Same H H' → Q (.bl true) H'
theorem ok_number_right (T : Tx K mg) : FnOk P w K mg base CX0 4 T.A_number_right T.fd_number_right ["_law_number", "_law_least", "_law_most"] (spNumR) := by
  refine T.F_number_right.ok sc_number_right (fun vs H Q E h => ?_) (fun cdv A outer s H vs Q E hr h => ?_)
  · obtain ⟨n, lo, hi, rfl, q⟩ := h
    rfl
  obtain ⟨n, lo, hi, rfl, q⟩ := h
  refine ⟨_, (pss_cons (ps_if (PW.pt (pw_or (pt_not (pt_val (pe_call (ok_is T) (hr.mono (by decide)) (by rfl) T.g_is T.F_is.kp T.b_is .nil pass0 (pa_cons (pe_call (ok_is_number T) (hr.mono (by decide)) (by rfl) T.g_is_number T.F_is_number.kp T.b_is_number .nil pass0 (pa_cons (pv 0) pa_nil)) (pa_cons (pe_chain op_le op_le pe_int (pv 0) pe_int) pa_nil))))) (pw_or1 (pt_not (pt_val (pe_call (ok_is T) (hr.mono (by decide)) (by rfl) T.g_is T.F_is.kp T.b_is .nil pass0 (pa_cons (pe_call (ok_is_name T) (hr.mono (by decide)) (by rfl) T.g_is_name T.F_is_name.kp T.b_is_name .nil pass0 (pa_cons (pv 0) pa_nil)) (pa_cons pe_bl pa_nil)))))))) (pss_one (ps_ret pe_bl)) pss_nil)
      (pss_one (ps_ret (pe_call (ok_is T) (hr.mono (by decide)) (by rfl) T.g_is T.F_is.kp T.b_is .nil pass0 (pa_cons (pe_call (ok_is_whole T) (hr.mono (by decide)) (by rfl) T.g_is_whole T.F_is_whole.kp T.b_is_whole .nil pass0 (pa_cons (pv 0) (pa_cons (pv 1) (pa_cons (pv 2) pa_nil)))) (pa_cons (pe_chain op_le op_le (pv 1) (pv 0) (pv 2)) pa_nil)))))), ?_⟩
  refine ⟨_, rfl, _, rfl, .int n, _, rfl, _, _, rfl, rfl, _, rfl, ?_⟩
  have wE : ∀ a b : Int, whl (.int n) a b = (decide (a ≤ n) && decide (n ≤ b)) := fun _ _ => rfl
  refine ite2 (fun e => ?_) (fun e => ?_)
  · refine ⟨_, _, rfl, rfl, _, _, rfl, _, rfl, ?_⟩
    rw [decide_eq_true (show whl (.int n) 1 1000000000 = decide (n ≤ 1000000000) by rw [wE, e, Bool.true_and])]
    refine iteF ⟨_, rfl, _, rfl, .int n, (fun z h => by cases h), fun H2 s2 => ⟨_, _, rfl, _, rfl, ?_⟩⟩
    refine iteF ⟨_, rfl, _, rfl, _, rfl, _, _, _, rfl, .int n, _, rfl, _, rfl, _, _, rfl, rfl, _, rfl, ite2 (fun e => ?_) (fun e => ?_)⟩
    · refine ⟨_, rfl, _, _, rfl, rfl, _, _, rfl, ?_⟩
      rw [decide_eq_true (show whl (.int n) lo hi = decide (n ≤ hi) by rw [wE, e, Bool.true_and])]
      exact q _ s2
    · refine ⟨_, _, rfl, ?_⟩
      rw [Bool.not_eq_true] at e
      rw [decide_eq_true (show whl (.int n) lo hi = false by rw [wE, e, Bool.false_and])]
      exact q _ s2
  · refine ⟨_, _, rfl, _, rfl, ?_⟩
    rw [Bool.not_eq_true] at e
    rw [decide_eq_true (show whl (.int n) 1 1000000000 = false by rw [wE, e, Bool.false_and])]
    refine iteF ⟨_, rfl, _, rfl, .int n, (fun z h => by cases h), fun H2 s2 => ⟨_, _, rfl, _, rfl, ?_⟩⟩
    refine iteF ⟨_, rfl, _, rfl, _, rfl, _, _, _, rfl, .int n, _, rfl, _, rfl, _, _, rfl, rfl, _, rfl, ite2 (fun e => ?_) (fun e => ?_)⟩
    · refine ⟨_, rfl, _, _, rfl, rfl, _, _, rfl, ?_⟩
      rw [decide_eq_true (show whl (.int n) lo hi = decide (n ≤ hi) by rw [wE, e, Bool.true_and])]
      exact q _ s2
    · refine ⟨_, _, rfl, ?_⟩
      rw [Bool.not_eq_true] at e
      rw [decide_eq_true (show whl (.int n) lo hi = false by rw [wE, e, Bool.false_and])]
      exact q _ s2
def spWordR : Sp := fun vs H Q _ => ∃ z m, vs = [.str z, .int m] ∧ z.length ≤ 100 ∧ m ≤ 640 ∧ Asc z ∧ ∀ H', Same H H' → Q (.bl true) H'
theorem ok_word_right (T : Tx K mg) : FnOk P w K mg base CX0 2 T.A_word_right T.fd_word_right ["_law_word_here", "_law_most"] (spWordR) := by
  refine T.F_word_right.ok sc_word_right (fun vs H Q E h => ?_) (fun cdv A outer s H vs Q E hr h => ?_)
  · obtain ⟨z, m, rfl, hz, hm, ha, q⟩ := h
    rfl
  obtain ⟨z, m, rfl, hz, hm, ha, q⟩ := h
  refine ⟨_, (pss_cons (ps_set (i := 2) sc_word_right.nd rfl (Or.inl rfl) pe_non)
      (pss_cons (ps_setLc (i := 3) (own := [("_law_sign", 5)]) (g := gName 5) (tt := _) rfl sc_word_right.nd rfl rfl (sw_true rfl rfl rfl (by decide +kernel)) (pi_str (pv 0)) (blkOk_by (N := ["_law_word_here", "_law_most", "_law_due", "_law_strange", "_law_found", "_law_sign"]) (sc := defScope s_word_right) (by decide +kernel)) (fun _ _ _ _ _ => (pg_name (i := 5) sc_word_right.nd rfl (Or.inl rfl))) (fun _ _ _ _ _ => (pts_one (pt_cmpR op_notIn_sign (pv 5) pe_str (by rfl)))) (fun _ _ _ _ _ => (pv 5)))
      (pss_cons (ps_if (PW.pt (pw_and (pt_chain op_le op_le pe_int (pe_callB call_len_str (by rfl) T.z_len PySem.boot_len (pa_cons (pv 0) pa_nil)) (pv 1)) (pw_and1 (pt_cmpR (op_eqD hr.units) (pv 3) (pe_lst pa_nil) (nomark _))))) (pss_cons (ps_set (i := 2) sc_word_right.nd rfl (Or.inl rfl) (pe_callTy call_int_str (by rfl) T.z_int (by decide +kernel) (pa_cons (pv 0) pa_nil)))
      (pss_one (ps_if (pt_cmpR op_ne (pe_callB call_len_str (by rfl) T.z_len PySem.boot_len (pa_cons (pe_callTy call_str_int (by rfl) T.z_str (by decide +kernel) (pa_cons (pv 2) pa_nil)) pa_nil)) (pe_callB call_len_str (by rfl) T.z_len PySem.boot_len (pa_cons (pv 0) pa_nil)) (nomark _)) (pss_one (ps_set (i := 2) sc_word_right.nd rfl (Or.inl rfl) pe_non)) pss_nil))) pss_nil)
      (pss_cons (ps_set (i := 4) sc_word_right.nd rfl (Or.inl rfl) (pe_call (ok_whole_in T) (hr.mono (by decide)) (by rfl) T.g_whole_in T.F_whole_in.kp T.b_whole_in .nil pass0 (pa_cons (pv 0) (pa_cons (pv 1) pa_nil))))
      (pss_one (ps_ret (pe_and (pe_cmpR op_eq (pv 4) (pv 2) (nomark _)) (pe_one (pe_not (pe_callB call_isi (by rfl) T.z_isinstance (by decide +kernel) (pa_cons (pv 4) (pa_cons (pe_bltn (v := .ty "bool") (by rfl) T.z_bool (by decide +kernel) rfl) pa_nil)))))))))))), ?_⟩
  have hz5 : z.length ≤ 100000 := by omega
  have hzl : z.length ≤ sizeLine := Nat.le_trans hz5 (by decide)
  refine ⟨_, rfl, z, rfl, fun D hD => lc_filter hD hz5 (fun c => !figure c) ?_ ?_⟩
  · intro c H2 R C s2 r1 r2
    refine ⟨rfl, ?_⟩
    refine ⟨_, rfl, c, _, rfl, rfl, _, rfl, ?_⟩
    rw [in_09]
    refine ite2 (fun e => ?_) (fun e => ?_)
    · exact ⟨_, rfl, r1 e⟩
    · exact r2 (by rw [Bool.not_eq_true] at e; exact e)
  · intro H1 s1 e1
    have e2 : PyData.eqv (.list ((z.cps.toList.filter fun c => !figure c).map fun c => PyData.str ⟨#[c]⟩)) (.list []) = z.cps.toList.all figure := by
      rw [eqv_nil, List.isEmpty_map, filter_none]
    -- found = whole_in(word, most); return found == due and not isinstance(found, bool)
    have isn : ∀ H', TyX K H' (wholeV z m) (if goodWord z m = true then .type "int" else .type "NoneType") := fun H' => by
      unfold wholeV
      split
      · exact .base (.int _)
      · exact .base .non
    have kit : PySem.W.kitOne K (if goodWord z m = true then .type "int" else .type "NoneType") (.type "bool") = some false := by
      split
      · exact kit_ty (r := false) (by decide +kernel)
      · exact kit_ty (r := false) (by decide +kernel)
    have sc : scal (wholeV z m) (wholeV z m) = true := by
      unfold wholeV
      split <;> rfl
    -- if 1 <= len(word) <= most and strange == []
    refine ⟨_, rfl, z, rfl, hzl, _, _, rfl, rfl, _, rfl, ?_⟩
    by_cases h1 : 1 ≤ z.length
    · rw [decide_eq_true (show (1 : Int) ≤ (z.length : Int) by omega)]
      refine iteT ⟨_, rfl, _, _, rfl, rfl, _, rfl, ?_⟩
      by_cases h2 : (z.length : Int) ≤ m
      · rw [decide_eq_true h2]
        refine iteT ⟨_, rfl, Nat.zero_le _, fun l hl => ?_⟩
        have s3 : Same H1 (upd H1 l (.lst [])) := same_upd hl
        have s4 := s1.trans s3
        refine ⟨_, _, .lst (SqL.of (s3 _ _ e1)) (dp_signs _), .lst (SqL.of upd_same) .nil, shp_signs fun c hc => ha c (List.mem_filter.mp hc).1, rfl, _, rfl, ?_⟩
        rw [e2]
        by_cases h3 : z.cps.toList.all figure = true
        · rw [h3]
          obtain ⟨c, cs, hcs⟩ : ∃ c cs, z.cps.toList = c :: cs := by
            cases e : z.cps.toList with
            | nil =>
              have : z.cps.toList.length = z.length := Array.length_toList
              rw [e] at this
              simp at this
              omega
            | cons c cs => exact ⟨c, cs, rfl⟩
          have ad := allFig h3
          have hlen : z.cps.toList.length = z.length := Array.length_toList
          have vlt := val_lt ad
          rw [hlen] at vlt
          have nlen := TL.numL_len (n := NumText.digitsVal z.cps.toList) (k := z.length) (by omega) vlt
          have slen : (Str.ofString (toString ((NumText.digitsVal z.cps.toList : Nat) : Int))).length = (TL.numL (NumText.digitsVal z.cps.toList)).length := by
            rw [TL.len_tl, TL.tl_num]
          have hlog : ((NumText.digitsVal z.cps.toList : Nat) : Int).natAbs.log2 < 1920 := by
            rw [Int.natAbs_natCast]
            refine PySem.Flt.log2_lt_of (by decide) (Nat.lt_of_lt_of_le vlt (Nat.le_trans (Nat.pow_le_pow_right (by decide) hz) ?_))
            decide +kernel
          have good : goodWord z m = decide ((TL.numL (NumText.digitsVal z.cps.toList)).length = z.length) := by
            have lc := len_canon (c := c) (cs := cs) (by rw [← hcs]; exact ad)
            rw [← hcs, hlen] at lc
            have hhead : (z.cps.toList.head? = some 48) ↔ c = 48 := by
              rw [hcs]
              exact ⟨fun e => Option.some.inj e, fun e => by rw [e]; rfl⟩
            unfold goodWord
            rw [decide_eq_true h1, decide_eq_true h2, h3, Bool.true_and, Bool.true_and, Bool.true_and, ← Bool.decide_and, ← decide_not, decide_eq_decide, lc, hhead]
          refine iteT ⟨_, rfl, z, _, rfl, PySem.intText_digits ad (by rw [hcs]; simp) (by omega), by omega, ?_⟩
          refine ⟨_, rfl, _, rfl, hlog, _, rfl, ?_⟩
          refine ⟨by rw [slen]; omega, _, rfl, z, rfl, hzl, rfl, _, rfl, ?_⟩
          by_cases h5 : (TL.numL (NumText.digitsVal z.cps.toList)).length = z.length
          · rw [decide_eq_true (show V.int ((Str.ofString (toString ((NumText.digitsVal z.cps.toList : Nat) : Int))).length : Int) = V.int (z.length : Int) by rw [slen, h5])]
            refine iteF ?_
            have hg : goodWord z m = true := by rw [good, decide_eq_true h5]
            refine ⟨_, rfl, _, rfl, z, m, rfl, hz5, hm, fun H2 s2 => ?_⟩
            refine ⟨_, rfl, _, rfl, (by rw [wholeV_yes hg]; rfl), _, rfl, ?_⟩
            rw [decide_eq_true (wholeV_yes hg)]
            exact iteT ⟨_, rfl, _, _, _, _, _, rfl, .ty _, isn H2, kit, _, rfl, q _ (s4.trans s2)⟩
          · rw [decide_eq_false (show ¬ V.int ((Str.ofString (toString ((NumText.digitsVal z.cps.toList : Nat) : Int))).length : Int) = V.int (z.length : Int) from fun e => h5 (by injection e with e; rw [slen] at e; omega))]
            refine iteT ?_
            have hg : goodWord z m = false := by rw [good, decide_eq_false h5]
            refine ⟨_, rfl, _, rfl, z, m, rfl, hz5, hm, fun H2 s2 => ?_⟩
            refine ⟨_, rfl, _, rfl, (by rw [wholeV_no hg]; rfl), _, rfl, ?_⟩
            rw [decide_eq_true (wholeV_no hg)]
            exact iteT ⟨_, rfl, _, _, _, _, _, rfl, .ty _, isn H2, kit, _, rfl, q _ (s4.trans s2)⟩
        · rw [Bool.not_eq_true] at h3
          rw [h3]
          refine iteF ?_
          have hg : goodWord z m = false := by
            unfold goodWord
            rw [h3, Bool.and_false, Bool.false_and]
          refine ⟨_, rfl, _, rfl, z, m, rfl, hz5, hm, fun H2 s2 => ?_⟩
          refine ⟨_, rfl, _, rfl, (by rw [wholeV_no hg]; rfl), _, rfl, ?_⟩
          rw [decide_eq_true (wholeV_no hg)]
          exact iteT ⟨_, rfl, _, _, _, _, _, rfl, .ty _, isn H2, kit, _, rfl, q _ (s4.trans s2)⟩
      · rw [decide_eq_false h2]
        refine iteF (iteF ?_)
        have hg : goodWord z m = false := by
          unfold goodWord
          rw [decide_eq_false h2, Bool.and_false, Bool.false_and, Bool.false_and]
        refine ⟨_, rfl, _, rfl, z, m, rfl, hz5, hm, fun H2 s2 => ?_⟩
        refine ⟨_, rfl, _, rfl, (by rw [wholeV_no hg]; rfl), _, rfl, ?_⟩
        rw [decide_eq_true (wholeV_no hg)]
        exact iteT ⟨_, rfl, _, _, _, _, _, rfl, .ty _, isn H2, kit, _, rfl, q _ (s1.trans s2)⟩
    · rw [decide_eq_false (show ¬ (1 : Int) ≤ (z.length : Int) by omega)]
      refine iteF ⟨_, rfl, ?_⟩
      refine iteF (iteF ?_)
      have hg : goodWord z m = false := by
        unfold goodWord
        rw [decide_eq_false h1, Bool.false_and, Bool.false_and, Bool.false_and]
      refine ⟨_, rfl, _, rfl, z, m, rfl, hz5, hm, fun H2 s2 => ?_⟩
      refine ⟨_, rfl, _, rfl, (by rw [wholeV_no hg]; rfl), _, rfl, ?_⟩
      rw [decide_eq_true (wholeV_no hg)]
      exact iteT ⟨_, rfl, _, _, _, _, _, rfl, .ty _, isn H2, kit, _, rfl, q _ (s1.trans s2)⟩
end
end KB
namespace KB
open PySem PySem.Spec PyProof.Rows L2 KA
section
variable {P : Program} {w : World} {K : PySem.W.Frag} {mg : Str → Option Value} {base : Heap}
def spCell (K : PySem.W.Frag) : Sp := fun vs H Q _ => ∃ (a : Addr) (ns : List Int), vs = [.ref a, .int 0] ∧ SqL K H a (ns.map V.int) ∧ Q (.int (ns.headD 0)) H
theorem ok_cell_at (T : Tx K mg) : FnOk P w K mg base CX0 1 T.A_cell_at T.fd_cell_at ["_law_script", "_law_k"] (spCell K) := by
  refine T.F_cell_at.ok sc_cell_at (fun vs H Q E h => ?_) (fun cdv A outer s H vs Q E hr h => ?_)
  · obtain ⟨a, ns, rfl, hS, q⟩ := h
    rfl
  obtain ⟨a, ns, rfl, hS, q⟩ := h
  refine ⟨_, (pss_cons (ps_if (pt_cmpR op_lt (pv 1) (pe_callB call_len_seq (by rfl) T.z_len PySem.boot_len (pa_cons (pv 0) pa_nil)) (nomark _)) (pss_one (ps_ret (pe_ix ix_list (pv 0) (pv 1) (fun _ _ => rfl)))) pss_nil)
      (pss_one (ps_ret pe_int))), ?_⟩
  refine ⟨_, rfl, _, rfl, a, _, rfl, .inl hS, _, _, rfl, rfl, _, rfl, ?_⟩
  cases ns with
  | nil => exact iteF q
  | cons n r =>
    rw [decide_eq_true (show (0 : Int) < (((n :: r).map V.int).length : Int) by rw [List.length_map, List.length_cons]; omega)]
    exact iteT ⟨_, rfl, _, rfl, a, _, _, _, rfl, rfl, hS, atI_nat (j := 0) rfl, q⟩
def spDraws : Sp := fun vs H Q _ => ∃ (n : Int), vs = [.int n] ∧ ∀ (d : Addr) (H' : Hp), H d = none → Same H H' → Dr d 0 H' → Q (.ref d) H'
theorem ok_draws (T : Tx K mg) : FnOk P w K mg base CX0 1 T.A_draws T.fd_draws ["_law_cell"] (spDraws) := by
  refine T.F_draws.ok sc_draws (fun vs H Q E h => ?_) (fun cdv A outer s H vs Q E hr h => ?_)
  · obtain ⟨n, rfl, q⟩ := h
    rfl
  obtain ⟨n, rfl, q⟩ := h
  refine ⟨_, (pss_one (ps_ret (pe_lst (pa_cons (pe_op op_mul (pv 0) (pe_callTy call_int1 (by rfl) T.z_int (by decide +kernel) (pa_cons (pe_cmpR op_ge (pv 0) (pe_op op_pow pe_int pe_int) (nomark _)) pa_nil))) (pa_cons (pe_op op_mod (pv 0) pe_int) (pa_cons pe_int pa_nil)))))), ?_⟩
  refine ⟨_, rfl, _, rfl, _, _, rfl, rfl, ⟨by decide, by decide, by decide⟩, _, _, rfl, rfl, .inr ⟨_, rfl, _, _, rfl, rfl, .inr ?_, ?_⟩⟩
  · split <;> decide
  · refine ⟨_, rfl, _, _, rfl, rfl, (by show (0 : Int) < 2147483647; decide), (by show 3 ≤ sizeLine; decide), fun d hd => q d _ hd (same_upd hd) ⟨_, _, _, upd_same, Int.emod_nonneg _ (by decide), Int.emod_lt_of_pos _ (by decide), Int.le_refl _, Int.le_refl _⟩⟩
def spOne : Sp := fun vs H Q _ => ∃ (d : Addr) (m : Int) (n : Nat), vs = [.ref d, .int m] ∧ 0 < m ∧ m.natAbs.log2 < 9000 ∧ Dr d n H ∧ n ≤ 1000000 ∧
  ∀ (H' : Hp) (r : Int), 0 ≤ r → r < m → But d H H' → Dr d (n + 1) H' → Q (.int r) H'
theorem ok_one (T : Tx K mg) : FnOk P w K mg base CX0 1 T.A_one T.fd_one ["_law_draws_here", "_law_many"] (spOne) := by
  refine T.F_one.ok sc_one (fun vs H Q E h => ?_) (fun cdv A outer s H vs Q E hr h => ?_)
  · obtain ⟨d, m, n, rfl, hm, hl, ⟨a, b, c, hd, hb0, hb1, hc0, hc1⟩, hn, q⟩ := h
    rfl
  obtain ⟨d, m, n, rfl, hm, hl, ⟨a, b, c, hd, hb0, hb1, hc0, hc1⟩, hn, q⟩ := h
  refine ⟨_, (pss_cons (ps_if (pt_cmpR op_gt (pe_ix ix_list (pv 0) pe_int (fun _ _ => rfl)) pe_int (nomark _)) (pss_cons (ps_set (i := 2) sc_one.nd rfl (Or.inl rfl) (pe_op op_mod (pe_ix ix_list (pv 0) pe_int (fun _ _ => rfl)) (pv 1)))
      (pss_cons (ps_asg (pe_op op_fdivW (pe_ix ix_list (pv 0) pe_int (fun _ _ => rfl)) (pv 1)) (pg_sub (pv 0) pe_int set_list))
      (pss_one (ps_ret (pv 2))))) pss_nil)
      (pss_cons (ps_asg (pe_op op_add (pe_ix ix_list (pv 0) pe_int (fun _ _ => rfl)) pe_int) (pg_sub (pv 0) pe_int set_list))
      (pss_cons (ps_set (i := 3) sc_one.nd rfl (Or.inl rfl) (pe_op op_mod (pe_op op_pow (pe_op op_add (pe_op op_add (pe_ix ix_list (pv 0) pe_int (fun _ _ => rfl)) (pe_op op_mul pe_int (pe_ix ix_list (pv 0) pe_int (fun _ _ => rfl)))) pe_int) pe_int) pe_int))
      (pss_cons (ps_set (i := 3) sc_one.nd rfl (Or.inl rfl) (pe_op op_mod (pe_op op_mul (pv 3) (pe_op op_add (pe_op op_add (pe_op op_fdiv (pv 3) pe_int) pe_int) (pe_ix ix_list (pv 0) pe_int (fun _ _ => rfl)))) pe_int))
      (pss_one (ps_ret (pe_op op_mod (pe_op op_mod (pe_op op_mul (pv 3) (pe_op op_add (pe_op op_fdiv (pv 3) pe_int) pe_int)) pe_int) (pv 1)))))))), ?_⟩
  refine ⟨_, rfl, d, _, _, _, rfl, rfl, SqL.of hd, atI_nat (j := 0) rfl, _, _, rfl, rfl, _, rfl, ite2 (fun e => ?_) (fun e => ?_)⟩
  · refine ⟨_, rfl, d, _, _, _, rfl, rfl, SqL.of hd, atI_nat (j := 0) rfl, _, rfl, _, _, rfl, rfl, hm, ?_⟩
    refine ⟨_, rfl, d, _, _, _, rfl, rfl, SqL.of hd, atI_nat (j := 0) rfl, _, rfl, _, _, rfl, rfl, ⟨hm, hl⟩, ?_⟩
    refine ⟨_, rfl, d, _, _, 0, rfl, rfl, hd, rfl, ?_⟩
    exact ⟨_, rfl, q _ _ (Int.emod_nonneg _ (by omega)) (Int.emod_lt_of_pos _ hm) But.at_ ⟨_, _, _, upd_same, hb0, hb1, hc0, by omega⟩⟩
  · refine ⟨_, rfl, d, _, _, _, rfl, rfl, SqL.of hd, atI_nat (j := 2) rfl, _, _, rfl, rfl, ?_⟩
    refine ⟨_, rfl, d, _, _, 2, rfl, rfl, hd, rfl, ?_⟩
    have hd' : (upd H d (.lst [.int a, .int b, .int (c + 1)])) d = some (.lst [.int a, .int b, .int (c + 1)]) := upd_same
    refine ⟨_, rfl, d, _, _, _, rfl, rfl, SqL.of hd', atI_nat (j := 1) rfl, _, rfl, d, _, _, _, rfl, rfl, SqL.of hd', atI_nat (j := 2) rfl, _, _, rfl, rfl, .inl ⟨by decide, by decide⟩, _, _, rfl, rfl, _, _, rfl, rfl, _, _, rfl, rfl, ⟨by decide, by decide, ?_⟩, _, _, rfl, rfl, (by show (0 : Int) < 2147483647; decide), ?_⟩
    · have e64 : (2 : Nat) ^ 64 = 18446744073709551616 := by decide
      rw [e64]
      omega
    · generalize hx : (b + 7919 * (c + 1) + 1) ^ (5 : Int).toNat % 2147483647 = x
      have hx0 : 0 ≤ x := by rw [← hx]; exact Int.emod_nonneg _ (by decide)
      have hx1 : x < 2147483647 := by rw [← hx]; exact Int.emod_lt_of_pos _ (by decide)
      have e64 : (2 : Int) ^ 64 = 18446744073709551616 := by decide
      refine ⟨_, rfl, _, rfl, _, _, rfl, rfl, ⟨by decide, by decide⟩, _, _, rfl, rfl, _, rfl, d, _, _, _, rfl, rfl, SqL.of hd', atI_nat (j := 2) rfl, _, _, rfl, rfl, _, _, rfl, rfl, .inl ⟨?_, ?_⟩, _, _, rfl, rfl, (by show (0 : Int) < 2147483629; decide), ?_⟩
      · rw [e64]; omega
      · rw [e64]; omega
      · generalize hy : x * (x / 1009 + 69621 + (c + 1)) % 2147483629 = y
        have hy0 : 0 ≤ y := by rw [← hy]; exact Int.emod_nonneg _ (by decide)
        have hy1 : y < 2147483629 := by rw [← hy]; exact Int.emod_lt_of_pos _ (by decide)
        refine ⟨_, rfl, _, rfl, _, _, rfl, rfl, ⟨by decide, by decide⟩, _, _, rfl, rfl, _, _, rfl, rfl, .inl ⟨?_, ?_⟩, _, _, rfl, rfl, (by show (0 : Int) < 2147483399; decide), _, rfl, _, _, rfl, rfl, hm, ?_⟩
        · rw [e64]; omega
        · rw [e64]; omega
        · exact q _ _ (Int.emod_nonneg _ (by omega)) (Int.emod_lt_of_pos _ hm) But.at_ ⟨_, _, _, upd_same, hb0, hb1, by omega, by omega⟩
def spOf (K : PySem.W.Frag) : Sp := fun vs H Q _ => ∃ (d b : Addr) (n : Nat) (xs : List V), vs = [.ref d, .ref b] ∧ b ≠ d ∧ SqL K H b xs ∧ xs ≠ [] ∧ xs.length ≤ 1000 ∧ Dr d n H ∧ n ≤ 1000000 ∧
  ∀ (H' : Hp) (v : V), v ∈ xs → But d H H' → Dr d (n + 1) H' → Q v H'
theorem ok_of (T : Tx K mg) : FnOk P w K mg base CX0 2 T.A_of T.fd_of ["_law_draws_here", "_law_some"] (spOf K) := by
  refine T.F_of.ok sc_of (fun vs H Q E h => ?_) (fun cdv A outer s H vs Q E hr h => ?_)
  · obtain ⟨d, b, n, xs, rfl, hbd, hS, hne, hlen, dr, hn, q⟩ := h
    rfl
  obtain ⟨d, b, n, xs, rfl, hbd, hS, hne, hlen, dr, hn, q⟩ := h
  refine ⟨_, (pss_one (ps_ret (pe_ix ix_list (pv 1) (pe_call (ok_one T) (hr.mono (by decide)) (by rfl) T.g_one T.F_one.kp T.b_one .nil pass0 (pa_cons (pv 0) (pa_cons (pe_callB call_len_seq (by rfl) T.z_len PySem.boot_len (pa_cons (pv 1) pa_nil)) pa_nil))) (fun _ _ => rfl)))), ?_⟩
  have hl : 0 < (xs.length : Int) := by
    cases xs with
    | nil => exact absurd rfl hne
    | cons x r => rw [List.length_cons]; omega
  refine ⟨_, rfl, _, rfl, _, rfl, b, xs, rfl, .inl hS, d, _, n, rfl, hl, log_small hl ?_, dr, hn, fun H' r h0 h1 bt dr' => ?_⟩
  · have e : ((2 : Int) ^ 200) = 1606938044258990275541962092341162602522202993782792835301376 := by decide
    rw [e]
    omega
  · obtain ⟨j, rfl⟩ : ∃ j : Nat, r = (j : Int) := ⟨r.toNat, by omega⟩
    have hj : j < xs.length := by omega
    exact ⟨b, xs, _, _, rfl, rfl, but_seq bt hbd hS, atI_nat (List.getElem?_eq_getElem hj), q H' _ (List.getElem_mem hj) bt dr'⟩
end
end KB
namespace KB
open PySem PySem.Spec PyProof.Rows L2 KA
section
variable {P : Program} {w : World} {K : PySem.W.Frag} {mg : Str → Option Value} {base : Heap}
def spWord : Sp := fun vs H Q _ => ∃ (d : Addr) (m : Int) (n : Nat), vs = [.ref d, .int m] ∧ 0 < m ∧ m ≤ 50 ∧ Dr d n H ∧ n ≤ 100000 ∧
  ∀ (H' : Hp) (z : Str), 1 ≤ z.length → (z.length : Int) ≤ m → (∀ c ∈ z.cps.toList, lower c = true) → But d H H' → Dr d (n + 60) H' → Q (.str z) H'
theorem ok_word (T : Tx K mg) : FnOk P w K mg base CX0 2 T.A_word T.fd_word ["_law_draws_here", "_law_most"] (spWord) := by
  refine T.F_word.ok sc_word (fun vs H Q E h => ?_) (fun cdv A outer s H vs Q E hr h => ?_)
  · obtain ⟨d, m, n, rfl, hm, hm5, dr, hn, q⟩ := h
    rfl
  obtain ⟨d, m, n, rfl, hm, hm5, dr, hn, q⟩ := h
  refine ⟨_, (pss_cons (ps_set (i := 2) sc_word.nd rfl (Or.inr rfl) pe_str)
      (pss_one (ps_ret (pe_bm PySem.F.plainAttrs_str PySem.F.slot_str_join PySem.F.type_str_join mt_join pe_str (pa_cons (pe_lc (own := [("_law_k", 3)]) (g := gName 3) (tt := tYes) rfl sc_word.nd (pi_range1 (by rfl) T.z_range (pa_cons (pe_op op_add pe_int (pe_call (ok_one T) (hr.mono (by decide)) (by rfl) T.g_one T.F_one.kp T.b_one .nil pass0 (pa_cons (pv 0) (pa_cons (pv 1) pa_nil)))) pa_nil)) (blkOk_by (N := ["_law_draws_here", "_law_most", "_law_letters", "_law_k"]) (sc := defScope s_word) (by decide +kernel)) (fun _ _ _ _ _ => (pg_name (i := 3) sc_word.nd rfl (Or.inl rfl))) (fun _ _ _ _ _ => pts_nil) (fun _ _ _ _ _ => (pe_ix ix_str (pv 2) (pe_call (ok_one T) (hr.mono (by decide)) (by rfl) T.g_one T.F_one.kp T.b_one .nil pass0 (pa_cons (pv 0) (pa_cons pe_int pa_nil))) (fun _ _ => rfl)))) pa_nil))))), ?_⟩
  refine ⟨rfl, _, rfl, _, rfl, d, m, n, rfl, hm, log_tiny hm (by omega), dr, by omega, fun H1 r h0 h1 b1 dr1 => ?_⟩
  refine ⟨_, _, rfl, rfl, _, rfl, by omega, by omega, fun D hD => lc_draw (d := d) (n := n + 1) (k := (1 + r).toNat) hD dr1 (by omega) lower ?_ ?_⟩
  · intro i H2 R C hi dr2 hR
    refine ⟨rfl, yesT ?_⟩
    refine ⟨_, rfl, _, rfl, d, 26, n + 1 + i, rfl, by decide, log_tiny (by decide) (by decide), dr2, by omega, fun H3 r2 g0 g1 b3 dr3 => ?_⟩
    obtain ⟨c, hc, hl⟩ := az_at g0 g1
    exact ⟨_, _, c, rfl, rfl, (by decide +kernel), hc, hR H3 c hl b3 dr3⟩
  · intro H' cs hl hp b2 dr2 e2
    refine ⟨_, D, cs.map (fun c => ⟨#[c]⟩), rfl, rfl, .inl (SqL.of (by rw [map_sg]; exact e2)), ?_, ?_⟩
    · rw [size_signs, List.length_map]
      show _ + _ * 0 ≤ _
      omega
    · refine q H' _ ?_ ?_ ?_ (b1.trans b2) (dr2.mono (by omega))
      · rw [join_len rfl]; omega
      · rw [join_len rfl]; omega
      · rw [join_text rfl]
        exact hp
def Good (z : Str) : Prop := z.length ≤ 90 ∧ Asc z
def spText : Sp := fun vs H Q _ => ∃ (d : Addr) (n : Nat), vs = [.ref d] ∧ Dr d n H ∧ n ≤ 10000 ∧
  ∀ (H' : Hp) (z : Str), Good z → But d H H' → Dr d (n + 100) H' → Q (.str z) H'
theorem ok_text (T : Tx K mg) : FnOk P w K mg base CX0 3 T.A_text T.fd_text ["_law_draws_here"] (spText) := by
  refine T.F_text.ok sc_text (fun vs H Q E h => ?_) (fun cdv A outer s H vs Q E hr h => ?_)
  · obtain ⟨d, n, rfl, dr, hn, q⟩ := h
    rfl
  obtain ⟨d, n, rfl, dr, hn, q⟩ := h
  refine ⟨_, (pss_cons (ps_set (i := 1) sc_text.nd rfl (Or.inl rfl) (pe_call (ok_word T) (hr.mono (by decide)) (by rfl) T.g_word T.F_word.kp T.b_word .nil pass0 (pa_cons (pv 0) (pa_cons pe_int pa_nil))))
      (pss_cons (ps_set (i := 2) sc_text.nd rfl (Or.inl rfl) (pe_call (ok_one T) (hr.mono (by decide)) (by rfl) T.g_one T.F_one.kp T.b_one .nil pass0 (pa_cons (pv 0) (pa_cons (pe_op op_add (pe_callB call_len_str (by rfl) T.z_len PySem.boot_len (pa_cons (pv 1) pa_nil)) pe_int) pa_nil))))
      (pss_cons (ps_set (i := 3) sc_text.nd rfl (Or.inl rfl) pe_str)
      (pss_cons (ps_set (i := 4) sc_text.nd rfl (Or.inl rfl) (pe_ix ix_str (pv 3) (pe_call (ok_one T) (hr.mono (by decide)) (by rfl) T.g_one T.F_one.kp T.b_one .nil pass0 (pa_cons (pv 0) (pa_cons (pe_callB call_len_str (by rfl) T.z_len PySem.boot_len (pa_cons (pv 3) pa_nil)) pa_nil))) (fun _ _ => rfl)))
      (pss_cons (ps_set (i := 5) sc_text.nd rfl (Or.inl rfl) (pe_lst (pa_cons (pe_op op_add_str (pe_op op_add_str (pe_slice sl_str (pv 1) po_none (po_some (pv 2))) (pv 4)) (pe_slice sl_str (pv 1) (po_some (pv 2)) po_none)) (pa_cons (pe_op op_add_str (pe_slice sl_str (pv 1) po_none (po_some (pv 2))) (pe_bm0 PySem.F.plainAttrs_str PySem.F.slot_str_upper PySem.F.type_str_upper mt_upper (pe_slice sl_str (pv 1) (po_some (pv 2)) po_none))) pa_nil))))
      (pss_one (ps_ret (pe_call (ok_of T) (hr.mono (by decide)) (by rfl) T.g_of T.F_of.kp T.b_of .nil pass0 (pa_cons (pv 0) (pa_cons (pe_op op_cat (pe_lst (pa_cons (pv 1) (pa_cons (pv 1) pa_nil))) (pv 5)) pa_nil)))))))))), ?_⟩
  refine ⟨_, rfl, d, 10, n, rfl, by decide, by decide, dr, by omega, fun H1 z hz1 hz2 hlow b1 dr1 => ?_⟩
  have hz : z.length ≤ 10 := by omega
  have hzl : z.length ≤ sizeLine := sz _ (by omega)
  have az : Asc z := fun c hc => lower_lt (hlow c hc)
  refine ⟨_, rfl, _, rfl, z, rfl, hzl, _, _, rfl, rfl, d, _, n + 60, rfl, by omega, log_tiny (by omega) (by omega), dr1, by omega, fun H2 r h0 h1 b2 dr2 => ?_⟩
  refine ⟨_, rfl, _, rfl, _, rfl, _, rfl, (by decide +kernel), d, _, n + 61, rfl, (by decide +kernel), log_tiny (by decide +kernel) (by decide +kernel), dr2, by omega, fun H3 r2 g0 g1 b3 dr3 => ?_⟩
  obtain ⟨c, hc, hmem⟩ := at_str g0 g1
  have c128 : c < 128 := by
    have : ∀ c ∈ (" !\"#$&'()*+,-./0123456789:;<=>?@ABCDEFGHIJKLMNOPQRSTUVWXYZ[\\]^_`{|}~\n" : Str).cps.toList, c < 128 := by decide +kernel
    exact this c hmem
  have as1 : Asc ⟨#[c]⟩ := fun x hx => by
    have : x = c := by simpa using hx
    omega
  refine ⟨_, _, c, rfl, rfl, (by decide +kernel), hc, ?_⟩
  have l1 : ∀ lo hi, (cutS z lo hi).length ≤ 10 := fun lo hi => Nat.le_trans (cutS_length z lo hi) hz
  have u1 := fun lo hi => asc_upper (asc_cut az lo hi)
  have up : ∀ lo hi, (Txt.upper (cutS z lo hi)).length ≤ 10 := fun lo hi => by rw [(u1 lo hi).2]; exact l1 lo hi
  have lA : (cutS z none (some r) ++ (⟨#[c]⟩ : Str)).length ≤ 11 := by
    rw [Str.length_append]
    have := l1 none (some r)
    show _ + 1 ≤ 11
    omega
  -- spoilt = [..]
  refine ⟨_, rfl, _, rfl, _, rfl, z, rfl, hzl, _, rfl, _, _, rfl, rfl, sz _ (by have := l1 none (some r); show _ + 1 ≤ _; omega), _, rfl, _, rfl, _, rfl, z, rfl, hzl, _, _, rfl, rfl, sz _ (by have := l1 (some r) none; omega), ?_⟩
  refine ⟨_, rfl, _, rfl, _, rfl, z, rfl, hzl, _, rfl, _, rfl, _, rfl, z, rfl, hzl, rfl, _, rfl, rfl, by have := l1 (some r) none; omega, _, _, rfl, rfl, sz _ (by have := l1 none (some r); have := up (some r) none; omega), ?_⟩
  refine ⟨(by show 2 ≤ sizeLine; decide), fun l hl => ?_⟩
  have dl : l ≠ d := dr3.ne hl
  -- return _law_of(draws, [text, text] + spoilt)
  refine ⟨_, rfl, _, rfl, _, rfl, (by show 2 ≤ sizeLine; decide), fun p hp => ?_⟩
  have dr4 := dr3.upd (o := .lst [.str (cutS z none (some r) ++ (⟨#[c]⟩ : Str) ++ cutS z (some r) none), .str (cutS z none (some r) ++ Txt.upper (cutS z (some r) none))]) dl
  have dp : p ≠ d := dr4.ne hp
  have dr5 := dr4.upd (o := .lst [.str z, .str z]) dp
  refine ⟨_, rfl, p, l, _, _, rfl, rfl, upd_same, (same_upd hp) _ _ upd_same, (by show 4 ≤ sizeLine; decide), fun p2 hp2 => ?_⟩
  have dp2 : p2 ≠ d := dr5.ne hp2
  refine ⟨d, p2, n + 62, _, rfl, dp2, SqL.of upd_same, by simp, by show 4 ≤ 1000; decide, dr5.upd dp2, by omega, fun H' v hv bt dr' => ?_⟩
  have bt' : But d H H' := ((b1.trans b2).trans b3).trans ((But.new hl).trans ((But.new hp).trans ((But.new hp2).trans bt)))
  have fin : ∀ y : Str, Good y → v = .str y → Q v H' := fun y gy e => by
    rw [e]
    exact q H' y gy bt' (dr'.mono (by omega))
  have gz : Good z := ⟨by omega, az⟩
  simp only [List.cons_append, List.nil_append, List.mem_cons, List.not_mem_nil, or_false] at hv
  rcases hv with e | e | e | e
  · exact fin _ gz e
  · exact fin _ gz e
  · refine fin _ ⟨?_, asc_app (asc_app (asc_cut az _ _) as1) (asc_cut az _ _)⟩ e
    rw [Str.length_append]
    have := l1 (some r) none
    omega
  · refine fin _ ⟨?_, asc_app (asc_cut az _ _) (u1 _ _).1⟩ e
    rw [Str.length_append]
    have := l1 none (some r)
    have := up (some r) none
    omega
theorem ok_figures (T : Tx K mg) : FnOk P w K mg base CX0 3 T.A_figures T.fd_figures ["_law_draws_here"] (spText) := by
  refine T.F_figures.ok sc_figures (fun vs H Q E h => ?_) (fun cdv A outer s H vs Q E hr h => ?_)
  · obtain ⟨d, n, rfl, dr, hn, q⟩ := h
    rfl
  obtain ⟨d, n, rfl, dr, hn, q⟩ := h
  refine ⟨_, (pss_cons (ps_set (i := 1) sc_figures.nd rfl (Or.inl rfl) (pe_bm PySem.F.plainAttrs_str PySem.F.slot_str_join PySem.F.type_str_join mt_join pe_str (pa_cons (pe_lc (own := [("_law_k", 4)]) (g := gName 4) (tt := tYes) rfl sc_figures.nd (pi_range1 (by rfl) T.z_range (pa_cons (pe_op op_add pe_int (pe_call (ok_one T) (hr.mono (by decide)) (by rfl) T.g_one T.F_one.kp T.b_one .nil pass0 (pa_cons (pv 0) (pa_cons pe_int pa_nil)))) pa_nil)) (blkOk_by (N := ["_law_draws_here", "_law_word_here", "_law_at", "_law_sign", "_law_k"]) (sc := defScope s_figures) (by decide +kernel)) (fun _ _ _ _ _ => (pg_name (i := 4) sc_figures.nd rfl (Or.inl rfl))) (fun _ _ _ _ _ => pts_nil) (fun _ _ _ _ _ => (pe_ix ix_str pe_str (pe_call (ok_one T) (hr.mono (by decide)) (by rfl) T.g_one T.F_one.kp T.b_one .nil pass0 (pa_cons (pv 0) (pa_cons pe_int pa_nil))) (fun _ _ => rfl)))) pa_nil)))
      (pss_cons (ps_set (i := 2) sc_figures.nd rfl (Or.inl rfl) (pe_call (ok_one T) (hr.mono (by decide)) (by rfl) T.g_one T.F_one.kp T.b_one .nil pass0 (pa_cons (pv 0) (pa_cons (pe_op op_add (pe_callB call_len_str (by rfl) T.z_len PySem.boot_len (pa_cons (pv 1) pa_nil)) pe_int) pa_nil))))
      (pss_cons (ps_set (i := 3) sc_figures.nd rfl (Or.inl rfl) (pe_call (ok_of T) (hr.mono (by decide)) (by rfl) T.g_of T.F_of.kp T.b_of .nil pass0 (pa_cons (pv 0) (pa_cons (pe_lst (pa_cons pe_str (pa_cons pe_str (pa_cons pe_str (pa_cons pe_str (pa_cons pe_str (pa_cons pe_str (pa_cons pe_str pa_nil)))))))) pa_nil))))
      (pss_one (ps_ret (pe_call (ok_of T) (hr.mono (by decide)) (by rfl) T.g_of T.F_of.kp T.b_of .nil pass0 (pa_cons (pv 0) (pa_cons (pe_lst (pa_cons (pv 1) (pa_cons (pv 1) (pa_cons (pe_op op_add_str pe_str (pv 1)) (pa_cons (pe_op op_add_str (pe_op op_add_str (pe_slice sl_str (pv 1) po_none (po_some (pv 2))) (pv 3)) (pe_slice sl_str (pv 1) (po_some (pv 2)) po_none)) (pa_cons pe_str pa_nil)))))) pa_nil)))))))), ?_⟩
  refine ⟨rfl, _, rfl, d, 12, n, rfl, by decide, log_tiny (by decide) (by decide), dr, by omega, fun H1 r h0 h1 b1 dr1 => ?_⟩
  refine ⟨_, _, rfl, rfl, _, rfl, by omega, by omega, fun D hD => lc_draw (d := d) (n := n + 1) (k := (1 + r).toNat) hD dr1 (by omega) figure ?_ ?_⟩
  · intro i H2 R C hi dr2 hR
    refine ⟨rfl, yesT ?_⟩
    refine ⟨_, rfl, d, 10, n + 1 + i, rfl, by decide, log_tiny (by decide) (by decide), dr2, by omega, fun H3 r2 g0 g1 b3 dr3 => ?_⟩
    obtain ⟨c, hc, hl⟩ := fig_at g0 g1
    exact ⟨_, _, c, rfl, rfl, (by decide +kernel), hc, hR H3 c hl b3 dr3⟩
  · intro H2 cs hl hp b2 dr2 e2
    refine ⟨_, D, cs.map (fun c => ⟨#[c]⟩), rfl, rfl, .inl (SqL.of (by rw [map_sg]; exact e2)), ?_, ?_⟩
    · rw [size_signs, List.length_map]
      show _ + _ * 0 ≤ _
      omega
    · have ez := join_text (y := "") rfl cs
      have lz := join_len (y := "") rfl cs
      generalize Txt.join ("" : Str) (cs.map fun c => (⟨#[c]⟩ : Str)) = z at ez lz
      have dr2 : Dr d (n + 20) H2 := dr2.mono (by omega)
      have hz : z.length ≤ 12 := by omega
      have hzl : z.length ≤ sizeLine := sz _ (by omega)
      have az : Asc z := asc_of ez fun c hc => figure_lt (hp c hc)
      have l1 : ∀ lo hi, (cutS z lo hi).length ≤ 12 := fun lo hi => Nat.le_trans (cutS_length z lo hi) hz
      refine ⟨_, rfl, _, rfl, z, rfl, hzl, _, _, rfl, rfl, d, _, n + 20, rfl, by omega, log_tiny (by omega) (by omega), dr2, by omega, fun H3 r2 g0 g1 b3 dr3 => ?_⟩
      refine ⟨_, rfl, (by show 7 ≤ sizeLine; decide), fun l hl => ?_⟩
      have dl : l ≠ d := dr3.ne hl
      refine ⟨d, l, n + 21, _, rfl, dl, SqL.of upd_same, by simp, by show 7 ≤ 1000; decide, dr3.upd dl, by omega, fun H4 v hv b4 dr4 => ?_⟩
      obtain ⟨y, rfl, ly, ay⟩ : ∃ y, v = .str y ∧ y.length = 1 ∧ Asc y := by
        simp only [List.mem_cons, List.not_mem_nil, or_false] at hv
        rcases hv with e | e | e | e | e | e | e <;> exact ⟨_, e, by decide +kernel, by unfold Asc; decide +kernel⟩
      refine ⟨_, rfl, _, rfl, _, rfl, _, rfl, _, _, rfl, rfl, sz _ (by show 1 + _ ≤ _; omega), ?_⟩
      refine ⟨_, rfl, _, rfl, _, rfl, z, rfl, hzl, _, rfl, _, _, rfl, rfl, sz _ (by have := l1 none (some r2); omega), _, rfl, _, rfl, _, rfl, z, rfl, hzl, _, _, rfl, rfl, sz _ (by rw [Str.length_append]; have := l1 none (some r2); have := l1 (some r2) none; omega), ?_⟩
      refine ⟨(by show 5 ≤ sizeLine; decide), fun p hp => ?_⟩
      have dp : p ≠ d := dr4.ne hp
      refine ⟨d, p, n + 22, _, rfl, dp, SqL.of upd_same, by simp, by show 5 ≤ 1000; decide, dr4.upd dp, by omega, fun H' v hv bt dr' => ?_⟩
      have bt' : But d H H' := (b1.trans b2).trans (b3.trans ((But.new hl).trans (b4.trans ((But.new hp).trans bt))))
      have fin : ∀ y : Str, Good y → v = .str y → Q v H' := fun y gy e => by
        rw [e]
        exact q H' y gy bt' (dr'.mono (by omega))
      have gz : Good z := ⟨by omega, az⟩
      simp only [List.mem_cons, List.not_mem_nil, or_false] at hv
      rcases hv with e | e | e | e | e
      · exact fin _ gz e
      · exact fin _ gz e
      · refine fin _ ⟨?_, asc_app (by unfold Asc; decide +kernel) az⟩ e
        rw [Str.length_append]
        show 1 + _ ≤ _
        omega
      · refine fin _ ⟨?_, asc_app (asc_app (asc_cut az _ _) ay) (asc_cut az _ _)⟩ e
        rw [Str.length_append, Str.length_append]
        have := l1 none (some r2)
        have := l1 (some r2) none
        omega
      · exact fin _ ⟨by decide +kernel, by unfold Asc; decide +kernel⟩ e
end
end KB
namespace KB
open PySem PySem.Spec PyProof.Rows L2 KA
theorem nines : wholeV (timesS "9" 300) 300 = .int (NumText.digitsVal (List.replicate 300 57) : Nat) ∧ TL.numL (NumText.digitsVal (List.replicate 300 57)) = List.replicate 300 57 := by
  have e := times_list (z := "9") (c := 57) (n := 300) (by decide +kernel)
  have l := times_len (z := "9") (c := 57) (n := 300) (by decide +kernel)
  constructor
  · rw [wholeV_yes, e]
    unfold goodWord
    rw [e, l]
    decide +kernel
  · have ad : NumText.AllDigits (List.replicate 300 57) := fun c hc => by
      rw [List.eq_of_mem_replicate hc]
      omega
    exact canon_eq (c := 57) (cs := List.replicate 299 57) ad (fun h => absurd h.1 (by decide))
theorem ones : wholeV (timesS "1" 4000) 300 = .non := by
  have l := times_len (z := "1") (c := 49) (n := 4000) (by decide +kernel)
  refine wholeV_no ?_
  unfold goodWord
  rw [l, decide_eq_false (show ¬ ((4000 : Nat) : Int) ≤ 300 by decide), Bool.and_false, Bool.false_and, Bool.false_and]
section
variable {P : Program} {w : World} {K : PySem.W.Frag} {mg : Str → Option Value} {base : Heap}
def spLaw (K : PySem.W.Frag) : Sp := fun vs H Q _ => ∃ (a : Addr) (ns : List Int), vs = [.ref a] ∧ SqL K H a (ns.map V.int) ∧ ns.length ≤ 63 ∧ ∀ H', Q (.bl true) H'
theorem ok_law {f : Addr} {fd : FuncData} (T : Tx K mg) (F : Fun K "law" "law" s_law f fd) : FnOk P w K mg base CX0 5 f fd ["_law_script"] (spLaw K) := by
  refine F.ok sc_law (fun vs H Q E h => ?_) (fun cdv A outer s H vs Q E hr h => ?_)
  · obtain ⟨a, ns, rfl, hS, hlen, q⟩ := h
    rfl
  obtain ⟨a, ns, rfl, hS, hlen, q⟩ := h
  refine ⟨_, (pss_cons (ps_for PassesOwn.never rfl (pi_list (pe_op op_cat (pe_lst (pa_cons (pe_call (ok_cell_at T) (hr.mono (by decide)) (by rfl) T.g_cell_at T.F_cell_at.kp T.b_cell_at .nil pass0 (pa_cons (pv 0) (pa_cons pe_int pa_nil))) pa_nil)) (pe_slice sl_list (pv 0) (po_some pe_int) (po_some pe_int)))) (pg_name (i := 1) sc_law.nd rfl (Or.inl rfl))
        (pss_cons (ps_set (i := 2) sc_law.nd rfl (Or.inl rfl) (pe_call (ok_draws T) (hr.mono (by decide)) (by rfl) T.g_draws T.F_draws.kp T.b_draws .nil pass0 (pa_cons (pv 1) pa_nil)))
      (pss_cons (ps_set (i := 3) sc_law.nd rfl (Or.inl rfl) (pe_call (ok_text T) (hr.mono (by decide)) (by rfl) T.g_text T.F_text.kp T.b_text .nil pass0 (pa_cons (pv 2) pa_nil)))
      (pss_cons (ps_set (i := 4) sc_law.nd rfl (Or.inl rfl) (pe_op op_sub (pe_call (ok_one T) (hr.mono (by decide)) (by rfl) T.g_one T.F_one.kp T.b_one .nil pass0 (pa_cons (pv 2) (pa_cons (pe_op op_mul pe_int (pe_op op_pow pe_int pe_int)) pa_nil))) (pe_op op_pow pe_int pe_int)))
      (pss_cons (ps_set (i := 5) sc_law.nd rfl (Or.inl rfl) (pe_call (ok_of T) (hr.mono (by decide)) (by rfl) T.g_of T.F_of.kp T.b_of .nil pass0 (pa_cons (pv 2) (pa_cons (pe_lst (pa_cons (pv 4) (pa_cons pe_int (pa_cons pe_int (pa_cons pe_int (pa_cons pe_int (pa_cons (pe_op op_mod (pv 4) pe_int) pa_nil))))))) pa_nil))))
      (pss_cons (ps_set (i := 6) sc_law.nd rfl (Or.inl rfl) (pe_op op_sub (pv 5) (pe_call (ok_one T) (hr.mono (by decide)) (by rfl) T.g_one T.F_one.kp T.b_one .nil pass0 (pa_cons (pv 2) (pa_cons pe_int pa_nil)))))
      (pss_cons (ps_set (i := 7) sc_law.nd rfl (Or.inl rfl) (pe_op op_sub (pe_op op_add (pv 5) (pe_call (ok_one T) (hr.mono (by decide)) (by rfl) T.g_one T.F_one.kp T.b_one .nil pass0 (pa_cons (pv 2) (pa_cons pe_int pa_nil)))) pe_int))
      (pss_cons (ps_if (PW.pt (pw_or (pt_not (pt_val (pe_call (ok_name_right T) (hr.mono (by decide)) (by rfl) T.g_name_right T.F_name_right.kp T.b_name_right .nil pass0 (pa_cons (pv 3) pa_nil)))) (pw_or1 (pt_not (pt_val (pe_call (ok_number_right T) (hr.mono (by decide)) (by rfl) T.g_number_right T.F_number_right.kp T.b_number_right .nil pass0 (pa_cons (pv 4) (pa_cons (pv 6) (pa_cons (pv 7) pa_nil))))))))) (pss_one (ps_ret pe_bl)) pss_nil)
      (pss_cons (ps_if (PW.pt (pw_or (pt_not (pt_val (pe_call (ok_number_right T) (hr.mono (by decide)) (by rfl) T.g_number_right T.F_number_right.kp T.b_number_right .nil pass0 (pa_cons (pv 5) (pa_cons (pv 6) (pa_cons (pv 7) pa_nil)))))) (pw_or1 (pt_not (pt_val (pe_call (ok_number_right T) (hr.mono (by decide)) (by rfl) T.g_number_right T.F_number_right.kp T.b_number_right .nil pass0 (pa_cons (pv 5) (pa_cons (pv 4) (pa_cons (pv 5) pa_nil))))))))) (pss_one (ps_ret pe_bl)) pss_nil)
      (pss_cons (ps_if (pt_not (pt_val (pe_call (ok_word_right T) (hr.mono (by decide)) (by rfl) T.g_word_right T.F_word_right.kp T.b_word_right .nil pass0 (pa_cons (pe_call (ok_figures T) (hr.mono (by decide)) (by rfl) T.g_figures T.F_figures.kp T.b_figures .nil pass0 (pa_cons (pv 2) pa_nil)) (pa_cons (pe_op op_add pe_int (pe_call (ok_one T) (hr.mono (by decide)) (by rfl) T.g_one T.F_one.kp T.b_one .nil pass0 (pa_cons (pv 2) (pa_cons pe_int pa_nil)))) pa_nil))))) (pss_one (ps_ret pe_bl)) pss_nil)
      (pss_one (ps_for PassesOwn.never rfl (pi_list (pe_lst (pa_cons pe_non (pa_cons pe_bl (pa_cons pe_bl (pa_cons (pe_lst (pa_cons (pv 3) pa_nil)) (pa_cons (pe_tup (pa_cons (pv 3) pa_nil)) (pa_cons (pe_disp (pps_cons (pv 3) (pv 5) pps_nil) (by rfl) (by rfl) (fun z => by cases z) (by decide)) (pa_cons (pe_lst (pa_cons (pv 5) pa_nil)) (pa_cons (pe_tup (pa_cons (pv 5) pa_nil)) (pa_cons (pe_lst pa_nil) pa_nil))))))))))) (pg_name (i := 8) sc_law.nd rfl (Or.inl rfl))
        (pss_cons (ps_set (i := 9) sc_law.nd rfl (Or.inl rfl) (pe_lst (pa_cons (pe_call (ok_is_name T) (hr.mono (by decide)) (by rfl) T.g_is_name T.F_is_name.kp T.b_is_name .nil pass0 (pa_cons (pv 8) pa_nil)) (pa_cons (pe_call (ok_is_number T) (hr.mono (by decide)) (by rfl) T.g_is_number T.F_is_number.kp T.b_is_number .nil pass0 (pa_cons (pv 8) pa_nil)) (pa_cons (pe_call (ok_is_whole T) (hr.mono (by decide)) (by rfl) T.g_is_whole T.F_is_whole.kp T.b_is_whole .nil pass0 (pa_cons (pv 8) (pa_cons pe_int (pa_cons (pe_op op_pow pe_int pe_int) pa_nil)))) pa_nil)))))
      (pss_one (ps_if (pt_not (pt_val (pe_callB (cr_all rfl) (by rfl) T.z_all (by decide +kernel) (pa_cons (pe_lc (own := [("_law_one_here", 10)]) (g := gName 10) (tt := tYes) rfl sc_law.nd (pi_list (pv 9)) (blkOk_by (N := ["_law_script", "_law_cell", "_law_draws_here", "_law_text_here", "_law_number", "_law_near", "_law_least", "_law_most", "_law_thing", "_law_found", "_law_one_here"]) (sc := defScope s_law) (by decide +kernel)) (fun _ _ _ _ _ => (pg_name (i := 10) sc_law.nd rfl (Or.inl rfl))) (fun _ _ _ _ _ => pts_nil) (fun _ _ _ _ _ => (pe_call (ok_is T) (hr.mono (by decide)) (by rfl) T.g_is T.F_is.kp T.b_is .nil pass0 (pa_cons (pv 10) (pa_cons pe_bl pa_nil))))) pa_nil)))) (pss_one (ps_ret pe_bl)) pss_nil)))))))))))))))
      (pss_one (ps_ret (pe_and (pe_cmpR op_eq (pe_callTy call_str_int (by rfl) T.z_str (by decide +kernel) (pa_cons (pe_call (ok_whole_in T) (hr.mono (by decide)) (by rfl) T.g_whole_in T.F_whole_in.kp T.b_whole_in .nil pass0 (pa_cons (pe_op op_mulS pe_str pe_int) (pa_cons pe_int pa_nil))) pa_nil)) (pe_op op_mulS pe_str pe_int) (nomark _)) (pe_one (pe_cmpR op_isN (pe_call (ok_whole_in T) (hr.mono (by decide)) (by rfl) T.g_whole_in T.F_whole_in.kp T.b_whole_in .nil pass0 (pa_cons (pe_op op_mulS pe_str pe_int) (pa_cons pe_int pa_nil))) pe_non (nomark _))))))), ?_⟩
  refine ⟨_, rfl, a, ns, rfl, hS, (by show 1 ≤ sizeLine; decide), fun p hp => ?_⟩
  have s1 : Same H (upd H p (.lst [.int (ns.headD 0)])) := same_upd hp
  refine ⟨_, rfl, _, rfl, _, rfl, a, _, rfl, s1.seq hS, fun p2 hp2 => ?_⟩
  have s2 : Same (upd H p (.lst [.int (ns.headD 0)])) (upd (upd H p (.lst [.int (ns.headD 0)])) p2 (.lst (cutV (ns.map V.int) (some 1) (some 30)))) := same_upd hp2
  have hcut : (cutV (ns.map V.int) (some 1) (some 30)).length ≤ 63 := by
    unfold cutV
    rw [List.length_take, List.length_drop, List.length_map]
    omega
  refine ⟨p, p2, _, _, rfl, rfl, s2 _ _ upd_same, upd_same, sz _ (by rw [List.length_singleton]; omega), fun p3 hp3 => ?_⟩
  refine ⟨p3, rfl, ⟨_, SqL.of upd_same⟩, for_list (K := K) (a := p3) (xs := [V.int (ns.headD 0)] ++ cutV (ns.map V.int) (some 1) (some 30)) (fun i σ H' => ∃ w1 w2 w3 w4 w5 w6 w7 w8 w9 w10, σ = [some (.ref a), w1, w2, w3, w4, w5, w6, w7, w8, w9, w10] ∧ H' p3 = some (.lst ([V.int (ns.headD 0)] ++ cutV (ns.map V.int) (some 1) (some 30)))) ⟨_, _, _, _, _, _, _, _, _, _, rfl, upd_same⟩ (fun i σ H' _ h => ?_) ?_ ?_⟩
  · obtain ⟨_, _, _, _, _, _, _, _, _, _, _, e⟩ := h
    exact SqL.of e
  · rintro i x σ H0 hi ⟨w1, w2, w3, w4, w5, w6, w7, w8, w9, w10, rfl, e0⟩
    obtain ⟨cell, rfl⟩ := cells_int hi
    -- the draws, the text
    refine ⟨_, rfl, cell, rfl, fun d H1 hd t1 dr1 => ?_⟩
    refine ⟨_, rfl, d, 0, rfl, dr1, by omega, fun H2 z gz b2 dr2 => ?_⟩
    have u2 : Same H0 H2 := b2.same hd t1
    -- the number
    refine ⟨_, rfl, _, _, rfl, rfl, ⟨by decide, by decide, by decide⟩, _, _, rfl, rfl, .inl ⟨by decide, by decide⟩, d, _, 100, rfl, (by decide), log_tiny (by decide) (by decide), dr2, by omega, fun H3 r h0 h1 b3 dr3 => ?_⟩
    refine ⟨_, _, rfl, rfl, ⟨by decide, by decide, by decide⟩, _, _, rfl, rfl, ?_⟩
    -- near
    refine ⟨_, rfl, _, rfl, _, rfl, _, _, rfl, rfl, (by show (0 : Int) < 1000; decide), (by show 6 ≤ sizeLine; decide), fun l hl => ?_⟩
    have dl : l ≠ d := dr3.ne hl
    refine ⟨d, l, 101, _, rfl, dl, SqL.of upd_same, by simp, by show 6 ≤ 1000; decide, dr3.upd dl, by omega, fun H4 v hv b4 dr4 => ?_⟩
    obtain ⟨near, rfl⟩ : ∃ k, v = .int k := by
      simp only [List.mem_cons, List.not_mem_nil, or_false] at hv
      rcases hv with e | e | e | e | e | e <;> exact ⟨_, e⟩
    have u4 : Same H0 H4 := (b3.trans ((But.new hl).trans b4)).same hd u2
    -- least, most
    refine ⟨_, rfl, _, rfl, d, 3, 102, rfl, by decide, log_tiny (by decide) (by decide), dr4, by omega, fun H5 r5 _ _ b5 dr5 => ⟨_, _, rfl, rfl, ?_⟩⟩
    refine ⟨_, rfl, _, rfl, d, 3, 103, rfl, by decide, log_tiny (by decide) (by decide), dr5, by omega, fun H6 r6 _ _ b6 dr6 => ⟨_, _, rfl, rfl, _, _, rfl, rfl, ?_⟩⟩
    have u6 : Same H0 H6 := (b5.trans b6).same hd u4
    -- the names and numbers
    refine ⟨_, rfl, z, rfl, by have := gz.1; omega, gz.2, fun H7 s7 => ⟨_, rfl, ?_⟩⟩
    refine iteF ⟨_, rfl, _, rfl, _, rfl, _, _, _, rfl, fun H8 s8 => ⟨_, rfl, ?_⟩⟩
    refine iteF ⟨_, rfl, _, rfl, _, rfl, _, _, _, rfl, fun H9 s9 => ⟨_, rfl, ?_⟩⟩
    refine iteF ⟨_, rfl, _, rfl, _, rfl, _, _, _, rfl, fun H10 s10 => ⟨_, rfl, ?_⟩⟩
    refine iteF ?_
    have u10 : Same H0 H10 := u6.trans (((s7.trans s8).trans s9).trans s10)
    have dr10 : Dr d 104 H10 := dr6.same (((s7.trans s8).trans s9).trans s10)
    -- the words of figures
    refine ⟨_, rfl, d, 104, rfl, dr10, by omega, fun H11 z2 gz2 b11 dr11 => ?_⟩
    refine ⟨_, rfl, d, 13, 204, rfl, by decide, log_tiny (by decide) (by decide), dr11, by omega, fun H12 r12 k0 k1 b12 dr12 => ⟨_, _, rfl, rfl, ?_⟩⟩
    refine ⟨z2, _, rfl, by have := gz2.1; omega, by omega, gz2.2, fun H13 s13 => ⟨_, rfl, ?_⟩⟩
    refine iteF ?_
    have u13 : Same H0 H13 := ((b11.trans b12).same hd u10).trans s13
    -- things of other kinds
    refine ⟨_, rfl, (by show 1 ≤ sizeLine; decide), fun q1 h1 => ?_⟩
    refine ⟨_, rfl, (by show 1 ≤ sizeLine; decide), fun q2 h2 => ?_⟩
    refine fun q3 h3 => ⟨_, rfl, _, rfl, upd_same, [(Sum.inr z, .int near)], rfl, (by show 1 ≤ 15; decide), ?_⟩
    refine ⟨_, rfl, (by show 1 ≤ sizeLine; decide), fun q4 h4 => ?_⟩
    refine ⟨_, rfl, (by show 1 ≤ sizeLine; decide), fun q5 h5 => ?_⟩
    refine ⟨Nat.zero_le _, fun q6 h6 => ?_⟩
    refine ⟨(by show 9 ≤ sizeLine; decide), fun q7 h7 => ?_⟩
    have t1 := same_upd (o := .lst [.str z]) h1
    have t2 := same_upd (o := .tup [.str z]) h2
    have t3 : Same (upd (upd H13 q1 (.lst [.str z])) q2 (.tup [.str z])) (upd (upd (upd (upd H13 q1 (.lst [.str z])) q2 (.tup [.str z])) q3 (.dK [])) q3 (.dK (mergeK [] [(Sum.inr z, .int near)]))) := fun b o e => by
      rw [upd_ne (ne_of_none e h3), upd_ne (ne_of_none e h3)]
      exact e
    have t4 := same_upd (o := .lst [.int near]) h4
    have t5 := same_upd (o := .tup [.int near]) h5
    have t6 := same_upd (o := .lst []) h6
    have t7 := same_upd (o := .lst [.non, .bl true, .bl false, .ref q1, .ref q2, .ref q3, .ref q4, .ref q5, .ref q6]) h7
    have uG := (((((u13.trans t1).trans t2).trans t3).trans t4).trans t5).trans (t6.trans t7)
    have g1 := (((((t2.trans t3).trans t4).trans t5).trans t6).trans t7) _ _ (upd_same (H := H13) (a := q1) (o := .lst [.str z]))
    have g2 := ((((t3.trans t4).trans t5).trans t6).trans t7) _ _ upd_same
    have g3 := (((t4.trans t5).trans t6).trans t7) _ _ upd_same
    have g4 := ((t5.trans t6).trans t7) _ _ upd_same
    have g5 := (t6.trans t7) _ _ upd_same
    have g6 := t7 _ _ upd_same
    have g7 := upd_same (H := upd (upd (upd (upd (upd (upd (upd H13 q1 (.lst [.str z])) q2 (.tup [.str z])) q3 (.dK [])) q3 (.dK (mergeK [] [(Sum.inr z, .int near)]))) q4 (.lst [.int near])) q5 (.tup [.int near])) q6 (.lst [])) (a := q7) (o := .lst [.non, .bl true, .bl false, .ref q1, .ref q2, .ref q3, .ref q4, .ref q5, .ref q6])
    generalize upd (upd (upd (upd (upd (upd (upd (upd H13 q1 (.lst [.str z])) q2 (.tup [.str z])) q3 (.dK [])) q3 (.dK (mergeK [] [(Sum.inr z, .int near)]))) q4 (.lst [.int near])) q5 (.tup [.int near])) q6 (.lst [])) q7 (.lst [.non, .bl true, .bl false, .ref q1, .ref q2, .ref q3, .ref q4, .ref q5, .ref q6]) = HG at uG g1 g2 g3 g4 g5 g6 g7 ⊢
    have things : ∀ x ∈ [V.non, .bl true, .bl false, .ref q1, .ref q2, .ref q3, .ref q4, .ref q5, .ref q6], Th K HG x ∧ isI x = false ∧ isS x = false := fun x hx => by
      simp only [List.mem_cons, List.not_mem_nil, or_false] at hx
      rcases hx with e | e | e | e | e | e | e | e | e <;> subst e
      · exact ⟨.non, rfl, rfl⟩
      · exact ⟨.bl _, rfl, rfl⟩
      · exact ⟨.bl _, rfl, rfl⟩
      · exact ⟨.lst (.base (.lst g1)), rfl, rfl⟩
      · exact ⟨.tup (.base (.tup g2)), rfl, rfl⟩
      · exact ⟨.dct (.base (.dK g3)), rfl, rfl⟩
      · exact ⟨.lst (.base (.lst g4)), rfl, rfl⟩
      · exact ⟨.tup (.base (.tup g5)), rfl, rfl⟩
      · exact ⟨.lst (.base (.lst g6)), rfl, rfl⟩
    refine ⟨q7, rfl, ⟨_, SqL.of g7⟩, for_list (K := K) (a := q7) (xs := [V.non, .bl true, .bl false, .ref q1, .ref q2, .ref q3, .ref q4, .ref q5, .ref q6]) (fun i σ H' => ∃ v8 v9 v10, σ = [some (.ref a), some (.int cell), some (.ref d), some (.str z), some (.int (r - 10 ^ (13 : Int).toNat)), some (.int near), some (.int (near - r5)), some (.int (near + r6 - 1)), v8, v9, v10] ∧ Same HG H') ⟨_, _, _, rfl, Same.refl _⟩ (fun i σ H' _ h => ?_) ?_ ?_⟩
    · obtain ⟨_, _, _, _, e⟩ := h
      exact SqL.of (e _ _ g7)
    · rintro j x σ H14 hj ⟨v8, v9, v10, rfl, s14⟩
      obtain ⟨th, nI, nS⟩ := things x (List.mem_of_getElem? hj)
      have th14 := th.same s14
      refine ⟨_, rfl, x, rfl, th14, (fun y hy => by rw [hy] at nS; cases nS), fun H15 s15 => ?_⟩
      have th15 := th14.same s15
      refine ⟨_, rfl, x, rfl, th15, _, rfl, _, _, rfl, rfl, ⟨by decide, by decide, by decide⟩, x, _, _, rfl, th15, (by show 3 ≤ sizeLine; decide), fun l hl => ?_⟩
      have w0 : ∀ lo hi, whl x lo hi = false := fun lo hi => by cases x <;> simp_all [isI, whl]
      rw [nm_no nS, w0, w0]
      refine ⟨_, rfl, l, rfl, ⟨_, SqL.of upd_same⟩, fun D hD => lc_list (K := K) (a := l) (xs := [V.bl false, .bl false, .bl false]) (fun i H' => Same (upd H15 l (.lst [.bl false, .bl false, .bl false])) H' ∧ H' D = some (.lst ((List.replicate i true).map V.bl))) ⟨same_upd hD, upd_same⟩ (fun i H' _ h => SqL.of (h.1 _ _ upd_same)) ?_ ?_⟩
      · rintro k y H16 hk ⟨s16, e16⟩
        have ey : y = .bl false := by
          have := List.mem_of_getElem? hk
          simpa using this
        subst ey
        have hk3 : k < 3 := (List.getElem?_eq_some_iff.mp hk).1
        refine ⟨rfl, yesT ⟨_, rfl, false, false, rfl, _, e16, ?_, fun b o e => ?_, ?_⟩⟩
        · rw [List.length_map, List.length_replicate]
          exact Nat.lt_of_lt_of_le hk3 (by decide)
        · rw [upd_ne (ne_of_none e hD)]
          exact s16 _ _ e
        · rw [upd_same, List.replicate_succ', List.map_append]
          rfl
      · rintro H16 ⟨s16, e16⟩
        refine ⟨D, List.replicate 3 true, rfl, SqL.of e16, _, rfl, ?_⟩
        refine iteF ⟨_, _, _, rfl, ?_⟩
        exact (s14.trans s15).trans ((same_upd hl).trans s16)
    · rintro σ H' ⟨v8, v9, v10, rfl, s14⟩
      exact ⟨_, _, _, _, _, _, _, _, _, _, rfl, s14 _ _ (uG _ _ e0)⟩
  · rintro σ H' ⟨w1, w2, w3, w4, w5, w6, w7, w8, w9, w10, rfl, e0⟩
    refine ⟨_, _, rfl, rfl, by decide, by decide, ⟨57, by decide +kernel⟩, _, _, rfl, ?_, by decide, fun H1 t1 => ?_⟩
    · exact Nat.le_trans (Nat.le_of_eq (times_len (z := "9") (n := 300) (c := 57) (by decide +kernel))) (by decide)
    · show ∃ i, [wholeV (timesS "9" 300) 300] = [V.int i] ∧ _
      rw [nines.1]
      have hlog : ((NumText.digitsVal (List.replicate 300 57) : Nat) : Int).natAbs.log2 < 1920 := by
        rw [Int.natAbs_natCast]
        refine PySem.Flt.log2_lt_of (by decide) ?_
        decide +kernel
      refine ⟨_, rfl, hlog, _, _, rfl, rfl, by decide, by decide, ⟨57, by decide +kernel⟩, rfl, _, rfl, ?_⟩
      have e9 : V.str (Str.ofString (toString ((NumText.digitsVal (List.replicate 300 57) : Nat) : Int))) = V.str (timesS "9" (300 : Int).toNat) := by
        refine congrArg V.str (TL.ext_tl ?_)
        rw [TL.tl_num, nines.2]
        exact (times_list (z := "9") (c := 57) (n := 300) (by decide +kernel)).symm
      rw [decide_eq_true e9]
      refine iteT ⟨_, _, rfl, rfl, by decide, by decide, ⟨49, by decide +kernel⟩, _, _, rfl, ?_, by decide, fun H2 t2 => ⟨rfl, ?_⟩⟩
      · exact Nat.le_trans (Nat.le_of_eq (times_len (z := "1") (n := 4000) (c := 49) (by decide +kernel))) (by decide)
      · show Q (.bl (decide (wholeV (timesS "1" 4000) 300 = .non))) H2
        rw [decide_eq_true ones]
        exact q H2
end
theorem all_mk {l : PySem.W.OpenLaw} {w : World} {K : PySem.W.Frag} {h : Heap} {mg : Str → Option Value} {fa : Addr} (X : K.In h) (G : h.Ns mainGlobals mg) (hfa : mg "law" = some (.ref fa))
    {f0 : Addr} {od0 an0 : Option Addr} {sl0 : Array (Option Value)} {oc0 kV0 dc0 pm0 cd0 ct0 : Value}
    {f1 : Addr} {od1 an1 : Option Addr} {sl1 : Array (Option Value)} {oc1 kV1 dc1 pm1 cd1 ct1 : Value}
    {f2 : Addr} {od2 an2 : Option Addr} {sl2 : Array (Option Value)} {oc2 kV2 dc2 pm2 cd2 ct2 : Value}
    {f3 : Addr} {od3 an3 : Option Addr} {sl3 : Array (Option Value)} {oc3 kV3 dc3 pm3 cd3 ct3 : Value}
    {f4 : Addr} {od4 an4 : Option Addr} {sl4 : Array (Option Value)} {oc4 kV4 dc4 pm4 cd4 ct4 : Value}
    {f5 : Addr} {od5 an5 : Option Addr} {sl5 : Array (Option Value)} {oc5 kV5 dc5 pm5 cd5 ct5 : Value}
    {f6 : Addr} {od6 an6 : Option Addr} {sl6 : Array (Option Value)} {oc6 kV6 dc6 pm6 cd6 ct6 : Value}
    {f7 : Addr} {od7 an7 : Option Addr} {sl7 : Array (Option Value)} {oc7 kV7 dc7 pm7 cd7 ct7 : Value}
    {f8 : Addr} {od8 an8 : Option Addr} {sl8 : Array (Option Value)} {oc8 kV8 dc8 pm8 cd8 ct8 : Value}
    {f9 : Addr} {od9 an9 : Option Addr} {sl9 : Array (Option Value)} {oc9 kV9 dc9 pm9 cd9 ct9 : Value}
    {f10 : Addr} {od10 an10 : Option Addr} {sl10 : Array (Option Value)} {oc10 kV10 dc10 pm10 cd10 ct10 : Value}
    {f11 : Addr} {od11 an11 : Option Addr} {sl11 : Array (Option Value)} {oc11 kV11 dc11 pm11 cd11 ct11 : Value}
    {f12 : Addr} {od12 an12 : Option Addr} {sl12 : Array (Option Value)} {oc12 kV12 dc12 pm12 cd12 ct12 : Value}
    {f13 : Addr} {od13 an13 : Option Addr} {sl13 : Array (Option Value)} {oc13 kV13 dc13 pm13 cd13 ct13 : Value}
    {f14 : Addr} {od14 an14 : Option Addr} {sl14 : Array (Option Value)} {oc14 kV14 dc14 pm14 cd14 ct14 : Value}
    {f15 : Addr} {od15 an15 : Option Addr} {sl15 : Array (Option Value)} {oc15 kV15 dc15 pm15 cd15 ct15 : Value}
    {f16 : Addr} {od16 an16 : Option Addr} {sl16 : Array (Option Value)} {oc16 kV16 dc16 pm16 cd16 ct16 : Value}
    {tc0 : Tok}
    {tc1 : Tok}
    {tc2 : Tok}
    (a0 : PySem.W.nsIn K mainGlobals "is_int" = some (some (.ref f0)))
    (l0 : K.lookup f0 = some ⟨oc0, od0, .func (PySem.W.fnOf "is_int" "is_int" (defArgs s_is_int) (defBody s_is_int) (defScope s_is_int) .none kV0 dc0 pm0 an0 cd0 ct0), sl0⟩)
    (c0 : PySem.W.codeIn K cd0 "is_int" = true)
    (k0 : PySem.W.keepIn K (.ref f0) = true)
    (a1 : PySem.W.nsIn K mainGlobals "is_whole" = some (some (.ref f1)))
    (l1 : K.lookup f1 = some ⟨oc1, od1, .func (PySem.W.fnOf "is_whole" "is_whole" (defArgs s_is_whole) (defBody s_is_whole) (defScope s_is_whole) .none kV1 dc1 pm1 an1 cd1 ct1), sl1⟩)
    (c1 : PySem.W.codeIn K cd1 "is_whole" = true)
    (k1 : PySem.W.keepIn K (.ref f1) = true)
    (a2 : PySem.W.nsIn K mainGlobals "is_name" = some (some (.ref f2)))
    (l2 : K.lookup f2 = some ⟨oc2, od2, .func (PySem.W.fnOf "is_name" "is_name" (defArgs s_is_name) (defBody s_is_name) (defScope s_is_name) .none kV2 dc2 pm2 an2 cd2 ct2), sl2⟩)
    (c2 : PySem.W.codeIn K cd2 "is_name" = true)
    (k2 : PySem.W.keepIn K (.ref f2) = true)
    (a3 : PySem.W.nsIn K mainGlobals "is_number" = some (some (.ref f3)))
    (l3 : K.lookup f3 = some ⟨oc3, od3, .func (PySem.W.fnOf "is_number" "is_number" (defArgs s_is_number) (defBody s_is_number) (defScope s_is_number) .none kV3 dc3 pm3 an3 cd3 ct3), sl3⟩)
    (c3 : PySem.W.codeIn K cd3 "is_number" = true)
    (k3 : PySem.W.keepIn K (.ref f3) = true)
    (a4 : PySem.W.nsIn K mainGlobals "whole_in" = some (some (.ref f4)))
    (l4 : K.lookup f4 = some ⟨oc4, od4, .func (PySem.W.fnOf "whole_in" "whole_in" (defArgs s_whole_in) (defBody s_whole_in) (defScope s_whole_in) .none kV4 dc4 pm4 an4 cd4 ct4), sl4⟩)
    (c4 : PySem.W.codeIn K cd4 "whole_in" = true)
    (k4 : PySem.W.keepIn K (.ref f4) = true)
    (a5 : PySem.W.nsIn K mainGlobals "_law_cell_at" = some (some (.ref f5)))
    (l5 : K.lookup f5 = some ⟨oc5, od5, .func (PySem.W.fnOf "_law_cell_at" "_law_cell_at" (defArgs s_cell_at) (defBody s_cell_at) (defScope s_cell_at) .none kV5 dc5 pm5 an5 cd5 ct5), sl5⟩)
    (c5 : PySem.W.codeIn K cd5 "_law_cell_at" = true)
    (k5 : PySem.W.keepIn K (.ref f5) = true)
    (a6 : PySem.W.nsIn K mainGlobals "_law_draws" = some (some (.ref f6)))
    (l6 : K.lookup f6 = some ⟨oc6, od6, .func (PySem.W.fnOf "_law_draws" "_law_draws" (defArgs s_draws) (defBody s_draws) (defScope s_draws) .none kV6 dc6 pm6 an6 cd6 ct6), sl6⟩)
    (c6 : PySem.W.codeIn K cd6 "_law_draws" = true)
    (k6 : PySem.W.keepIn K (.ref f6) = true)
    (a7 : PySem.W.nsIn K mainGlobals "_law_one" = some (some (.ref f7)))
    (l7 : K.lookup f7 = some ⟨oc7, od7, .func (PySem.W.fnOf "_law_one" "_law_one" (defArgs s_one) (defBody s_one) (defScope s_one) .none kV7 dc7 pm7 an7 cd7 ct7), sl7⟩)
    (c7 : PySem.W.codeIn K cd7 "_law_one" = true)
    (k7 : PySem.W.keepIn K (.ref f7) = true)
    (a8 : PySem.W.nsIn K mainGlobals "_law_of" = some (some (.ref f8)))
    (l8 : K.lookup f8 = some ⟨oc8, od8, .func (PySem.W.fnOf "_law_of" "_law_of" (defArgs s_of) (defBody s_of) (defScope s_of) .none kV8 dc8 pm8 an8 cd8 ct8), sl8⟩)
    (c8 : PySem.W.codeIn K cd8 "_law_of" = true)
    (k8 : PySem.W.keepIn K (.ref f8) = true)
    (a9 : PySem.W.nsIn K mainGlobals "_law_word" = some (some (.ref f9)))
    (l9 : K.lookup f9 = some ⟨oc9, od9, .func (PySem.W.fnOf "_law_word" "_law_word" (defArgs s_word) (defBody s_word) (defScope s_word) .none kV9 dc9 pm9 an9 cd9 ct9), sl9⟩)
    (c9 : PySem.W.codeIn K cd9 "_law_word" = true)
    (k9 : PySem.W.keepIn K (.ref f9) = true)
    (a10 : PySem.W.nsIn K mainGlobals "_law_text" = some (some (.ref f10)))
    (l10 : K.lookup f10 = some ⟨oc10, od10, .func (PySem.W.fnOf "_law_text" "_law_text" (defArgs s_text) (defBody s_text) (defScope s_text) .none kV10 dc10 pm10 an10 cd10 ct10), sl10⟩)
    (c10 : PySem.W.codeIn K cd10 "_law_text" = true)
    (k10 : PySem.W.keepIn K (.ref f10) = true)
    (a11 : PySem.W.nsIn K mainGlobals "_law_figures" = some (some (.ref f11)))
    (l11 : K.lookup f11 = some ⟨oc11, od11, .func (PySem.W.fnOf "_law_figures" "_law_figures" (defArgs s_figures) (defBody s_figures) (defScope s_figures) .none kV11 dc11 pm11 an11 cd11 ct11), sl11⟩)
    (c11 : PySem.W.codeIn K cd11 "_law_figures" = true)
    (k11 : PySem.W.keepIn K (.ref f11) = true)
    (a12 : PySem.W.nsIn K mainGlobals "_law_is" = some (some (.ref f12)))
    (l12 : K.lookup f12 = some ⟨oc12, od12, .func (PySem.W.fnOf "_law_is" "_law_is" (defArgs s_is) (defBody s_is) (defScope s_is) .none kV12 dc12 pm12 an12 cd12 ct12), sl12⟩)
    (c12 : PySem.W.codeIn K cd12 "_law_is" = true)
    (k12 : PySem.W.keepIn K (.ref f12) = true)
    (a13 : PySem.W.nsIn K mainGlobals "_law_name_right" = some (some (.ref f13)))
    (l13 : K.lookup f13 = some ⟨oc13, od13, .func (PySem.W.fnOf "_law_name_right" "_law_name_right" (defArgs s_name_right) (defBody s_name_right) (defScope s_name_right) .none kV13 dc13 pm13 an13 cd13 ct13), sl13⟩)
    (c13 : PySem.W.codeIn K cd13 "_law_name_right" = true)
    (k13 : PySem.W.keepIn K (.ref f13) = true)
    (a14 : PySem.W.nsIn K mainGlobals "_law_number_right" = some (some (.ref f14)))
    (l14 : K.lookup f14 = some ⟨oc14, od14, .func (PySem.W.fnOf "_law_number_right" "_law_number_right" (defArgs s_number_right) (defBody s_number_right) (defScope s_number_right) .none kV14 dc14 pm14 an14 cd14 ct14), sl14⟩)
    (c14 : PySem.W.codeIn K cd14 "_law_number_right" = true)
    (k14 : PySem.W.keepIn K (.ref f14) = true)
    (a15 : PySem.W.nsIn K mainGlobals "_law_word_right" = some (some (.ref f15)))
    (l15 : K.lookup f15 = some ⟨oc15, od15, .func (PySem.W.fnOf "_law_word_right" "_law_word_right" (defArgs s_word_right) (defBody s_word_right) (defScope s_word_right) .none kV15 dc15 pm15 an15 cd15 ct15), sl15⟩)
    (c15 : PySem.W.codeIn K cd15 "_law_word_right" = true)
    (k15 : PySem.W.keepIn K (.ref f15) = true)
    (a16 : PySem.W.nsIn K mainGlobals "law" = some (some (.ref f16)))
    (l16 : K.lookup f16 = some ⟨oc16, od16, .func (PySem.W.fnOf "law" "law" (defArgs s_law) (defBody s_law) (defScope s_law) .none kV16 dc16 pm16 an16 cd16 ct16), sl16⟩)
    (c16 : PySem.W.codeIn K cd16 "law" = true)
    (k16 : PySem.W.keepIn K (.ref f16) = true)
    (q0 : PySem.W.nsIn K mainGlobals "FIGURES" = some (some (.str "0123456789" tc0)))
    (q1 : PySem.W.nsIn K mainGlobals "LONGEST_NAME" = some (some (.int 8 tc1)))
    (q2 : PySem.W.nsIn K mainGlobals "GREATEST_NUMBER" = some (some (.int 1000000000 tc2)))
    (z0 : PySem.W.nsIn K mainGlobals "bool" = some none)
    (z1 : PySem.W.nsIn K mainGlobals "isinstance" = some none)
    (z2 : PySem.W.nsIn K mainGlobals "int" = some none)
    (z3 : PySem.W.nsIn K mainGlobals "len" = some none)
    (z4 : PySem.W.nsIn K mainGlobals "str" = some none)
    (z5 : PySem.W.nsIn K mainGlobals "all" = some none)
    (z6 : PySem.W.nsIn K mainGlobals "range" = some none) :
    ∃ fd : FuncData, (∀ (s : Shared) (v : Value), BindsTo s fd ⟨[v], []⟩ [("_law_script", v)]) ∧ ∀ base : Heap, K.In base → base.Ns mainGlobals mg → FnOk l.prog w K mg base CX0 5 fa fd ["_law_script"] (spLaw K) := by
  have e := hfa.symm.trans (PySem.W.mg_of X G a16)
  cases e
  have F0 := fun_mk (st := s_is_int) l0 c0 k0
  have F1 := fun_mk (st := s_is_whole) l1 c1 k1
  have F2 := fun_mk (st := s_is_name) l2 c2 k2
  have F3 := fun_mk (st := s_is_number) l3 c3 k3
  have F4 := fun_mk (st := s_whole_in) l4 c4 k4
  have F5 := fun_mk (st := s_cell_at) l5 c5 k5
  have F6 := fun_mk (st := s_draws) l6 c6 k6
  have F7 := fun_mk (st := s_one) l7 c7 k7
  have F8 := fun_mk (st := s_of) l8 c8 k8
  have F9 := fun_mk (st := s_word) l9 c9 k9
  have F10 := fun_mk (st := s_text) l10 c10 k10
  have F11 := fun_mk (st := s_figures) l11 c11 k11
  have F12 := fun_mk (st := s_is) l12 c12 k12
  have F13 := fun_mk (st := s_name_right) l13 c13 k13
  have F14 := fun_mk (st := s_number_right) l14 c14 k14
  have F15 := fun_mk (st := s_word_right) l15 c15 k15
  have F16 := fun_mk (st := s_law) l16 c16 k16
  have b0 := F0.binds (ps := ["thing"]) fun _ _ _ _ _ _ us hl => match us, hl with | [_], _ => rfl
  have b1 := F1.binds (ps := ["thing", "least", "most"]) fun _ _ _ _ _ _ us hl => match us, hl with | [_, _, _], _ => rfl
  have b2 := F2.binds (ps := ["thing"]) fun _ _ _ _ _ _ us hl => match us, hl with | [_], _ => rfl
  have b3 := F3.binds (ps := ["thing"]) fun _ _ _ _ _ _ us hl => match us, hl with | [_], _ => rfl
  have b4 := F4.binds (ps := ["word", "most"]) fun _ _ _ _ _ _ us hl => match us, hl with | [_, _], _ => rfl
  have b5 := F5.binds (ps := ["_law_script", "_law_k"]) fun _ _ _ _ _ _ us hl => match us, hl with | [_, _], _ => rfl
  have b6 := F6.binds (ps := ["_law_cell"]) fun _ _ _ _ _ _ us hl => match us, hl with | [_], _ => rfl
  have b7 := F7.binds (ps := ["_law_draws_here", "_law_many"]) fun _ _ _ _ _ _ us hl => match us, hl with | [_, _], _ => rfl
  have b8 := F8.binds (ps := ["_law_draws_here", "_law_some"]) fun _ _ _ _ _ _ us hl => match us, hl with | [_, _], _ => rfl
  have b9 := F9.binds (ps := ["_law_draws_here", "_law_most"]) fun _ _ _ _ _ _ us hl => match us, hl with | [_, _], _ => rfl
  have b10 := F10.binds (ps := ["_law_draws_here"]) fun _ _ _ _ _ _ us hl => match us, hl with | [_], _ => rfl
  have b11 := F11.binds (ps := ["_law_draws_here"]) fun _ _ _ _ _ _ us hl => match us, hl with | [_], _ => rfl
  have b12 := F12.binds (ps := ["_law_found", "_law_due"]) fun _ _ _ _ _ _ us hl => match us, hl with | [_, _], _ => rfl
  have b13 := F13.binds (ps := ["_law_text_here"]) fun _ _ _ _ _ _ us hl => match us, hl with | [_], _ => rfl
  have b14 := F14.binds (ps := ["_law_number", "_law_least", "_law_most"]) fun _ _ _ _ _ _ us hl => match us, hl with | [_, _, _], _ => rfl
  have b15 := F15.binds (ps := ["_law_word_here", "_law_most"]) fun _ _ _ _ _ _ us hl => match us, hl with | [_, _], _ => rfl
  let T : Tx K mg := ⟨_, _, F0, PySem.W.mg_of X G a0, b0,
    _, _, F1, PySem.W.mg_of X G a1, b1,
    _, _, F2, PySem.W.mg_of X G a2, b2,
    _, _, F3, PySem.W.mg_of X G a3, b3,
    _, _, F4, PySem.W.mg_of X G a4, b4,
    _, _, F5, PySem.W.mg_of X G a5, b5,
    _, _, F6, PySem.W.mg_of X G a6, b6,
    _, _, F7, PySem.W.mg_of X G a7, b7,
    _, _, F8, PySem.W.mg_of X G a8, b8,
    _, _, F9, PySem.W.mg_of X G a9, b9,
    _, _, F10, PySem.W.mg_of X G a10, b10,
    _, _, F11, PySem.W.mg_of X G a11, b11,
    _, _, F12, PySem.W.mg_of X G a12, b12,
    _, _, F13, PySem.W.mg_of X G a13, b13,
    _, _, F14, PySem.W.mg_of X G a14, b14,
    _, _, F15, PySem.W.mg_of X G a15, b15,
    _, PySem.W.mg_of X G q0,
    _, PySem.W.mg_of X G q1,
    _, PySem.W.mg_of X G q2,
    PySem.W.mg_none_of X G z0,
    PySem.W.mg_none_of X G z1,
    PySem.W.mg_none_of X G z2,
    PySem.W.mg_none_of X G z3,
    PySem.W.mg_none_of X G z4,
    PySem.W.mg_none_of X G z5,
    PySem.W.mg_none_of X G z6⟩
  exact ⟨PySem.W.fnOf "law" "law" (defArgs s_law) (defBody s_law) (defScope s_law) .none kV16 dc16 pm16 an16 cd16 ct16, fun s v => .of_eq rfl, fun base _ _ => ok_law T F16⟩
end KB
open PySem PySem.W PyProof.Rows
set_option maxRecDepth 100000 in
set_option maxHeartbeats 0 in
theorem PySem.Challenge.cw_pearlrise_k01_names_and_numbers_holds : PySem.Challenge.rw_pearlrise_k01_names_and_numbers.Holds := by
  w_on; o_law; k_head; (case hw => w_witness2)
  k_fill
  refine L2.walk_of (l := PySem.Challenge.rw_pearlrise_k01_names_and_numbers) (n := 63) (k := 5) (x := "_law_script") (CX := fun _ => L2.CX0) (sp := fun w => KB.spLaw _) rfl (by decide) rfl ⟨rfl, by decide, by decide⟩ (fun w h Y => PySem.W.kIn_of Y) ?F (fun _ _ a ns hl _ hS => ⟨a, ns, rfl, hS, hl, fun _ => rfl⟩) (fun _ _ _ _ _ h => h)
  case F =>
    intro w mg fa h KX G hmg
    refine' KB.all_mk KX G hmg ?a0 ?l0 ?c0 ?k0 ?a1 ?l1 ?c1 ?k1 ?a2 ?l2 ?c2 ?k2 ?a3 ?l3 ?c3 ?k3 ?a4 ?l4 ?c4 ?k4 ?a5 ?l5 ?c5 ?k5 ?a6 ?l6 ?c6 ?k6 ?a7 ?l7 ?c7 ?k7 ?a8 ?l8 ?c8 ?k8 ?a9 ?l9 ?c9 ?k9 ?a10 ?l10 ?c10 ?k10 ?a11 ?l11 ?c11 ?k11 ?a12 ?l12 ?c12 ?k12 ?a13 ?l13 ?c13 ?k13 ?a14 ?l14 ?c14 ?k14 ?a15 ?l15 ?c15 ?k15 ?a16 ?l16 ?c16 ?k16 ?q0 ?q1 ?q2 ?z0 ?z1 ?z2 ?z3 ?z4 ?z5 ?z6
    (case a0 => k_is)
    (case l0 => k_is)
    (case c0 => k_is)
    (case k0 => k_is)
    (case a1 => k_is)
    (case l1 => k_is)
    (case c1 => k_is)
    (case k1 => k_is)
    (case a2 => k_is)
    (case l2 => k_is)
    (case c2 => k_is)
    (case k2 => k_is)
    (case a3 => k_is)
    (case l3 => k_is)
    (case c3 => k_is)
    (case k3 => k_is)
    (case a4 => k_is)
    (case l4 => k_is)
    (case c4 => k_is)
    (case k4 => k_is)
    (case a5 => k_is)
    (case l5 => k_is)
    (case c5 => k_is)
    (case k5 => k_is)
    (case a6 => k_is)
    (case l6 => k_is)
    (case c6 => k_is)
    (case k6 => k_is)
    (case a7 => k_is)
    (case l7 => k_is)
    (case c7 => k_is)
    (case k7 => k_is)
    (case a8 => k_is)
    (case l8 => k_is)
    (case c8 => k_is)
    (case k8 => k_is)
    (case a9 => k_is)
    (case l9 => k_is)
    (case c9 => k_is)
    (case k9 => k_is)
    (case a10 => k_is)
    (case l10 => k_is)
    (case c10 => k_is)
    (case k10 => k_is)
    (case a11 => k_is)
    (case l11 => k_is)
    (case c11 => k_is)
    (case k11 => k_is)
    (case a12 => k_is)
    (case l12 => k_is)
    (case c12 => k_is)
    (case k12 => k_is)
    (case a13 => k_is)
    (case l13 => k_is)
    (case c13 => k_is)
    (case k13 => k_is)
    (case a14 => k_is)
    (case l14 => k_is)
    (case c14 => k_is)
    (case k14 => k_is)
    (case a15 => k_is)
    (case l15 => k_is)
    (case c15 => k_is)
    (case k15 => k_is)
    (case a16 => k_is)
    (case l16 => k_is)
    (case c16 => k_is)
    (case k16 => k_is)
    (case q0 => k_is)
    (case q1 => k_is)
    (case q2 => k_is)
    (case z0 => k_is)
    (case z1 => k_is)
    (case z2 => k_is)
    (case z3 => k_is)
    (case z4 => k_is)
    (case z5 => k_is)
    (case z6 => k_is)
