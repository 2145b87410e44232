import PyProof.Rows.All
import Wide.All
import OpenK.AllK
import Wide.FinOn
import HandS.ForMost
import HandS.IsInst
import HandS.Wide
import HandS.Walk
import HandS.TupAny
import HandS.Style
import HandS.Defaults
import HandS.MakeKw
import KE.IntTextLaws
import HandS.OwnEq
import HandS.FStr
import PyProof.InstSpecial
import PyProof.FString2
import KE.KCallOwn
import HandS.Flow
import HandS.TupLe
import PySem.Challenge.RW_pearlrise_k25_whole_turned_and_renamed
set_option Elab.async false
set_option linter.all false
set_option maxRecDepth 100000
set_option maxHeartbeats 4000000
namespace KA
open PySem PySem.Spec PyProof.Rows L2
/-! ### heaps -/
theorem same_upd {H : Hp} {p : Addr} {o : HO} (h : H p = none) : Same H (upd H p o) := fun b x e => by
  rw [upd_ne (ne_of_none e h)]
  exact e
/-- all but what stands at d is as it was -/
def But (d : Addr) (H H' : Hp) : Prop := ∀ b o, b ≠ d → H b = some o → H' b = some o
theorem But.refl (d : Addr) (H : Hp) : But d H H := fun _ _ _ h => h
theorem But.trans {d : Addr} {H H1 H2 : Hp} (a : But d H H1) (b : But d H1 H2) : But d H H2 := fun c o n h => b c o n (a c o n h)
theorem But.of {d : Addr} {H H' : Hp} (s : Same H H') : But d H H' := fun b o _ h => s b o h
theorem But.at_ {d : Addr} {H : Hp} {o : HO} : But d H (upd H d o) := fun b x n h => by
  rw [upd_ne n]
  exact h
theorem But.new {d p : Addr} {H : Hp} {o : HO} (h : H p = none) : But d H (upd H p o) := But.of (same_upd h)
theorem But.same {d : Addr} {H0 H H' : Hp} (h0 : H0 d = none) (s : Same H0 H) (b : But d H H') : Same H0 H' := fun c o h => b c o (ne_of_none h h0) (s c o h)
theorem But.mut {d : Addr} {H0 H : Hp} {o : HO} {p : Addr} (b : But d H0 H) (h : H0 p = none) : But d H0 (upd H p o) := fun c x n e => by
  rw [upd_ne (ne_of_none e h)]
  exact b c x n e
theorem But.free {d p : Addr} {H H' : Hp} (b : But d H H') (n : p ≠ d) (h : H' p = none) : H p = none := by
  cases q : H p with
  | none => rfl
  | some o =>
    rw [b p o n q] at h
    cases h
theorem but_seq {K : PySem.W.Frag} {d a : Addr} {H H' : Hp} {xs : List V} (b : But d H H') (n : a ≠ d) (h : SqL K H a xs) : SqL K H' a xs := by
  rcases h with (h | ⟨o, h⟩) | h
  · exact .inl (.inl (b _ _ n h))
  · exact .inl (.inr ⟨o, b _ _ n h⟩)
  · exact .inr h
/-- the draws' list at d, its counter at most n -/
def Dr (P : Int → Prop) (d : Addr) (n : Nat) (H : Hp) : Prop := ∃ a b c : Int, H d = some (.lst [.int a, .int b, .int c]) ∧ P b ∧ 0 ≤ c ∧ c ≤ n
theorem Dr.same {P : Int → Prop} {d : Addr} {n : Nat} {H H' : Hp} (h : Dr P d n H) (s : Same H H') : Dr P d n H' := by
  obtain ⟨a, b, c, e, r⟩ := h
  exact ⟨a, b, c, s _ _ e, r⟩
theorem Dr.ne {P : Int → Prop} {d p : Addr} {n : Nat} {H : Hp} (h : Dr P d n H) (e : H p = none) : p ≠ d := by
  obtain ⟨a, b, c, z, _⟩ := h
  exact (ne_of_none z e).symm
theorem Dr.mono {P : Int → Prop} {d : Addr} {n m : Nat} {H : Hp} (h : Dr P d n H) (e : n ≤ m) : Dr P d m H := by
  obtain ⟨a, b, c, z, h1, h3, h4⟩ := h
  exact ⟨a, b, c, z, h1, h3, by omega⟩
theorem Dr.upd {P : Int → Prop} {d p : Addr} {n : Nat} {H : Hp} {o : HO} (h : Dr P d n H) (e : p ≠ d) : Dr P d n (L2.upd H p o) := by
  obtain ⟨a, b, c, z, r⟩ := h
  exact ⟨a, b, c, by rw [upd_ne e.symm]; exact z, r⟩
theorem yesT {σ : L2.St} {H : Hp} {A B : Hp → Prop} (h : A H) : tYes σ H (fun b H3 => if b = true then A H3 else B H3) := by
  show if true = true then A H else B H
  exact iteT h
/-! ### what is no own object -/
inductive Th (K : PySem.W.Frag) (H : Hp) : V → Prop
  | int (i : Int) : Th K H (.int i)
  | bl (b : Bool) : Th K H (.bl b)
  | str (z : Str) : Th K H (.str z)
  | non : Th K H .non
  | lst {a : Addr} (h : TyX K H (.ref a) (.type "list")) : Th K H (.ref a)
  | tup {a : Addr} (h : TyX K H (.ref a) (.type "tuple")) : Th K H (.ref a)
  | dct {a : Addr} (h : TyX K H (.ref a) (.type "dict")) : Th K H (.ref a)
def isI : V → Bool
  | .int _ => true
  | _ => false
def isB : V → Bool
  | .bl _ => true
  | _ => false
def isS : V → Bool
  | .str _ => true
  | _ => false
theorem isi_int {K : PySem.W.Frag} {H : Hp} {v : V} (h : Th K H v) : ∃ t, TyX K H v t ∧ PySem.W.kitOne K t (.type "int") = some (isI v || isB v) := by
  cases h with
  | int i => exact ⟨_, .base (.int i), kit_ty (r := true) (by decide +kernel)⟩
  | bl b => exact ⟨_, .base (.bl b), kit_ty (r := true) (by decide +kernel)⟩
  | str z => exact ⟨_, .base (.str z), kit_ty (r := false) (by decide +kernel)⟩
  | non => exact ⟨_, .base .non, kit_ty (r := false) (by decide +kernel)⟩
  | lst h => exact ⟨_, h, kit_ty (r := false) (by decide +kernel)⟩
  | tup h => exact ⟨_, h, kit_ty (r := false) (by decide +kernel)⟩
  | dct h => exact ⟨_, h, kit_ty (r := false) (by decide +kernel)⟩
theorem isi_bool {K : PySem.W.Frag} {H : Hp} {v : V} (h : Th K H v) : ∃ t, TyX K H v t ∧ PySem.W.kitOne K t (.type "bool") = some (isB v) := by
  cases h with
  | int i => exact ⟨_, .base (.int i), kit_ty (r := false) (by decide +kernel)⟩
  | bl b => exact ⟨_, .base (.bl b), kit_ty (r := true) (by decide +kernel)⟩
  | str z => exact ⟨_, .base (.str z), kit_ty (r := false) (by decide +kernel)⟩
  | non => exact ⟨_, .base .non, kit_ty (r := false) (by decide +kernel)⟩
  | lst h => exact ⟨_, h, kit_ty (r := false) (by decide +kernel)⟩
  | tup h => exact ⟨_, h, kit_ty (r := false) (by decide +kernel)⟩
  | dct h => exact ⟨_, h, kit_ty (r := false) (by decide +kernel)⟩
theorem isi_str {K : PySem.W.Frag} {H : Hp} {v : V} (h : Th K H v) : ∃ t, TyX K H v t ∧ PySem.W.kitOne K t (.type "str") = some (isS v) := by
  cases h with
  | int i => exact ⟨_, .base (.int i), kit_ty (r := false) (by decide +kernel)⟩
  | bl b => exact ⟨_, .base (.bl b), kit_ty (r := false) (by decide +kernel)⟩
  | str z => exact ⟨_, .base (.str z), kit_ty (r := true) (by decide +kernel)⟩
  | non => exact ⟨_, .base .non, kit_ty (r := false) (by decide +kernel)⟩
  | lst h => exact ⟨_, h, kit_ty (r := false) (by decide +kernel)⟩
  | tup h => exact ⟨_, h, kit_ty (r := false) (by decide +kernel)⟩
  | dct h => exact ⟨_, h, kit_ty (r := false) (by decide +kernel)⟩
/-! ### signs -/
def lower (c : Nat) : Bool := decide (97 ≤ c) && decide (c ≤ 122)
def figure (c : Nat) : Bool := decide (48 ≤ c) && decide (c ≤ 57)
theorem sgl_lt (a b : Nat) : (([a] : List Nat) < [b]) ↔ a < b := by
  rw [List.cons_lt_cons_iff]
  simp
theorem ge_a (c : Nat) : (!decide ((⟨#[c]⟩ : Str).cps.toList < ("a" : Str).cps.toList)) = decide (97 ≤ c) := by
  have e : ("a" : Str).cps.toList = [97] := by decide +kernel
  rw [e]
  show (!decide ([c] < [97])) = _
  rw [decide_eq_decide.mpr (sgl_lt c 97), ← decide_not, decide_eq_decide]
  omega
theorem le_z (c : Nat) : (!decide (("z" : Str).cps.toList < (⟨#[c]⟩ : Str).cps.toList)) = decide (c ≤ 122) := by
  have e : ("z" : Str).cps.toList = [122] := by decide +kernel
  rw [e]
  show (!decide ([122] < [c])) = _
  rw [decide_eq_decide.mpr (sgl_lt 122 c), ← decide_not, decide_eq_decide]
  omega
theorem in_az (c : Nat) : decide (c ∈ ("abcdefghijklmnopqrstuvwxyz" : Str).cps.toList) = lower c := by
  have e : ("abcdefghijklmnopqrstuvwxyz" : Str).cps.toList = (List.range 26).map (· + 97) := by decide +kernel
  unfold lower
  rw [e, ← Bool.decide_and, decide_eq_decide, List.mem_map]
  constructor
  · rintro ⟨a, ha, rfl⟩
    rw [List.mem_range] at ha
    omega
  · intro h
    exact ⟨c - 97, List.mem_range.mpr (by omega), by omega⟩
theorem in_09 (c : Nat) : decide (c ∈ ("0123456789" : Str).cps.toList) = figure c := by
  have e : ("0123456789" : Str).cps.toList = (List.range 10).map (· + 48) := by decide +kernel
  unfold figure
  rw [e, ← Bool.decide_and, decide_eq_decide, List.mem_map]
  constructor
  · rintro ⟨a, ha, rfl⟩
    rw [List.mem_range] at ha
    omega
  · intro h
    exact ⟨c - 48, List.mem_range.mpr (by omega), by omega⟩
/-! ### numbers by figures -/
open NumText TL
theorem fold_lt : ∀ (cs : List Nat) (a : Nat), AllDigits cs → a * 10 ^ cs.length ≤ cs.foldl (fun acc c => acc * 10 + (c - 48)) a ∧ cs.foldl (fun acc c => acc * 10 + (c - 48)) a < (a + 1) * 10 ^ cs.length
  | [], a, _ => by simp
  | c :: cs, a, h => by
    have hc := h.head
    have ih := fold_lt cs (a * 10 + (c - 48)) h.tail
    rw [List.foldl_cons, List.length_cons, Nat.pow_succ]
    have p : 0 < 10 ^ cs.length := Nat.pos_of_ne_zero (by simp)
    generalize 10 ^ cs.length = q at *
    refine ⟨Nat.le_trans ?_ ih.1, Nat.lt_of_lt_of_le ih.2 ?_⟩
    · have : a * (q * 10) = (a * 10) * q := by rw [Nat.mul_comm q 10, ← Nat.mul_assoc]
      rw [this]
      exact Nat.mul_le_mul_right q (by omega)
    · have : (a + 1) * (q * 10) = ((a + 1) * 10) * q := by rw [Nat.mul_comm q 10, ← Nat.mul_assoc]
      rw [this]
      exact Nat.mul_le_mul_right q (by omega)
theorem val_lt {cs : List Nat} (h : AllDigits cs) : digitsVal cs < 10 ^ cs.length := by
  have := (fold_lt cs 0 h).2
  rw [Nat.zero_add, Nat.one_mul] at this
  exact this
theorem val_ge {c : Nat} {cs : List Nat} (h : AllDigits (c :: cs)) (hc : c ≠ 48) : 10 ^ cs.length ≤ digitsVal (c :: cs) := by
  have h1 := h.head
  have := (fold_lt cs (0 * 10 + (c - 48)) h.tail).1
  refine Nat.le_trans ?_ this
  have : 1 * 10 ^ cs.length ≤ (0 * 10 + (c - 48)) * 10 ^ cs.length := Nat.mul_le_mul_right _ (by omega)
  omega
theorem val_zero {cs : List Nat} : digitsVal (48 :: cs) = digitsVal cs := rfl
/-- the figures of a number have as many signs as the word just where it has no nought ahead of others -/
theorem len_canon {c : Nat} {cs : List Nat} (h : AllDigits (c :: cs)) : (numL (digitsVal (c :: cs))).length = (c :: cs).length ↔ ¬ (c = 48 ∧ 1 < (c :: cs).length) := by
  constructor
  · rintro e ⟨rfl, hl⟩
    rw [val_zero] at e
    rw [List.length_cons] at e hl
    have := numL_len (n := digitsVal cs) (k := cs.length) (by omega) (val_lt h.tail)
    omega
  · intro hn
    by_cases hc : c = 48
    · subst hc
      have : cs = [] := by
        cases cs with
        | nil => rfl
        | cons d r =>
          exact absurd ⟨rfl, by rw [List.length_cons, List.length_cons]; omega⟩ hn
      subst this
      rw [val_zero]
      show (numL 0).length = 1
      rw [numL_lt (by decide)]
      rfl
    · have u := numL_len (n := digitsVal (c :: cs)) (k := (c :: cs).length) (by rw [List.length_cons]; omega) (val_lt h)
      have l := val_ge h hc
      have v := val_lt (numL_digits (digitsVal (c :: cs)))
      rw [numL_val] at v
      have w : 10 ^ cs.length < 10 ^ (numL (digitsVal (c :: cs))).length := Nat.lt_of_le_of_lt l v
      have := (Nat.pow_lt_pow_iff_right (by decide : 1 < 10)).mp w
      rw [List.length_cons] at *
      omega
/-- words of figures of one length and one worth are one -/
theorem fold_inj : ∀ (cs ds : List Nat) (a b : Nat), AllDigits cs → AllDigits ds → cs.length = ds.length → cs.foldl (fun acc c => acc * 10 + (c - 48)) a = ds.foldl (fun acc c => acc * 10 + (c - 48)) b → a = b ∧ cs = ds
  | [], [], a, b, _, _, _, e => ⟨e, rfl⟩
  | [], _ :: _, _, _, _, _, l, _ => by simp at l
  | _ :: _, [], _, _, _, _, l, _ => by simp at l
  | c :: cs, d :: ds, a, b, h1, h2, l, e => by
    have q := fold_inj cs ds (a * 10 + (c - 48)) (b * 10 + (d - 48)) h1.tail h2.tail (by simpa using l) e
    have hc := h1.head
    have hd := h2.head
    have e1 := q.1
    have : a = b ∧ c = d := by omega
    exact ⟨this.1, by rw [this.2, q.2]⟩
theorem canon_eq {c : Nat} {cs : List Nat} (h : AllDigits (c :: cs)) (hn : ¬ (c = 48 ∧ 1 < (c :: cs).length)) : numL (digitsVal (c :: cs)) = c :: cs :=
  (fold_inj _ _ 0 0 (numL_digits _) h ((len_canon h).mpr hn) (numL_val _)).2
section
variable {X : Cx}
/-- a text many times -/
def timesS (z : Str) (n : Nat) : Str := ⟨(List.replicate n z.cps).foldl (· ++ ·) #[]⟩
theorem times_fold (c : Nat) : ∀ (n : Nat) (a : Array Nat), ((List.replicate n #[c]).foldl (· ++ ·) a).toList = a.toList ++ List.replicate n c
  | 0, a => by simp
  | n + 1, a => by
    rw [List.replicate_succ, List.foldl_cons, times_fold c n (a ++ #[c]), Array.toList_append, List.append_assoc]
    rfl
theorem times_list {z : Str} {c n : Nat} (h : z.cps = #[c]) : (timesS z n).cps.toList = List.replicate n c := by
  unfold timesS
  show ((List.replicate n z.cps).foldl (· ++ ·) #[]).toList = _
  rw [h, times_fold c n #[]]
  rfl
theorem times_len {z : Str} {c n : Nat} (h : z.cps = #[c]) : (timesS z n).length = n := by
  show (timesS z n).cps.size = n
  rw [← Array.length_toList, times_list h, List.length_replicate]
theorem op_mulS : OpR X (binaryOp .Mult) (fun x y H Q => ∃ (z : Str) (k : Int), x = .str z ∧ y = .int k ∧ 2 ≤ k ∧ k ≤ 100000 ∧ (∃ c, z.cps = #[c]) ∧ Q (.str (timesS z k.toNat)) H) := by
  intro pins s σ H x y v u Q I rx ry h
  obtain ⟨z, k, rfl, rfl, h2, h3, ⟨c, hc⟩, q⟩ := h
  have hz : z.length = 1 := by
    show z.cps.size = 1
    rw [hc]
    rfl
  obtain ⟨t, rfl⟩ := rx
  obtain ⟨t', rfl⟩ := ry
  refine PySem.P.mul_str ?_ ?_ ?_ ?_
  · rw [decide_eq_false (by omega), decide_eq_false (by omega)]
    rfl
  · intro _ _
    rw [hz]
    have : (1 : Int) ≤ (2 ^ 63 - 1) / k := by
      have : (2 ^ 63 - 1 : Int) / k ≥ 1 := (Int.le_ediv_iff_mul_le (by omega)).mpr (by omega)
      exact this
    omega
  · intro _ _
    rw [hz]
    exact decide_eq_false (by
      have : (100000 : Nat) ≤ sizeLine := by decide
      show ¬ _ > _
      omega)
  · have hk1 : (k == 1) = false := by
      rw [beq_eq_false_iff_ne]
      omega
    rw [if_neg (by omega), if_neg (by rw [hk1, hz]; decide)]
    refine ⟨?_, ⟨.str (timesS z k.toNat), H, I.tok _, ⟨_, rfl⟩, q⟩⟩
    have e := times_len (n := k.toNat) hc
    have : (100000 : Nat) ≤ sizeLine := by decide
    show (timesS z k.toNat).length ≤ sizeLine
    omega
end

/-! ### comprehensions over a text -/
/-- [truth of each sign] -/
theorem lc_all {z : Str} {H : Hp} {D : Addr} (hD : H D = none) (hz : z.length ≤ 100000) (f : Nat → Bool) {g : TG} {tt : TT} {te : TE} {vs : List Nat} {σ : L2.St} {Qd : Hp → Prop}
    (turn : ∀ (c : Nat) (H2 : Hp) (R : V → Hp → Prop) (C : Hp → Prop), Same H H2 → R (.bl (f c)) H2 → g (.str ⟨#[c]⟩) (wipe σ vs) H2 fun σ2 H2 => wipe σ2 vs = wipe σ vs ∧ tt σ2 H2 fun b H3 => if b = true then te σ2 H3 R else C H3)
    (fin : ∀ H', Same H H' → H' D = some (.lst ((z.cps.toList.map f).map V.bl)) → Qd H') :
    ∃ W : Nat → Nat → Hp → Prop, (∃ m, W 0 m (upd H D (.lst []))) ∧ ∀ i m H, W i m H →
      ((Its z).stop i H ∧ Qd H) ∨ ((Its z).go i H ∧ ∃ Nx : Hp → Prop, (∀ H', Nx H' → ∃ m', m' < m ∧ W (i + 1) m' H') ∧ ∀ x H', (Its z).yld i H x H' → g x (wipe σ vs) H' fun σ2 H2 => wipe σ2 vs = wipe σ vs ∧ tt σ2 H2 fun b H3 =>
        if b = true then te σ2 H3 fun y H4 => ∃ acc, H4 D = some (.lst acc) ∧ acc.length < sizeLine ∧ Nx (upd H4 D (.lst (acc ++ [y]))) else Nx H3) := by
  have hzl : z.length ≤ sizeLine := Nat.le_trans hz (by decide)
  refine lc_it walk_str (fun i H' => Same H H' ∧ H' D = some (.lst (((z.cps.toList.take i).map f).map V.bl))) ⟨same_upd hD, upd_same⟩ (fun _ _ _ _ => trivial) ?_ ?_
  · rintro i x H1 H2 hi ⟨s1, e1⟩ ⟨rfl, c, hc, rfl⟩
    refine turn c _ _ _ s1 ?_
    have hc' : z.cps.toList[i]? = some c := by rw [Array.getElem?_toList]; exact hc
    refine ⟨_, e1, ?_, fun b o h => ?_, ?_⟩
    · rw [List.length_map, List.length_map, List.length_take]
      exact Nat.lt_of_le_of_lt (Nat.min_le_left _ _) (Nat.lt_of_lt_of_le hi hzl)
    · rw [upd_ne (ne_of_none h hD)]
      exact s1 _ _ h
    · rw [upd_same, List.take_add_one, hc', List.map_append, List.map_append]
      rfl
  · rintro H' ⟨s1, e1⟩
    have ef : z.cps.toList.take z.cps.size = z.cps.toList := List.take_of_length_le (by rw [Array.length_toList]; exact Nat.le_refl _)
    rw [ef] at e1
    exact fin H' s1 e1
def sg (c : Nat) : V := .str ⟨#[c]⟩
/-- [sign for sign in text if ..] -/
theorem lc_filter {z : Str} {H : Hp} {D : Addr} (hD : H D = none) (hz : z.length ≤ 100000) (f : Nat → Bool) {g : TG} {tt : TT} {te : TE} {vs : List Nat} {σ : L2.St} {Qd : Hp → Prop}
    (turn : ∀ (c : Nat) (H2 : Hp) (R : V → Hp → Prop) (C : Hp → Prop), Same H H2 → (f c = true → R (sg c) H2) → (f c = false → C H2) → g (.str ⟨#[c]⟩) (wipe σ vs) H2 fun σ2 H2 => wipe σ2 vs = wipe σ vs ∧ tt σ2 H2 fun b H3 => if b = true then te σ2 H3 R else C H3)
    (fin : ∀ H', Same H H' → H' D = some (.lst ((z.cps.toList.filter f).map sg)) → Qd H') :
    ∃ W : Nat → Nat → Hp → Prop, (∃ m, W 0 m (upd H D (.lst []))) ∧ ∀ i m H, W i m H →
      ((Its z).stop i H ∧ Qd H) ∨ ((Its z).go i H ∧ ∃ Nx : Hp → Prop, (∀ H', Nx H' → ∃ m', m' < m ∧ W (i + 1) m' H') ∧ ∀ x H', (Its z).yld i H x H' → g x (wipe σ vs) H' fun σ2 H2 => wipe σ2 vs = wipe σ vs ∧ tt σ2 H2 fun b H3 =>
        if b = true then te σ2 H3 fun y H4 => ∃ acc, H4 D = some (.lst acc) ∧ acc.length < sizeLine ∧ Nx (upd H4 D (.lst (acc ++ [y]))) else Nx H3) := by
  have hzl : z.length ≤ sizeLine := Nat.le_trans hz (by decide)
  refine lc_it walk_str (fun i H' => Same H H' ∧ H' D = some (.lst (((z.cps.toList.take i).filter f).map sg))) ⟨same_upd hD, upd_same⟩ (fun _ _ _ _ => trivial) ?_ ?_
  · rintro i x H1 H2 hi ⟨s1, e1⟩ ⟨rfl, c, hc, rfl⟩
    have hc' : z.cps.toList[i]? = some c := by rw [Array.getElem?_toList]; exact hc
    refine turn c _ _ _ s1 (fun hf => ?_) (fun hf => ?_)
    · refine ⟨_, e1, ?_, fun b o h => ?_, ?_⟩
      · rw [List.length_map]
        refine Nat.lt_of_le_of_lt (List.length_filter_le _ _) ?_
        rw [List.length_take]
        exact Nat.lt_of_le_of_lt (Nat.min_le_left _ _) (Nat.lt_of_lt_of_le hi hzl)
      · rw [upd_ne (ne_of_none h hD)]
        exact s1 _ _ h
      · rw [upd_same, List.take_add_one, hc', List.filter_append, List.map_append]
        show _ = some (HO.lst (_ ++ List.map sg (List.filter f [c])))
        rw [List.filter_cons_of_pos hf]
        rfl
    · refine ⟨s1, ?_⟩
      rw [e1, List.take_add_one, hc', List.filter_append, List.map_append]
      show _ = some (HO.lst (_ ++ List.map sg (List.filter f [c])))
      rw [List.filter_cons_of_neg (by rw [hf]; exact Bool.false_ne_true)]
      show _ = some (HO.lst (_ ++ []))
      rw [List.append_nil]
  · rintro H' ⟨s1, e1⟩
    have ef : z.cps.toList.take z.cps.size = z.cps.toList := List.take_of_length_le (by rw [Array.length_toList]; exact Nat.le_refl _)
    rw [ef] at e1
    exact fin H' s1 e1
/-- a list of signs beside [] -/
theorem dp_signs {K : PySem.W.Frag} {H : Hp} : ∀ cs : List Nat, DpAll K H (cs.map sg) (cs.map fun c => PyData.str ⟨#[c]⟩)
  | [] => .nil
  | c :: cs => .cons (.str _) (dp_signs cs)
theorem eqv_nil (ds : List PyData) : PyData.eqv (.list ds) (.list []) = ds.isEmpty := by
  cases ds with
  | nil => rfl
  | cons d r => rfl
theorem lay_signs : ∀ cs : List Nat, (∀ c ∈ cs, c < 128) → PyData.canLayAll0 (cs.map fun c => PyData.str ⟨#[c]⟩) = true
  | [], _ => rfl
  | c :: r, h => by
    have h1 := h c (List.mem_cons_self ..)
    have h2 := lay_signs r fun d hd => h d (List.mem_cons_of_mem _ hd)
    show (PyData.canLay0 (.str ⟨#[c]⟩) && PyData.canLayAll0 (r.map fun c => PyData.str ⟨#[c]⟩)) = true
    rw [h2, Bool.and_true]
    show (#[c].all (· < 0x110000)) = true
    simp
    omega
theorem dep_signs : ∀ cs : List Nat, PyData.depthAll (cs.map fun c => PyData.str ⟨#[c]⟩) = 0
  | [] => rfl
  | c :: r => by
    show max 0 (PyData.depthAll (r.map fun c => PyData.str ⟨#[c]⟩)) = 0
    rw [dep_signs r]
    rfl
theorem shp_signs {cs : List Nat} (h : ∀ c ∈ cs, c < 128) : SeqAt.shaped (.list (cs.map fun c => PyData.str ⟨#[c]⟩)) = true := by
  unfold SeqAt.shaped
  have e1 : PyData.canLay0 (.list (cs.map fun c => PyData.str ⟨#[c]⟩)) = true := lay_signs cs h
  have e2 : PyData.depth (.list (cs.map fun c => PyData.str ⟨#[c]⟩)) = 1 := by
    show PyData.depthAll _ + 1 = 1
    rw [dep_signs]
  rw [e1, e2]
  rfl
/-- signs below 128 alone -/
def Asc (z : Str) : Prop := ∀ c ∈ z.cps.toList, c < 128
theorem asc_cut {z : Str} (h : Asc z) (lo hi : Option Int) : Asc (cutS z lo hi) := fun c hc => h c (List.mem_of_mem_drop (List.mem_of_mem_take hc))
theorem asc_app {x y : Str} (hx : Asc x) (hy : Asc y) : Asc (x ++ y) := fun c hc => by
  have hc : c ∈ TL.tl (x ++ y) := hc
  rw [TL.tl_append] at hc
  rcases List.mem_append.mp hc with h | h
  · exact hx c h
  · exact hy c h
theorem asc_upper {z : Str} (h : Asc z) : Asc (Txt.upper z) ∧ (Txt.upper z).length = z.length := by
  rw [PyProof.Rows.upper_ascii h]
  refine ⟨fun c hc => ?_, ?_⟩
  · have hc : c ∈ (z.cps.map PyProof.Rows.up1).toList := hc
    rw [Array.toList_map] at hc
    obtain ⟨a, ha, rfl⟩ := List.mem_map.mp hc
    have := h a ha
    unfold PyProof.Rows.up1
    split <;> omega
  · show (z.cps.map PyProof.Rows.up1).size = z.cps.size
    rw [Array.size_map]
theorem asc_of {z : Str} {cs : List Nat} (h : z.cps.toList = cs) (hl : ∀ c ∈ cs, c < 128) : Asc z := fun c hc => hl c (by rw [← h]; exact hc)
theorem lower_lt {c : Nat} (h : lower c = true) : c < 128 := by
  unfold lower at h
  simp only [Bool.and_eq_true, decide_eq_true_eq] at h
  omega
theorem figure_lt {c : Nat} (h : figure c = true) : c < 128 := by
  unfold figure at h
  simp only [Bool.and_eq_true, decide_eq_true_eq] at h
  omega
theorem filter_none {l : List Nat} {f : Nat → Bool} : (l.filter (fun c => !f c)).isEmpty = l.all f := by
  induction l with
  | nil => rfl
  | cons c r ih =>
    rw [List.filter_cons, List.all_cons]
    cases h : f c with
    | true => simpa using ih
    | false => rfl
theorem str_sign {c d : Nat} {z : Str} (h : z.cps = #[d]) : decide (V.str ⟨#[c]⟩ = V.str z) = decide (c = d) := by
  obtain ⟨z⟩ := z
  rw [decide_eq_decide]
  constructor
  · intro e
    injection e with e
    injection e with e
    rw [show z = #[d] from h] at e
    injection e with e
    injection e
  · rintro rfl
    rw [show z = #[c] from h]
/-! ### a text joined of signs -/
open TL
theorem join_signs : ∀ cs : List Nat, joinL [] ((cs.map fun c => (⟨#[c]⟩ : Str)).map tl) = cs
  | [] => rfl
  | [c] => rfl
  | c :: d :: r => by
    show [c] ++ ([] ++ joinL [] (((d :: r).map fun c => (⟨#[c]⟩ : Str)).map tl)) = c :: d :: r
    rw [join_signs (d :: r)]
    rfl
theorem join_text {y : Str} (hy : tl y = []) (cs : List Nat) : (Txt.join y (cs.map fun c => (⟨#[c]⟩ : Str))).cps.toList = cs := by
  show tl (Txt.join y _) = cs
  rw [join_eq, tl_join, hy, join_signs]
theorem size_signs : ∀ cs : List Nat, ((cs.map fun c => (⟨#[c]⟩ : Str)).map (·.length)).sum = cs.length
  | [] => rfl
  | c :: r => by
    rw [List.map_cons, List.map_cons, List.sum_cons, size_signs r, List.length_cons]
    show 1 + r.length = _
    omega

/-- [.. for _ in range(k)], each a drawn sign -/
theorem lc_draw {P : Int → Prop} {d D : Addr} {n k : Nat} {H1 : Hp} (hD : H1 D = none) (dr : Dr P d n H1) (hk : k ≤ 1000) (p : Nat → Bool) {g : TG} {tt : TT} {te : TE} {vs : List Nat} {σ : L2.St} {Qd : Hp → Prop}
    (turn : ∀ (i : Nat) (H2 : Hp) (R : V → Hp → Prop) (C : Hp → Prop), i < k → Dr P d (n + i) H2 → (∀ H3 c, p c = true → But d H2 H3 → Dr P d (n + i + 1) H3 → R (sg c) H3) → g (.int (0 + i)) (wipe σ vs) H2 fun σ2 H2 => wipe σ2 vs = wipe σ vs ∧ tt σ2 H2 fun b H3 => if b = true then te σ2 H3 R else C H3)
    (fin : ∀ H' (cs : List Nat), cs.length = k → (∀ c ∈ cs, p c = true) → But d H1 H' → Dr P d (n + k) H' → H' D = some (.lst (cs.map sg)) → Qd H') :
    ∃ W : Nat → Nat → Hp → Prop, (∃ m, W 0 m (upd H1 D (.lst []))) ∧ ∀ i m H, W i m H →
      ((Itr 0 k).stop i H ∧ Qd H) ∨ ((Itr 0 k).go i H ∧ ∃ Nx : Hp → Prop, (∀ H', Nx H' → ∃ m', m' < m ∧ W (i + 1) m' H') ∧ ∀ x H', (Itr 0 k).yld i H x H' → g x (wipe σ vs) H' fun σ2 H2 => wipe σ2 vs = wipe σ vs ∧ tt σ2 H2 fun b H3 =>
        if b = true then te σ2 H3 fun y H4 => ∃ acc, H4 D = some (.lst acc) ∧ acc.length < sizeLine ∧ Nx (upd H4 D (.lst (acc ++ [y]))) else Nx H3) := by
  have nD : D ≠ d := dr.ne hD
  refine lc_range (lo := 0) (n := k) (fun i H' => ∃ cs : List Nat, cs.length = i ∧ (∀ c ∈ cs, p c = true) ∧ But d H1 H' ∧ Dr P d (n + i) H' ∧ H' D = some (.lst (cs.map sg))) ⟨[], rfl, (fun _ h => nomatch h), But.new hD, dr.upd nD, upd_same⟩ ?_ ?_
  · rintro i H2 hi ⟨cs, hl, hp, b2, dr2, e2⟩
    refine turn i H2 _ _ hi dr2 fun H3 c hc b3 dr3 => ?_
    refine ⟨_, b3 _ _ nD e2, ?_, cs ++ [c], ?_, ?_, ?_, ?_, ?_⟩
    · rw [List.length_map, hl]
      exact Nat.lt_of_lt_of_le (show i < 1000 by omega) (by decide)
    · rw [List.length_append, hl]
      rfl
    · intro x hx
      rcases List.mem_append.mp hx with h | h
      · exact hp x h
      · rw [List.mem_singleton.mp h]
        exact hc
    · exact (b2.trans b3).mut hD
    · exact (dr3.upd nD).mono (by omega)
    · rw [upd_same, List.map_append]
      rfl
  · rintro H' ⟨cs, hl, hp, b, dr', e⟩
    exact fin H' cs hl hp b dr' e
theorem map_sg (cs : List Nat) : (cs.map fun c => (⟨#[c]⟩ : Str)).map V.str = cs.map sg := by
  rw [List.map_map]
  rfl
theorem join_len {y : Str} (hy : TL.tl y = []) (cs : List Nat) : (Txt.join y (cs.map fun c => (⟨#[c]⟩ : Str))).length = cs.length := by
  have := join_text hy cs
  show (Txt.join y (cs.map fun c => (⟨#[c]⟩ : Str))).cps.size = _
  rw [← Array.length_toList, this]
theorem az_at {r : Int} (h0 : 0 ≤ r) (h1 : r < 26) : ∃ c, atI ("abcdefghijklmnopqrstuvwxyz" : Str).cps.toList r = some c ∧ lower c = true := by
  obtain ⟨j, rfl⟩ : ∃ j : Nat, r = (j : Int) := ⟨r.toNat, by omega⟩
  have e : ("abcdefghijklmnopqrstuvwxyz" : Str).cps.toList = (List.range 26).map (· + 97) := by decide +kernel
  refine ⟨j + 97, atI_nat ?_, ?_⟩
  · rw [e, List.getElem?_map, List.getElem?_range (by omega)]
    rfl
  · unfold lower
    rw [decide_eq_true (by omega), decide_eq_true (by omega)]
    rfl
theorem fig_at {r : Int} (h0 : 0 ≤ r) (h1 : r < 10) : ∃ c, atI ("0123456789" : Str).cps.toList r = some c ∧ figure c = true := by
  obtain ⟨j, rfl⟩ : ∃ j : Nat, r = (j : Int) := ⟨r.toNat, by omega⟩
  have e : ("0123456789" : Str).cps.toList = (List.range 10).map (· + 48) := by decide +kernel
  refine ⟨j + 48, atI_nat ?_, ?_⟩
  · rw [e, List.getElem?_map, List.getElem?_range (by omega)]
    rfl
  · unfold figure
    rw [decide_eq_true (by omega), decide_eq_true (by omega)]
    rfl
theorem log_small {m : Int} (h0 : 0 < m) (h : m < 2 ^ 200) : m.natAbs.log2 < 9000 := by
  refine Nat.lt_of_lt_of_le (PySem.Flt.log2_lt_of (k := 200) (by decide) ?_) (by decide)
  have e : ((2 : Int) ^ 200) = ((2 ^ 200 : Nat) : Int) := by decide
  rw [e] at h
  omega
theorem log_tiny {m : Int} (h0 : 0 < m) (h : m < 1000000000000000000000000000000) : m.natAbs.log2 < 9000 := log_small h0 (Int.lt_trans h (by decide))
theorem at_str {z : Str} {r : Int} (h0 : 0 ≤ r) (h1 : r < (z.length : Int)) : ∃ c, atI z.cps.toList r = some c ∧ c ∈ z.cps.toList := by
  obtain ⟨j, rfl⟩ : ∃ j : Nat, r = (j : Int) := ⟨r.toNat, by omega⟩
  have hj : j < z.cps.toList.length := by
    have : z.cps.toList.length = z.length := Array.length_toList
    omega
  exact ⟨_, atI_nat (List.getElem?_eq_getElem hj), List.getElem_mem hj⟩
theorem sz (n : Nat) (h : n ≤ 100000) : n ≤ sizeLine := Nat.le_trans h (by decide)
theorem tyx_same {K : PySem.W.Frag} {H H' : Hp} (s : Same H H') {v : V} {t : Value} (h : TyX K H v t) : TyX K H' v t := by
  cases h with
  | base h =>
    cases h with
    | non => exact .base .non
    | bl b => exact .base (.bl b)
    | int i => exact .base (.int i)
    | str z => exact .base (.str z)
    | flt x => exact .base (.flt x)
    | lst e => exact .base (.lst (s _ _ e))
    | frz e => exact .base (.frz (s _ _ e))
    | tup e => exact .base (.tup (s _ _ e))
    | dK e => exact .base (.dK (s _ _ e))
    | dT e => exact .base (.dT (s _ _ e))
    | ins e cl ha hn htk hm => exact .base (.ins (s _ _ e) cl ha hn htk hm)
  | byt b => exact .byt b
  | set e => exact .set (s _ _ e)
  | kList e c => exact .kList e c
  | kTuple e c => exact .kTuple e c
  | kDict e c => exact .kDict e c
  | fTuple e => exact .fTuple (s _ _ e)
  | fDict e => exact .fDict (s _ _ e)
theorem Th.same {K : PySem.W.Frag} {H H' : Hp} (s : Same H H') {v : V} (h : Th K H v) : Th K H' v := by
  cases h with
  | int i => exact .int i
  | bl b => exact .bl b
  | str z => exact .str z
  | non => exact .non
  | lst h => exact .lst (tyx_same s h)
  | tup h => exact .tup (tyx_same s h)
  | dct h => exact .dct (tyx_same s h)
theorem cells_int {ns : List Int} {n : Int} {lo hi : Option Int} {i : Nat} {x : V} (h : ([V.int n] ++ cutV (ns.map V.int) lo hi)[i]? = some x) : ∃ k, x = .int k := by
  have hm := List.mem_of_getElem? h
  rcases List.mem_append.mp hm with h | h
  · exact ⟨n, List.mem_singleton.mp h⟩
  · have := List.mem_of_mem_drop (List.mem_of_mem_take h)
    obtain ⟨k, _, rfl⟩ := List.mem_map.mp this
    exact ⟨k, rfl⟩
section
variable {P : Program} {w : World} {K : PySem.W.Frag} {mg : Str → Option Value} {base : Heap} {x qual : Str} {params : Arguments} {body : List Stmt} {scope : Scope} {dvs : List V} {kws : List (Str × V)} {f : Addr} {fd : FuncData}
theorem okD {N ps : List Str} {k : Nat} {sp : Sp} (F : FunD K x qual params body scope dvs kws f fd) (S : FnScope N ps scope) (len : ∀ vs H Q E, sp vs H Q E → vs.length = ps.length)
    (hbody : ∀ (cdv : Value) (A : Around) (outer : List Env) (s : Shared) (H : Hp) (vs : List V) (Q : VK) (E : XK), Room k (A.deeper (envOfC qual scope s.heap.objs.size f cdv)) → sp vs H Q E →
      ∃ t, PSs (cxOf CX0 P w K mg base N qual scope f cdv A outer s H E).nox body t ∧ t { nx := fun _ H' => Q .non H', rt := Q } (start N vs) H) : FnOk P w K mg base CX0 (k + 1) f fd ps sp :=
  F.ok S len fun cdv A outer s H vs Q E hr h => by
    obtain ⟨t, h, q⟩ := hbody cdv A outer s H vs Q E hr h
    exact ⟨t, h.nox, q⟩
end
end KA
namespace KA
open PySem PySem.Spec PyProof.Rows L2
/-- what is no list is as it was -/
def NL (H H' : Hp) : Prop := ∀ b o, (∀ xs, o ≠ .lst xs) → H b = some o → H' b = some o
theorem NL.of {H H' : Hp} (s : Same H H') : NL H H' := fun b o _ h => s b o h
theorem NL.at_ {H : Hp} {D : Addr} {xs : List V} {o : HO} (h : H D = some (.lst xs)) : NL H (upd H D o) := fun b u n e => by
  have : b ≠ D := fun z => by
    rw [z, h] at e
    exact n xs (Option.some.inj e).symm
  rw [upd_ne this]
  exact e
theorem NL.trans {H H1 H2 : Hp} (a : NL H H1) (b : NL H1 H2) : NL H H2 := fun c o n h => b c o n (a c o n h)
/-- a comprehension over a list: what it makes is told by G -/
theorem lc_gen {K : PySem.W.Frag} {a : Addr} {xs : List V} {H : Hp} {D : Addr} (hD : H D = none) (hS : SqL K H a xs) (hl : xs.length ≤ 10000) (G : Nat → V → Hp → Prop) (hG : ∀ j v H1 H2, NL H1 H2 → G j v H1 → G j v H2)
    {g : TG} {tt : TT} {te : TE} {vs : List Nat} {σ : L2.St} {Qd : Hp → Prop}
    (turn : ∀ (i : Nat) (x : V) (H2 : Hp) (R : V → Hp → Prop) (C : Hp → Prop), xs[i]? = some x → Same H H2 → (∀ v H3, Same H2 H3 → G i v H3 → R v H3) → g x (wipe σ vs) H2 fun σ2 H2 => wipe σ2 vs = wipe σ vs ∧ tt σ2 H2 fun b H3 => if b = true then te σ2 H3 R else C H3)
    (fin : ∀ H' acc, Same H H' → H' D = some (.lst acc) → acc.length = xs.length → (∀ j v, acc[j]? = some v → G j v H') → Qd H') :
    ∃ W : Nat → Nat → Hp → Prop, (∃ m, W 0 m (upd H D (.lst []))) ∧ ∀ i m H, W i m H →
      ((Itl K a).stop i H ∧ Qd H) ∨ ((Itl K a).go i H ∧ ∃ Nx : Hp → Prop, (∀ H', Nx H' → ∃ m', m' < m ∧ W (i + 1) m' H') ∧ ∀ x H', (Itl K a).yld i H x H' → g x (wipe σ vs) H' fun σ2 H2 => wipe σ2 vs = wipe σ vs ∧ tt σ2 H2 fun b H3 =>
        if b = true then te σ2 H3 fun y H4 => ∃ acc, H4 D = some (.lst acc) ∧ acc.length < sizeLine ∧ Nx (upd H4 D (.lst (acc ++ [y]))) else Nx H3) := by
  refine lc_list (K := K) (a := a) (xs := xs) (fun i H' => Same H H' ∧ ∃ acc, H' D = some (.lst acc) ∧ acc.length = i ∧ ∀ j v, acc[j]? = some v → G j v H') ⟨same_upd hD, [], upd_same, rfl, fun j v h => by simp at h⟩ (fun i H' _ h => h.1.seq hS) ?_ ?_
  · rintro i x H2 hi ⟨s2, acc, e2, l2, g2⟩
    have hil : i < xs.length := (List.getElem?_eq_some_iff.mp hi).1
    refine turn i x H2 _ _ hi s2 fun v H3 s3 hv => ?_
    have e3 := s3 _ _ e2
    refine ⟨acc, e3, ?_, fun b o h => ?_, acc ++ [v], upd_same, ?_, fun j w hj => ?_⟩
    · rw [l2]
      exact Nat.lt_of_lt_of_le (show i < 10000 by omega) (by decide)
    · rw [upd_ne (ne_of_none h hD)]
      exact s3 _ _ (s2 _ _ h)
    · rw [List.length_append, l2]
      rfl
    · refine hG j w H3 _ (NL.at_ e3) ?_
      by_cases h : j < acc.length
      · rw [List.getElem?_append_left h] at hj
        exact hG j w H2 H3 (NL.of s3) (g2 j w hj)
      · rw [List.getElem?_append_right (by omega)] at hj
        have : j = i := by
          have := (List.getElem?_eq_some_iff.mp hj).1
          rw [List.length_singleton] at this
          omega
        subst this
        rw [l2, Nat.sub_self] at hj
        have : v = w := Option.some.inj hj
        subst this
        exact hv
  · rintro H' ⟨s, acc, e, l, g⟩
    exact fin H' acc s e l g
/-- .. whose values are f of the place -/
theorem lc_vals {K : PySem.W.Frag} {a : Addr} {xs : List V} {H : Hp} {D : Addr} (hD : H D = none) (hS : SqL K H a xs) (hl : xs.length ≤ 10000) (f : Nat → V)
    {g : TG} {tt : TT} {te : TE} {vs : List Nat} {σ : L2.St} {Qd : Hp → Prop}
    (turn : ∀ (i : Nat) (x : V) (H2 : Hp) (R : V → Hp → Prop) (C : Hp → Prop), xs[i]? = some x → Same H H2 → R (f i) H2 → g x (wipe σ vs) H2 fun σ2 H2 => wipe σ2 vs = wipe σ vs ∧ tt σ2 H2 fun b H3 => if b = true then te σ2 H3 R else C H3)
    (fin : ∀ H', Same H H' → H' D = some (.lst ((List.range xs.length).map f)) → Qd H') :
    ∃ W : Nat → Nat → Hp → Prop, (∃ m, W 0 m (upd H D (.lst []))) ∧ ∀ i m H, W i m H →
      ((Itl K a).stop i H ∧ Qd H) ∨ ((Itl K a).go i H ∧ ∃ Nx : Hp → Prop, (∀ H', Nx H' → ∃ m', m' < m ∧ W (i + 1) m' H') ∧ ∀ x H', (Itl K a).yld i H x H' → g x (wipe σ vs) H' fun σ2 H2 => wipe σ2 vs = wipe σ vs ∧ tt σ2 H2 fun b H3 =>
        if b = true then te σ2 H3 fun y H4 => ∃ acc, H4 D = some (.lst acc) ∧ acc.length < sizeLine ∧ Nx (upd H4 D (.lst (acc ++ [y]))) else Nx H3) := by
  refine lc_gen hD hS hl (fun j v _ => v = f j) (fun _ _ _ _ _ h => h) (fun i x H2 R C hi s hR => turn i x H2 R C hi s (hR _ _ (Same.refl _) rfl)) fun H' acc s e l g => fin H' s ?_
  rw [e]
  congr 2
  refine List.ext_getElem? fun j => ?_
  by_cases h : j < xs.length
  · rw [List.getElem?_map, List.getElem?_range h]
    have : j < acc.length := by omega
    rw [List.getElem?_eq_getElem this]
    exact congrArg some (g j _ (List.getElem?_eq_getElem this))
  · rw [List.getElem?_eq_none (by omega), List.getElem?_eq_none (by rw [List.length_map, List.length_range]; omega)]
/-- a comprehension over a list that leaves some out; the heap stays -/
theorem lc_some {K : PySem.W.Frag} {a : Addr} {xs : List V} {H : Hp} {D : Addr} (hD : H D = none) (hS : SqL K H a xs) (hl : xs.length ≤ 10000) (p : V → Bool) (f : V → V)
    {g : TG} {tt : TT} {te : TE} {vs : List Nat} {σ : L2.St} {Qd : Hp → Prop}
    (turn : ∀ (i : Nat) (x : V) (H2 : Hp) (R : V → Hp → Prop) (C : Hp → Prop), xs[i]? = some x → Same H H2 → (p x = true → R (f x) H2) → (p x = false → C H2) → g x (wipe σ vs) H2 fun σ2 H2 => wipe σ2 vs = wipe σ vs ∧ tt σ2 H2 fun b H3 => if b = true then te σ2 H3 R else C H3)
    (fin : ∀ H', Same H H' → H' D = some (.lst ((xs.filter p).map f)) → Qd H') :
    ∃ W : Nat → Nat → Hp → Prop, (∃ m, W 0 m (upd H D (.lst []))) ∧ ∀ i m H, W i m H →
      ((Itl K a).stop i H ∧ Qd H) ∨ ((Itl K a).go i H ∧ ∃ Nx : Hp → Prop, (∀ H', Nx H' → ∃ m', m' < m ∧ W (i + 1) m' H') ∧ ∀ x H', (Itl K a).yld i H x H' → g x (wipe σ vs) H' fun σ2 H2 => wipe σ2 vs = wipe σ vs ∧ tt σ2 H2 fun b H3 =>
        if b = true then te σ2 H3 fun y H4 => ∃ acc, H4 D = some (.lst acc) ∧ acc.length < sizeLine ∧ Nx (upd H4 D (.lst (acc ++ [y]))) else Nx H3) := by
  refine lc_list (K := K) (a := a) (xs := xs) (fun i H' => Same H H' ∧ H' D = some (.lst (((xs.take i).filter p).map f))) ⟨same_upd hD, upd_same⟩ (fun i H' _ h => h.1.seq hS) ?_ ?_
  · rintro i x H2 hi ⟨s2, e2⟩
    have hil : i < xs.length := (List.getElem?_eq_some_iff.mp hi).1
    refine turn i x H2 _ _ hi s2 (fun hp => ?_) (fun hp => ?_)
    · refine ⟨_, e2, ?_, fun b o h => ?_, ?_⟩
      · rw [List.length_map]
        refine Nat.lt_of_le_of_lt (List.length_filter_le _ _) ?_
        rw [List.length_take]
        exact Nat.lt_of_le_of_lt (Nat.min_le_left _ _) (Nat.lt_of_lt_of_le (show i < 10000 by omega) (by decide))
      · rw [upd_ne (ne_of_none h hD)]
        exact s2 _ _ h
      · rw [upd_same, List.take_add_one, hi, List.filter_append, List.map_append]
        show _ = some (HO.lst (_ ++ List.map f (List.filter p [x])))
        rw [List.filter_cons_of_pos hp]
        rfl
    · refine ⟨s2, ?_⟩
      rw [e2, List.take_add_one, hi, List.filter_append, List.map_append]
      show _ = some (HO.lst (_ ++ List.map f (List.filter p [x])))
      rw [List.filter_cons_of_neg (by rw [hp]; exact Bool.false_ne_true)]
      show _ = some (HO.lst (_ ++ []))
      rw [List.append_nil]
  · rintro H' ⟨s, e⟩
    rw [List.take_of_length_le (Nat.le_refl _)] at e
    exact fin H' s e
theorem cut_to (xs : List V) (i : Nat) : cutV xs none (some (i : Int)) = xs.take i := by
  unfold cutV
  rw [HT.sIx_none, show HT.sIx xs.length xs.length (some (i : Int)) = min i xs.length from HT.sIx_nat xs.length xs.length i, Nat.sub_zero, List.drop_zero]
  by_cases h : i ≤ xs.length
  · rw [Nat.min_eq_left h]
  · rw [Nat.min_eq_right (by omega), List.take_of_length_le (Nat.le_refl _), List.take_of_length_le (by omega)]
theorem cut_from (xs : List V) (i : Nat) : cutV xs (some (i : Int)) none = xs.drop i := by
  unfold cutV
  rw [HT.sIx_none, show HT.sIx xs.length 0 (some (i : Int)) = min i xs.length from HT.sIx_nat xs.length 0 i]
  by_cases h : i ≤ xs.length
  · rw [Nat.min_eq_left h, List.take_of_length_le (by rw [List.length_drop]; omega)]
  · rw [Nat.min_eq_right (by omega), List.drop_of_length_le (Nat.le_refl _), List.drop_of_length_le (by omega)]
    exact List.take_nil
section
variable {X : Cx} {K' : PySem.W.Frag}
/-! the rules with the written part by its own name (for blocks) -/
theorem pe_fldK (hK : X.K = K') {e : Expr} {f : Str} {pos : Pos} {ta : TE} (ha : PE X e ta) (hb : attributeBase e f X.env (eval e X.env) = eval e X.env) : PE X (.Attribute e f pos) (tFld K' ta f) := by
  subst hK
  exact pe_fld ha hb
theorem ix_listK (hK : X.K = K') : IxR X (rIxL K') := by
  subst hK
  exact ix_list
theorem ix_tupK (hK : X.K = K') : IxR X (rIxT K') := by
  subst hK
  exact ix_tup
theorem sl_listK (hK : X.K = K') : SlR X (rSlL K') := by
  subst hK
  exact sl_list
theorem sl_tupAK (hK : X.K = K') : SlR X (rSlA K') := by
  subst hK
  exact sl_tupA
theorem op_eqDK (hK : X.K = K') (hu : X.A.units + 64 < cLine) : OpR X (compareOp .Eq) (rEqD K') := by
  subst hK
  exact op_eqD hu
theorem op_neDK (hK : X.K = K') (hu : X.A.units + 64 < cLine) : OpR X (compareOp .NotEq) (rNeD K') := by
  subst hK
  exact op_neD hu
theorem op_in_seqK (hK : X.K = K') : OpR X (compareOp .In) (rIn K' false) := by
  subst hK
  exact op_in_seq
end
section
variable {X : Cx}
/-- a statement and what follows it, with a word between -/
def tCutJ (t u : TS) : TS := fun D σ H => ∃ Mid : L2.St → Hp → Prop, t { D with nx := Mid } σ H ∧ ∀ σ' H', Mid σ' H' → u D σ' H'
theorem pss_cutJ {st : Stmt} {rest : List Stmt} {t u : TS} (h1 : PS X st t) (h2 : PSs X rest u) : PSs X (st :: rest) (tCutJ t u) := by
  refine ⟨fun pins s σ H D I h => ?_⟩
  obtain ⟨Mid, hm, hu⟩ := h
  refine wpAny_execs_cons (thn (h1.run pins s σ H { D with nx := Mid } I hm) fun f s1 q => ?_)
  cases f with
  | next =>
    obtain ⟨σ', H', I', q⟩ := q
    exact h2.run pins s1 σ' H' D I' (hu σ' H' q)
  | ret v => exact q
  | brk => exact q
  | cont => exact q
end
theorem nl_tup {K : PySem.W.Frag} {H H' : Hp} {a : Addr} {xs : List V} (s : NL H H') (h : SqT K H a xs) : SqT K H' a xs := by
  rcases h with (h | ⟨o, h⟩) | h
  · exact .inl (.inl (s _ _ (fun _ z => by cases z) h))
  · exact .inl (.inr ⟨o, s _ _ (fun _ z => by cases z) h⟩)
  · exact .inr h
theorem mem_cut {xs : List V} {lo hi : Option Int} {v : V} (h : v ∈ cutV xs lo hi) : v ∈ xs := List.mem_of_mem_drop (List.mem_of_mem_take h)
theorem len_cut (xs : List V) (lo hi : Option Int) : (cutV xs lo hi).length ≤ xs.length := by
  unfold cutV
  rw [List.length_take, List.length_drop]
  omega
/-- a comprehension over a list that leaves places out; the heap stays -/
theorem lc_someI {K : PySem.W.Frag} {a : Addr} {xs : List V} {H : Hp} {D : Addr} (hD : H D = none) (hS : SqL K H a xs) (hl : xs.length ≤ 10000) (p : Nat → Bool) (f : Nat → V)
    {g : TG} {tt : TT} {te : TE} {vs : List Nat} {σ : L2.St} {Qd : Hp → Prop}
    (turn : ∀ (i : Nat) (x : V) (H2 : Hp) (R : V → Hp → Prop) (C : Hp → Prop), xs[i]? = some x → Same H H2 → (p i = true → R (f i) H2) → (p i = false → C H2) → g x (wipe σ vs) H2 fun σ2 H2 => wipe σ2 vs = wipe σ vs ∧ tt σ2 H2 fun b H3 => if b = true then te σ2 H3 R else C H3)
    (fin : ∀ H', Same H H' → H' D = some (.lst (((List.range xs.length).filter p).map f)) → Qd H') :
    ∃ W : Nat → Nat → Hp → Prop, (∃ m, W 0 m (upd H D (.lst []))) ∧ ∀ i m H, W i m H →
      ((Itl K a).stop i H ∧ Qd H) ∨ ((Itl K a).go i H ∧ ∃ Nx : Hp → Prop, (∀ H', Nx H' → ∃ m', m' < m ∧ W (i + 1) m' H') ∧ ∀ x H', (Itl K a).yld i H x H' → g x (wipe σ vs) H' fun σ2 H2 => wipe σ2 vs = wipe σ vs ∧ tt σ2 H2 fun b H3 =>
        if b = true then te σ2 H3 fun y H4 => ∃ acc, H4 D = some (.lst acc) ∧ acc.length < sizeLine ∧ Nx (upd H4 D (.lst (acc ++ [y]))) else Nx H3) := by
  refine lc_list (K := K) (a := a) (xs := xs) (fun i H' => Same H H' ∧ H' D = some (.lst (((List.range i).filter p).map f))) ⟨same_upd hD, upd_same⟩ (fun i H' _ h => h.1.seq hS) ?_ ?_
  · rintro i x H2 hi ⟨s2, e2⟩
    have hil : i < xs.length := (List.getElem?_eq_some_iff.mp hi).1
    refine turn i x H2 _ _ hi s2 (fun hp => ?_) (fun hp => ?_)
    · refine ⟨_, e2, ?_, fun b o h => ?_, ?_⟩
      · rw [List.length_map]
        refine Nat.lt_of_le_of_lt (List.length_filter_le _ _) ?_
        rw [List.length_range]
        exact Nat.lt_of_lt_of_le (show i < 10000 by omega) (by decide)
      · rw [upd_ne (ne_of_none h hD)]
        exact s2 _ _ h
      · rw [upd_same, List.range_succ, List.filter_append, List.map_append, List.filter_cons_of_pos hp]
        rfl
    · refine ⟨s2, ?_⟩
      rw [e2, List.range_succ, List.filter_append, List.map_append, List.filter_cons_of_neg (by rw [hp]; exact Bool.false_ne_true)]
      show _ = some (HO.lst (_ ++ []))
      rw [List.append_nil]
  · rintro H' ⟨s, e⟩
    exact fin H' s e
section
variable {X : Cx} {CX : CXT} {k : Nat} {f : Addr} {fd : FuncData} {ps ks : List Str} {sp : Sp} {E : XK} {x : Str} {p pos : Pos} {kws : List Keyword} {tk : TA} {g : List Value → List Value → List Value} {gV : List V → List V → List V}
/-- f(k = v, ..) -/
theorem pe_callN0 (F : FnOk X.prog X.w X.K X.mg X.base CX k f fd ps sp) (hr : Room k X.A) (hg : Gl X x) (hm : X.mg x = some (.ref f)) (hk : PySem.W.keepIn X.K (.ref f) = true) (hb : KBn X.K fd ps 0 ks g gV) (hx : Passes CX X E) (hkw : PK X kws tk)
    (hall : (backToKw pos (keywordEach kws X.env)).all (·.1.isSome) = true := by rfl) (hks : (backToKw pos (keywordEach kws X.env)).filterMap (·.1) = ks := by rfl) (hdb : (x == ("__debug__" : Str)) = false := by decide)
    (hpl : ((backTo pos (starEach [] X.env)).any (·.1) || (backToKw pos (keywordEach kws X.env)).any (·.1.isNone)) = false := by rfl) :
    PE X (.Call (.Name x p) [] kws pos) (tCallN 0 ks.length sp gV E tNil tk) := by
  refine ⟨fun pins s σ H Q I h => ?_⟩
  refine wpAny_Call_Name_kw (ld_glob I hg hm ?_ hdb)
  refine PySem.W.callWith_KW0 (h₀ := X.base) I.ok.mod.kin hk hall ?_ hpl
  refine thn (hkw.run pos pins s σ H _ I h) fun ws s2 ⟨zs, H2, I2, rz, l1, l2, q2⟩ => ⟨I2.kIn, ?_⟩
  rw [hks]
  exact run_fnN (us := []) (vs := []) F hr hb hx I2 .nil rz rfl l2 q2
end
/-- keywords of a def without defaults -/
theorem kbn_of {K : PySem.W.Frag} {x qual : Str} {st : Stmt} {f : Addr} {fd : FuncData} {ps : List Str} (F : Fun K x qual st f fd) (n : Nat) (ks : List Str) (g : List Value → List Value → List Value) (gV : List V → List V → List V)
    (hrel : ∀ {vs : List V} {us : List Value} {zs : List V} {ws : List Value}, Vals vs us → Vals zs ws → Vals (gV vs zs) (g us ws))
    (h : ∀ (kV doc pm : Value) (an : Option Addr) (cdv ct : Value) (us ws : List Value), us.length = n → ws.length = ks.length → bindArgs (PySem.W.fnOf x qual (defArgs st) (defBody st) (defScope st) .none kV doc pm an cdv ct) ⟨us, ks.zip ws⟩ = pure (ps.zip (g us ws))) : KBn K fd ps n ks g gV := by
  obtain ⟨oc, od, kV, doc, pm, an, cdv, ct, osl, rfl, lk, hcd⟩ := F.ex
  exact ⟨fun s us ws _ l1 l2 => .of_eq (h kV doc pm an cdv ct us ws l1 l2), hrel⟩
def gsw {α : Type} (l : List α) : List α := match l with
  | [a, b] => [b, a]
  | l => l
theorem gsw_rel {zs : List V} {ws : List Value} (h : Vals zs ws) : Vals (gsw zs) (gsw ws) := by
  cases h with
  | nil => exact .nil
  | cons r1 h =>
    cases h with
    | nil => exact .cons r1 .nil
    | cons r2 h =>
      cases h with
      | nil => exact .cons r2 (.cons r1 .nil)
      | cons r3 h => exact .cons r1 (.cons r2 (.cons r3 h))
/-- a comprehension over range(n): what it makes is told by G -/
theorem lc_genR {n : Nat} {H : Hp} {D : Addr} (hD : H D = none) (hl : n ≤ 10000) (G : Nat → V → Hp → Prop) (hG : ∀ j v H1 H2, NL H1 H2 → G j v H1 → G j v H2)
    {g : TG} {tt : TT} {te : TE} {vs : List Nat} {σ : L2.St} {Qd : Hp → Prop}
    (turn : ∀ (i : Nat) (H2 : Hp) (R : V → Hp → Prop) (C : Hp → Prop), i < n → Same H H2 → (∀ v H3, Same H2 H3 → G i v H3 → R v H3) → g (.int (0 + i)) (wipe σ vs) H2 fun σ2 H2 => wipe σ2 vs = wipe σ vs ∧ tt σ2 H2 fun b H3 => if b = true then te σ2 H3 R else C H3)
    (fin : ∀ H' acc, Same H H' → H' D = some (.lst acc) → acc.length = n → (∀ j v, acc[j]? = some v → G j v H') → Qd H') :
    ∃ W : Nat → Nat → Hp → Prop, (∃ m, W 0 m (upd H D (.lst []))) ∧ ∀ i m H, W i m H →
      ((Itr 0 n).stop i H ∧ Qd H) ∨ ((Itr 0 n).go i H ∧ ∃ Nx : Hp → Prop, (∀ H', Nx H' → ∃ m', m' < m ∧ W (i + 1) m' H') ∧ ∀ x H', (Itr 0 n).yld i H x H' → g x (wipe σ vs) H' fun σ2 H2 => wipe σ2 vs = wipe σ vs ∧ tt σ2 H2 fun b H3 =>
        if b = true then te σ2 H3 fun y H4 => ∃ acc, H4 D = some (.lst acc) ∧ acc.length < sizeLine ∧ Nx (upd H4 D (.lst (acc ++ [y]))) else Nx H3) := by
  refine lc_range (lo := 0) (n := n) (fun i H' => Same H H' ∧ ∃ acc, H' D = some (.lst acc) ∧ acc.length = i ∧ ∀ j v, acc[j]? = some v → G j v H') ⟨same_upd hD, [], upd_same, rfl, fun j v h => by simp at h⟩ ?_ ?_
  · rintro i H2 hi ⟨s2, acc, e2, l2, g2⟩
    refine turn i H2 _ _ hi s2 fun v H3 s3 hv => ?_
    have e3 := s3 _ _ e2
    refine ⟨acc, e3, ?_, fun b o h => ?_, acc ++ [v], upd_same, ?_, fun j w hj => ?_⟩
    · rw [l2]
      exact Nat.lt_of_lt_of_le (show i < 10000 by omega) (by decide)
    · rw [upd_ne (ne_of_none h hD)]
      exact s3 _ _ (s2 _ _ h)
    · rw [List.length_append, l2]
      rfl
    · refine hG j w H3 _ (NL.at_ e3) ?_
      by_cases h : j < acc.length
      · rw [List.getElem?_append_left h] at hj
        exact hG j w H2 H3 (NL.of s3) (g2 j w hj)
      · rw [List.getElem?_append_right (by omega)] at hj
        have : j = i := by
          have := (List.getElem?_eq_some_iff.mp hj).1
          rw [List.length_singleton] at this
          omega
        subst this
        rw [l2, Nat.sub_self] at hj
        have : v = w := Option.some.inj hj
        subst this
        exact hv
  · rintro H' ⟨s, acc, e, l, g⟩
    exact fin H' acc s e l g
/-- [k for k in range(n) if a draw ..] -/
theorem lc_drawK {P : Int → Prop} {d D : Addr} {m n : Nat} {H1 : Hp} (hD : H1 D = none) (dr : Dr P d m H1) (hn : n ≤ 1000) {g : TG} {tt : TT} {te : TE} {vs : List Nat} {σ : L2.St} {Qd : Hp → Prop}
    (turn : ∀ (i : Nat) (H2 : Hp) (R : V → Hp → Prop) (C : Hp → Prop), i < n → Dr P d (m + i) H2 → (∀ H3, But d H2 H3 → Dr P d (m + i + 1) H3 → R (.int (i : Int)) H3 ∧ C H3) → g (.int (0 + i)) (wipe σ vs) H2 fun σ2 H2 => wipe σ2 vs = wipe σ vs ∧ tt σ2 H2 fun b H3 => if b = true then te σ2 H3 R else C H3)
    (fin : ∀ H' (ks : List Nat), (∀ k ∈ ks, k < n) → ks.length ≤ n → But d H1 H' → Dr P d (m + n) H' → H' D = some (.lst (ks.map fun (k : Nat) => V.int (k : Int))) → Qd H') :
    ∃ W : Nat → Nat → Hp → Prop, (∃ m, W 0 m (upd H1 D (.lst []))) ∧ ∀ i m H, W i m H →
      ((Itr 0 n).stop i H ∧ Qd H) ∨ ((Itr 0 n).go i H ∧ ∃ Nx : Hp → Prop, (∀ H', Nx H' → ∃ m', m' < m ∧ W (i + 1) m' H') ∧ ∀ x H', (Itr 0 n).yld i H x H' → g x (wipe σ vs) H' fun σ2 H2 => wipe σ2 vs = wipe σ vs ∧ tt σ2 H2 fun b H3 =>
        if b = true then te σ2 H3 fun y H4 => ∃ acc, H4 D = some (.lst acc) ∧ acc.length < sizeLine ∧ Nx (upd H4 D (.lst (acc ++ [y]))) else Nx H3) := by
  have nD : D ≠ d := dr.ne hD
  refine lc_range (lo := 0) (n := n) (fun i H' => ∃ ks : List Nat, (∀ k ∈ ks, k < n) ∧ ks.length ≤ i ∧ But d H1 H' ∧ Dr P d (m + i) H' ∧ H' D = some (.lst (ks.map fun (k : Nat) => V.int (k : Int)))) ⟨[], (fun _ h => nomatch h), Nat.le_refl _, But.new hD, dr.upd nD, upd_same⟩ ?_ ?_
  · rintro i H2 hi ⟨ks, hk, hl, b2, dr2, e2⟩
    refine turn i H2 _ _ hi dr2 fun H3 b3 dr3 => ⟨?_, ks, hk, by omega, b2.trans b3, dr3, b3 _ _ nD e2⟩
    refine ⟨_, b3 _ _ nD e2, ?_, ks ++ [i], ?_, ?_, ?_, ?_, ?_⟩
    · rw [List.length_map]
      exact Nat.lt_of_lt_of_le (show ks.length < 1001 by omega) (by decide)
    · intro k h
      rcases List.mem_append.mp h with h | h
      · exact hk k h
      · rw [List.mem_singleton.mp h]
        exact hi
    · rw [List.length_append, List.length_singleton]
      omega
    · exact (b2.trans b3).mut hD
    · exact (dr3.upd nD).mono (by omega)
    · rw [upd_same, List.map_append]
      rfl
  · rintro H' ⟨ks, hk, hl, b, dr', e⟩
    exact fin H' ks hk hl b dr' e
theorem in_ints (k : Nat) (S : List Nat) : inV (.int (k : Int)) (S.map fun (j : Nat) => V.int (j : Int)) = decide (k ∈ S) := by
  unfold inV
  rw [List.any_map]
  induction S with
  | nil => rfl
  | cons j S ih =>
    rw [List.any_cons, ih]
    show (((j : Int) == (k : Int)) || decide (k ∈ S)) = _
    rw [Bool.eq_iff_iff, Bool.or_eq_true, beq_iff_eq, decide_eq_true_eq, decide_eq_true_eq, List.mem_cons]
    constructor
    · rintro (h | h)
      · exact .inl (by omega)
      · exact .inr h
    · rintro (h | h)
      · exact .inl (by omega)
      · exact .inr h
theorem flat_ints (S : List Nat) : (S.map fun (j : Nat) => V.int (j : Int)).all flatV = true := by
  rw [List.all_eq_true]
  intro v hv
  obtain ⟨j, _, rfl⟩ := List.mem_map.mp hv
  rfl
end KA
namespace KA
open PySem PySem.SeqAt
open AutoSeq1 (wpAny_loadPart')
open MeetsSeq MeetsSeq2 MeetsSeq3 SeqRoads2
section
variable {prog : Program} {w : World} {A : Around} {R : Result → Shared → Prop}
/-- two lists whose items are equal, turn by turn: != is False -/
theorem ne_turns (p q : Addr) (N : Nat) (J : Nat → Shared → Prop) (hJ : GQ.ListI prog w A (fun e s' => R (.error e) s') p q N J)
    (done : ∀ s, J N s → R (.ok (.ret (.bool false))) s) : ∀ (k i : Nat), N - i = k → i ≤ N → ∀ s, J i s →
      wpAny (model prog w) A.in1 (Builtin.«list.__eq__.loop» ⟨[.ref p, .ref q, rawInt i, rawInt 3], []⟩) (GQ.FinOf prog w A R) (fun e s' => R (.error e) s') s
  | 0, i, hk, hi, s, hs => by
    obtain ⟨xs, ys, m, m2, gp, gq, zp, zq, _⟩ := hJ _ _ hs
    have iN : i = N := by omega
    have last : R (.ok (.ret (.bool false))) s := done s (iN ▸ hs)
    obtain ⟨hh, gg, dd, kk, oo⟩ := s
    wp_walk using wpAny_loadPart' gp, wpAny_loadPart' gq
    have n1 : xs[((i : Nat) : Int).toNat]? = none := by simp; omega
    have n2 : ys[((i : Nat) : Int).toNat]? = none := by simp; omega
    rw [n1, n2]
    wp_walk using wpAny_loadPart' gp, wpAny_loadPart' gq
    show R (.ok (.ret (.bool (xs.size != ys.size)))) _
    rw [zp, zq]
    simpa using last
  | k + 1, i, hk, hi, s, hs => by
    obtain ⟨xs, ys, m, m2, gp, gq, zp, zq, tn⟩ := hJ _ _ hs
    have ip : i < xs.size := by omega
    have iq : i < ys.size := by omega
    have tt := tn ip iq
    obtain ⟨hh, gg, dd, kk, oo⟩ := s
    wp_walk using wpAny_loadPart' gp, wpAny_loadPart' gq
    have n1 : xs[((i : Nat) : Int).toNat]? = some xs[i] := by simp [ip]
    have n2 : ys[((i : Nat) : Int).toNat]? = some ys[i] := by simp [iq]
    have up : ((i : Int) + 1) = ((i + 1 : Nat) : Int) := by omega
    rw [n1, n2]
    refine wpAny_bind (wpAny_mono tt (fun r s2 h2 => ?_) fun _ _ x => x)
    obtain ⟨er, h2⟩ := h2
    subst er
    have next := ne_turns p q N J hJ done k (i + 1) (by omega) (by omega) s2 h2
    obtain ⟨hh2, gg2, dd2, kk2, oo2⟩ := s2
    wp_walk
    rw [up]
    exact ⟨plainId_quiet plain_eq_loop _, codeAny_builtin entry_eq_loop (by rw [Around.under_plainId plain_eq_loop _]; exact next)⟩
theorem ne_lists (p q : Addr) (N : Nat) (J : Nat → Shared → Prop) (hJ : GQ.ListI prog w A (fun e s' => R (.error e) s') p q N J)
    (done : ∀ s, J N s → R (.ok (.ret (.bool false))) s) {s : Shared} (hs : J 0 s) :
    wpAny (model prog w) A.in1 (Builtin.«list.__ne__» ⟨[.ref p, .ref q], []⟩) (GQ.FinOf prog w A R) (fun e s' => R (.error e) s') s := by
  obtain ⟨xs, ys, m, m2, gp, gq, zp, zq, _⟩ := hJ _ _ hs
  have all := ne_turns (A := A) (R := R) p q N J hJ done _ 0 rfl (Nat.zero_le _) s hs
  obtain ⟨hh, gg, dd, kk, oo⟩ := s
  have sub := AutoSeq1.sub_list_list
  have same : ¬ (xs.size != ys.size) = true := by simp [zp, zq]
  wp_walk using wpAny_loadPart' gp, wpAny_loadPart' gq
  exact ⟨plainId_quiet plain_eq_loop _, codeAny_builtin entry_eq_loop (by rw [Around.under_plainId plain_eq_loop _]; exact all)⟩
end
section
variable {prog : Program} {w : World} {A : Around} {E : Value → Shared → Prop} {s : Shared}
theorem rc_ne {p q : Addr} {N : Nat} {Q : Value → Shared → Prop} (hu : A.units < cLine) (J : Nat → Shared → Prop) (hJ : GQ.ListI prog w A E p q N J)
    (done : ∀ s, J N s → Q (.bool false) s) (hs : J 0 s) : wpAny (model prog w) A (richCompare .NotEq (.ref p) (.ref q)) Q E s := by
  obtain ⟨xs, ys, m, m2, gp, gq, _, _, _⟩ := hJ _ _ hs
  refine wpAny_richCompare_same_room (op := .NotEq) ⟨_, gp, rfl⟩ ⟨_, gq, rfl⟩ F.slot_list_ne (GQ.call_here F.slot_list_ne ⟨_, gp, rfl⟩ F.entry_list_ne (F.args_list_ne_2 _ _) ?_) hu
  exact ne_lists (R := wants (fun v s' => v ≠ .notImplemented ∧ Q v s') E) p q N J hJ (fun s' z => ⟨(fun x => nomatch x), done s' z⟩) hs
end
open L2 in
/-- xs != ys, where the items are equal by their own == : False -/
def rNeG (D : Eqv) : R2 := fun x y H Q => DList D x y H ∧ ∀ H', Ext H H' → Q (.bl false) H'
open L2 in
theorem op_neG {X : Cx} {n : Nat} {D : Eqv} (hD : Mon D) (h : EqG X n D) (hr : Room (n + 1) X.A) : OpR X (compareOp .NotEq) (rNeG D) := by
  intro pins s σ H x y v u Q I rx ry hq
  obtain ⟨⟨a, b, xs, ys, rfl, rfl, ha, hb, p⟩, q⟩ := hq
  cases rx
  cases ry
  show wpAny (model X.prog X.w) X.A (richCompare .NotEq (.ref a) (.ref b)) (EP X pins σ Q) X.xe s
  refine rc_ne (N := xs.length) hr.units0 (fun _ s' => LoopI X pins σ H s') (fun i s' z => ?_) (fun s' z => ?_) ⟨H, I, Ext.rfl'⟩
  · obtain ⟨H1, I1, e1⟩ := id z
    obtain ⟨_, its, k, r, e⟩ := I1.hok a _ (e1 _ _ ha)
    obtain ⟨_, its2, k2, r2, e2⟩ := I1.hok b _ (e1 _ _ hb)
    exact ⟨its.toArray, its2.toArray, k, k2, e, e2, by rw [List.size_toArray, ← r.length], by rw [List.size_toArray, ← r2.length, ← p.1], fun g1 g2 => turnG hD h ⟨hr, rfl⟩ p r r2 i g1 g2 s' z⟩
  · obtain ⟨H1, I1, e1⟩ := z
    exact ⟨.bl false, H1, I1, rfl, q H1 e1⟩
end KA
namespace KA
open PySem PySem.Spec PyProof.Rows L2
/-! ### shares as pairs -/
/-- by what both are divided -/
def prt (n d : Int) : Int := if d < 0 then -(Int.gcd n d : Int) else (Int.gcd n d : Int)
def shr (n d : Int) : Int × Int := (n.fdiv (prt n d), d.fdiv (prt n d))
theorem gcd_pos {n d : Int} (h : d ≠ 0) : 0 < Int.gcd n d := by
  have : Int.gcd n d ≠ 0 := fun z => h (Int.gcd_eq_zero_iff.mp z).2
  omega
theorem prt_ne {n d : Int} (h : d ≠ 0) : prt n d ≠ 0 := by
  have := gcd_pos (n := n) h
  unfold prt
  split <;> omega
theorem prt_dvd1 (n d : Int) : prt n d ∣ n := by
  unfold prt
  split
  · exact Int.neg_dvd.mpr (Int.gcd_dvd_left ..)
  · exact Int.gcd_dvd_left ..
theorem prt_dvd2 (n d : Int) : prt n d ∣ d := by
  unfold prt
  split
  · exact Int.neg_dvd.mpr (Int.gcd_dvd_right ..)
  · exact Int.gcd_dvd_right ..
theorem shr1 (n d : Int) : prt n d * (shr n d).1 = n := by
  show prt n d * n.fdiv (prt n d) = n
  rw [Int.fdiv_eq_ediv_of_dvd (prt_dvd1 n d)]
  exact Int.mul_ediv_cancel' (prt_dvd1 n d)
theorem shr2 (n d : Int) : prt n d * (shr n d).2 = d := by
  show prt n d * d.fdiv (prt n d) = d
  rw [Int.fdiv_eq_ediv_of_dvd (prt_dvd2 n d)]
  exact Int.mul_ediv_cancel' (prt_dvd2 n d)
theorem shr_pos {n d : Int} (h : d ≠ 0) : 0 < (shr n d).2 := by
  have e := shr2 n d
  have g := gcd_pos (n := n) h
  by_cases hd : d < 0
  · have hp : prt n d < 0 := by unfold prt; rw [if_pos hd]; omega
    rcases Int.lt_trichotomy (shr n d).2 0 with z | z | z
    · have := Int.mul_pos_of_neg_of_neg hp z
      omega
    · rw [z] at e
      omega
    · exact z
  · have hp : 0 < prt n d := by unfold prt; rw [if_neg hd]; omega
    rcases Int.lt_trichotomy (shr n d).2 0 with z | z | z
    · have := Int.mul_neg_of_pos_of_neg hp z
      omega
    · rw [z] at e
      omega
    · exact z
theorem prt_abs (n d : Int) : (prt n d).natAbs = Int.gcd n d := by
  unfold prt
  split <;> omega
theorem shr_low {n d : Int} (h : d ≠ 0) : Int.gcd (shr n d).1 (shr n d).2 = 1 := by
  have g := gcd_pos (n := n) h
  have e : Int.gcd (prt n d * (shr n d).1) (prt n d * (shr n d).2) = (prt n d).natAbs * Int.gcd (shr n d).1 (shr n d).2 := Int.gcd_mul_left ..
  rw [shr1, shr2, prt_abs] at e
  have : Int.gcd n d * 1 = Int.gcd n d * Int.gcd (shr n d).1 (shr n d).2 := by omega
  exact (Nat.eq_of_mul_eq_mul_left g this).symm
/-- of the worth u over g -/
def Eqf (x : Int × Int) (u g : Int) : Prop := x.1 * g = u * x.2
theorem shr_eqf (n d : Int) : Eqf (shr n d) n d := by
  have a := shr1 n d
  have b := shr2 n d
  show (shr n d).1 * d = n * (shr n d).2
  generalize prt n d = p at a b
  generalize (shr n d).1 = x at a ⊢
  generalize (shr n d).2 = y at b ⊢
  subst a b
  grind
theorem eqf_trans {n d u g : Int} (h : d ≠ 0) (e : n * g = u * d) : Eqf (shr n d) u g := by
  have a := shr_eqf n d
  unfold Eqf at a ⊢
  refine Int.eq_of_mul_eq_mul_right h ?_
  grind
theorem eqf_plus {x y : Int × Int} {a b c d : Int} (hx : Eqf x a b) (hy : Eqf y c d) (x0 : 0 < x.2) (y0 : 0 < y.2) : Eqf (shr (x.1 * y.2 + y.1 * x.2) (x.2 * y.2)) (a * d + c * b) (b * d) := by
  unfold Eqf at hx hy
  refine eqf_trans (Int.mul_ne_zero (by omega) (by omega)) ?_
  grind
theorem eqf_minus {x y : Int × Int} {a b c d : Int} (hx : Eqf x a b) (hy : Eqf y c d) (x0 : 0 < x.2) (y0 : 0 < y.2) : Eqf (shr (x.1 * y.2 - y.1 * x.2) (x.2 * y.2)) (a * d - c * b) (b * d) := by
  unfold Eqf at hx hy
  refine eqf_trans (Int.mul_ne_zero (by omega) (by omega)) ?_
  grind
theorem eqf_times {x y : Int × Int} {a b c d : Int} (hx : Eqf x a b) (hy : Eqf y c d) (x0 : 0 < x.2) (y0 : 0 < y.2) : Eqf (shr (x.1 * y.1) (x.2 * y.2)) (a * c) (b * d) := by
  unfold Eqf at hx hy
  refine eqf_trans (Int.mul_ne_zero (by omega) (by omega)) ?_
  grind
def sgn (m : Int) : Int := if m < 0 then -1 else 1
theorem below_iff {x y : Int × Int} {a b c d : Int} (hx : Eqf x a b) (hy : Eqf y c d) (x0 : 0 < x.2) (y0 : 0 < y.2) (hb : b ≠ 0) (hd : d ≠ 0) : (x.1 * y.2 < y.1 * x.2) ↔ (sgn (b * d) * a * d < sgn (b * d) * c * b) := by
  unfold Eqf at hx hy
  have bd : b * d ≠ 0 := Int.mul_ne_zero hb hd
  have hp : 0 < sgn (b * d) * (b * d) := by
    unfold sgn
    split <;> omega
  have xy : 0 < x.2 * y.2 := Int.mul_pos x0 y0
  rw [← Int.mul_lt_mul_right hp, ← Int.mul_lt_mul_right (a := x.2 * y.2) (b := sgn (b * d) * a * d) xy]
  have e1 : x.1 * y.2 * (sgn (b * d) * (b * d)) = sgn (b * d) * a * d * (x.2 * y.2) := by grind
  have e2 : y.1 * x.2 * (sgn (b * d) * (b * d)) = sgn (b * d) * c * b * (x.2 * y.2) := by grind
  rw [e1, e2]
/-! ### sums -/
def PP : List (Int × Int) → Int
  | [] => 1
  | x :: l => x.2 * PP l
def NN : List (Int × Int) → Int
  | [] => 0
  | x :: l => x.1 * PP l + NN l * x.2
theorem PP_app : ∀ l m : List (Int × Int), PP (l ++ m) = PP l * PP m
  | [], m => by show PP m = 1 * PP m; omega
  | x :: l, m => by
    show x.2 * PP (l ++ m) = x.2 * PP l * PP m
    rw [PP_app l m, Int.mul_assoc]
theorem NN_app : ∀ l m : List (Int × Int), NN (l ++ m) = NN l * PP m + NN m * PP l
  | [], m => by
    show NN m = 0 * PP m + NN m * 1
    omega
  | x :: l, m => by
    show x.1 * PP (l ++ m) + NN (l ++ m) * x.2 = (x.1 * PP l + NN l * x.2) * PP m + NN m * (x.2 * PP l)
    rw [NN_app l m, PP_app l m]
    grind
theorem PP_snoc (l : List (Int × Int)) (x : Int × Int) : PP (l ++ [x]) = PP l * x.2 := by
  rw [PP_app]
  show PP l * (x.2 * 1) = _
  rw [Int.mul_one]
theorem NN_snoc (l : List (Int × Int)) (x : Int × Int) : NN (l ++ [x]) = NN l * x.2 + x.1 * PP l := by
  rw [NN_app]
  show NN l * (x.2 * 1) + (x.1 * 1 + 0 * x.2) * PP l = _
  grind
theorem PP_rev : ∀ l : List (Int × Int), PP l.reverse = PP l
  | [] => rfl
  | x :: l => by
    rw [List.reverse_cons, PP_snoc, PP_rev l]
    exact Int.mul_comm ..
theorem NN_rev : ∀ l : List (Int × Int), NN l.reverse = NN l
  | [] => rfl
  | x :: l => by
    rw [List.reverse_cons, NN_snoc, NN_rev l, PP_rev l]
    show NN l * x.2 + x.1 * PP l = x.1 * PP l + NN l * x.2
    omega
/-! ### sizes -/
def Sz (k : Nat) (n : Int) : Prop := n.natAbs < 2 ^ k
theorem Sz.mono {k m : Nat} {n : Int} (h : Sz k n) (e : k ≤ m) : Sz m n := Nat.lt_of_lt_of_le h (Nat.pow_le_pow_right (by decide) e)
theorem Sz.mul {k m : Nat} {a b : Int} (ha : Sz k a) (hb : Sz m b) : Sz (k + m) (a * b) := by
  unfold Sz
  rw [Int.natAbs_mul, Nat.pow_add]
  exact Nat.mul_lt_mul'' ha hb
theorem Sz.add {k : Nat} {a b : Int} (ha : Sz k a) (hb : Sz k b) : Sz (k + 1) (a + b) := by
  unfold Sz at *
  rw [Nat.pow_succ]
  omega
theorem Sz.sub {k : Nat} {a b : Int} (ha : Sz k a) (hb : Sz k b) : Sz (k + 1) (a - b) := by
  unfold Sz at *
  rw [Nat.pow_succ]
  omega
theorem Sz.mw {k m : Nat} {a b : Int} (ha : Sz k a) (hb : Sz m b) (h : k + m + 2 ≤ 1000000) : CMulW a b := wide_mul (ha.mono (Nat.le_succ k)) (hb.mono (Nat.le_succ m)) (by omega) (by omega) (by omega)
theorem Sz.div {k : Nat} {n d : Int} (p : Int) (h : Sz k n) (e : p * d = n) (hp : p ≠ 0) : Sz k d := by
  unfold Sz at *
  subst e
  rw [Int.natAbs_mul] at h
  refine Nat.lt_of_le_of_lt ?_ h
  exact Nat.le_mul_of_pos_left _ (by omega)
theorem shr_sz {k : Nat} {n d : Int} (hd : d ≠ 0) (hn : Sz k n) (h : Sz k d) : Sz k (shr n d).1 ∧ Sz k (shr n d).2 := ⟨hn.div (prt n d) (shr1 n d) (prt_ne hd), h.div (prt n d) (shr2 n d) (prt_ne hd)⟩
/-- // by any number but 0 below 2 ^ 9000 -/
def CDivX (_ j : Int) : Prop := j ≠ 0 ∧ j.natAbs.log2 < 9000
theorem op_fdivX {X : Cx} : OpR X (binaryOp .FloorDiv) (rI CDivX fun i j => .int (i.fdiv j)) := opI fun i j _ _ _ _ _ hc q => floordiv_int hc.1 q (.inl (PyProof.noPylong_of_log2 hc.2))
theorem gcd_turn (a b : Nat) (h : 0 < b) : Nat.gcd b (a % b) = Nat.gcd a b := by
  rw [Nat.gcd_comm a b, Nat.gcd_rec b a, Nat.gcd_comm]
theorem pg_tupK {X : Cx} {K' : PySem.W.Frag} (hK : X.K = K') {es : List Expr} {k : Nat} {pos : Pos} {t : TGs} {n : Nat} (hc : X.calm = true) (h : PGs X es t)
    (hn : (assignEach es X.env).length = n := by rfl) (hst : (assignEach es X.env).findIdx? (·.1) = none := by rfl) : PG X (.Tuple es k pos) (gTup K' n t) := by
  subst hK
  exact pg_tup hc h hn hst
end KA
namespace KA
open PySem PySem.Spec PyProof.Rows L2
/-- what isinstance asks of an own class -/
structure ICls (K : PySem.W.Frag) (C : Addr) : Prop where
  ha : PySem.W.findIn K (.ref C) "__class__" = some (some (.builtin "object.__class__"))
  hn : PySem.W.specialIn K (.builtin "object.__class__") "__get__" = some (some (.builtin "getset_descriptor.__get__"))
  htk : PySem.W.takesIn K (.builtin "object.__class__") = some true
  hm : PySem.W.mroIn K C (.type "object") = some true
  kit : PySem.W.kitOne K (.ref C) (.ref C) = some true
theorem ICls.ty {K : PySem.W.Frag} {C : Addr} (i : ICls K C) (cl : Cls K C) {H : Hp} {p dx : Addr} {fs : List (Str × V)} (h : H p = some (.ins C dx fs)) : TyX K H (.ref p) (.ref C) := .base (.ins h cl i.ha i.hn i.htk i.hm)
theorem prt_log {n d : Int} {k : Nat} (hd : d ≠ 0) (h : Sz k d) (hk : k ≤ 8000) : (prt n d).natAbs.log2 < 9000 := by
  rw [prt_abs]
  refine Nat.lt_of_lt_of_le (PySem.Flt.log2_lt_of (k := k + 1) (by omega) ?_) (by omega : k + 1 ≤ 9000)
  have : Int.gcd n d ≤ d.natAbs := Nat.le_of_dvd (by omega) (Int.gcd_dvd_natAbs_right n d)
  exact Nat.lt_of_le_of_lt this (h.mono (Nat.le_succ k))
theorem abs_nat (n : Int) : (if n < 0 then -n else n) = (n.natAbs : Int) := by
  split <;> omega
end KA
namespace KA
open PySem PySem.Spec PyProof.Rows L2
section
variable {X : Cx} {n : Nat}
/-- x == y (or another comparison), x an instance of the class at C whose own def keeps sp, y of any kind -/
def rOwn (K : PySem.W.Frag) (C : Addr) (sp : Sp) (E : XK) : R2 := fun x y H Q => ∃ (a dx : Addr) (fs : List (Str × V)) (t : Value), x = .ref a ∧ H a = some (.ins C dx fs) ∧ TyX K H y t ∧ PySem.W.notFirst K C t = true ∧ sp [.ref a, y] H (fun v H' => (∃ b, v = .bl b) ∧ Q v H') E
theorem op_own {op : CmpOp} {CX : CXT} {C f : Addr} {fd : FuncData} {ps : List Str} {sp : Sp} {E : XK} (F : FnOk X.prog X.w X.K X.mg X.base CX n f fd ps sp)
    (hs : PySem.W.findIn X.K (.ref C) (cmpInfo op).2.1 = some (some (.ref f))) (hf : PySem.W.isFn X.K (.ref f) = true) (hb : Binds X.K fd ps []) (hx : Passes CX X E) (hr : Room n X.A) (ho : compareOp op = richCompare op := by rfl) : OpR X (compareOp op) (rOwn X.K C sp E) := by
  intro pins s σ H x y u v Q I rx ry d
  obtain ⟨a, dx, fs, t, rfl, ha, ty, hn, hsp⟩ := d
  cases rx
  obtain ⟨mA, J, _⟩ := ins_get I.hok ha
  obtain ⟨od, J, _⟩ := J.look
  obtain ⟨Pz, Z, p, _⟩ := kit_of I ry ty
  obtain ⟨m, hF⟩ := I.fr
  rw [ho]
  refine PySem.W.cmp_K (op := op) (tb := t) hr.units0 hF I.ok.mod.kin J (Z.ty _ _ I.kIn p) hn hs hf ?_
  have hl := F.len _ _ _ _ hsp
  have r2 : Vals [V.ref a, y] [Value.ref a, v] := .cons rfl (.cons ry .nil)
  refine wpAny_call (codeAny_mono (F.run X.A X.stack s H ⟨[.ref a, v], []⟩ [.ref a, v] [.ref a, y] _ E hr I.env0 (by
    have := hb s [.ref a, v] I.kIn (by simpa using hl)
    simpa using this) r2 hsp) fun r s' hq => ?_)
  cases r with
  | error e => exact hx pins σ H s e s' I hq
  | ok fl =>
    cases fl with
    | ret w =>
      obtain ⟨z, H', I', rz, ⟨b, ez⟩, q⟩ := I.after hq
      subst ez
      cases rz
      exact ⟨.bl b, H', I', rfl, q⟩
    | next => exact False.elim hq
    | brk => exact False.elim hq
    | cont => exact False.elim hq
end
end KA
namespace KA
open PySem PySem.Spec PySem.W PyProof.Rows
section
variable {prog : Program} {w : World} {A : Around} {E : Value → Shared → Prop} {s : Shared} {K : Frag} {x C f : Addr} {ox : Obj} {od : Option Obj}
theorem repr_K {Q : Value → Shared → Prop} (hu : A.in1.units < cLine) (X : K.In s.heap) (I : InstAt s.heap x ox C od) (hs : findIn K (.ref C) "__repr__" = some (some (.ref f))) (hf : isFn K (.ref f) = true)
    (hcall : wpAny (model prog w) A.in1 (call (.ref f) [.ref x]) (fun r s' => ∃ m tk, r = .str m tk ∧ Q (.str m tk) s') E s) :
    wpAny (model prog w) A (call (.builtin "repr") [.ref x]) Q E s := by
  refine Calls.call_function_entry F.kind_repr F.plain_repr F.entry_repr (F.args_repr1 _) ?_
  unfold Builtin.«repr»
  refine wpAny_bind (m := oneArg "repr" _) (wpAny_pure ?_)
  refine wpAny_bind (wpAny_cRoomFor hu ?_)
  refine wpAny_bind (wpAny_bind (I.type.here ((looks_findIn X hs).here ?_)))
  show wpAny _ _ (if (some (Value.ref f)).isNone = true then _ else _) _ _ _
  rw [if_neg (by simp)]
  refine wpAny_bind (m := callSpecialIfBound? (.ref x) (Str.ofString "__repr__") _) (ifBound_K X I hs hf (wpAny_mono hcall (fun r s' hr => ?_) fun _ _ y => y))
  obtain ⟨m, tk, rfl, hq⟩ := hr
  refine wpAny_bind (wpAny_isInstance (typeIs_str _ _ _) isSubtype_str_str ?_)
  first
    | exact wpAny_pure ⟨_, rfl, hq⟩
    | (rw [if_pos rfl]; exact wpAny_pure ⟨_, rfl, hq⟩)
    | (simp only [if_true]; exact wpAny_pure ⟨_, rfl, hq⟩)
end
end KA
namespace KA
open PySem PySem.Spec PyProof.Rows L2
section
variable {X : Cx} {n : Nat} {CX : CXT} {C f : Addr} {fd : FuncData} {ps : List Str} {sp : Sp} {E : XK}
/-- repr(x), str(x): x an instance of the class at C, whose own def keeps sp -/
def rShow (C : Addr) (sp : Sp) (E : XK) : List V → Hp → VK → Prop := fun xs H Q => ∃ (a dx : Addr) (fs : List (Str × V)), xs = [.ref a] ∧ H a = some (.ins C dx fs) ∧ sp [.ref a] H (fun v H' => (∃ m, v = .str m) ∧ Q v H') E
theorem run_self {A : Around} {pins : List (Addr × Obj)} {σ : L2.St} {H : Hp} {s : Shared} {a : Addr} {Q : VK} (F : FnOk X.prog X.w X.K X.mg X.base CX n f fd ps sp) (hb : Binds X.K fd ps []) (hx : Passes CX X E) (hr : Room n A) (hA : A.frames = X.A.frames) (I : L2.Inv X pins σ H s)
    (hsp : sp [.ref a] H (fun v H' => (∃ m, v = .str m) ∧ Q v H') E) : wpAny (model X.prog X.w) A (call (.ref f) [.ref a]) (fun r s' => ∃ m tk, r = .str m tk ∧ EP X pins σ Q (.str m tk) s') X.xe s := by
  have e0 : Env0 X.prog X.w X.K X.mg X.base A X.stack s H := by
    have e := I.env0
    exact ⟨by rw [hA]; exact e.frames, e.mod, e.bs, e.bsz, e.funs, e.frf, e.hok, e.bare⟩
  have hl := F.len _ _ _ _ hsp
  have r2 : Vals [V.ref a] [Value.ref a] := .cons rfl .nil
  refine wpAny_call (codeAny_mono (F.run A X.stack s H ⟨[.ref a], []⟩ [.ref a] [.ref a] _ E hr e0 (by
    have := hb s [.ref a] I.kIn (by simpa using hl)
    simpa using this) r2 hsp) fun r s' hq => ?_)
  cases r with
  | error e => exact hx pins σ H s e s' I hq
  | ok fl =>
    cases fl with
    | ret w =>
      obtain ⟨z, H', I', rz, ⟨m, ez⟩, q⟩ := I.after hq
      subst ez
      obtain ⟨tk, rfl⟩ := (show ∃ t, w = Value.str m t from rz)
      exact ⟨m, tk, rfl, .str m, H', I', ⟨tk, rfl⟩, q⟩
    | next => exact False.elim hq
    | brk => exact False.elim hq
    | cont => exact False.elim hq
theorem call_reprO (F : FnOk X.prog X.w X.K X.mg X.base CX n f fd ps sp) (hs : PySem.W.findIn X.K (.ref C) "__repr__" = some (some (.ref f))) (hf : PySem.W.isFn X.K (.ref f) = true) (hb : Binds X.K fd ps []) (hx : Passes CX X E) (hr : Room (n + 1) X.A) :
    CallR X (.builtin "repr") (rShow C sp E) := by
  intro pins s σ H xs us Q I r h
  obtain ⟨a, dx, fs, rfl, ha, hsp⟩ := h
  obtain ⟨u, rfl, r1⟩ := vals1 r
  cases (show u = Value.ref a from r1)
  obtain ⟨mA, J, _⟩ := ins_get I.hok ha
  obtain ⟨od, J, _⟩ := J.look
  exact repr_K hr.in1.units0 I.kIn J hs hf (run_self F hb hx hr.in1 rfl I hsp)
theorem call_strO (F : FnOk X.prog X.w X.K X.mg X.base CX n f fd ps sp) (hs : PySem.W.findIn X.K (.ref C) "__str__" = some (some (.ref f))) (hf : PySem.W.isFn X.K (.ref f) = true) (hb : Binds X.K fd ps []) (hx : Passes CX X E) (hr : Room (n + 2) X.A) :
    CallR X (.type "str") (rShow C sp E) := by
  intro pins s σ H xs us Q I r h
  obtain ⟨a, dx, fs, rfl, ha, hsp⟩ := h
  obtain ⟨u, rfl, r1⟩ := vals1 r
  cases (show u = Value.ref a from r1)
  obtain ⟨mA, J, _⟩ := ins_get I.hok ha
  obtain ⟨od, J, _⟩ := J.look
  refine PySem.W.kso_call hr.in1.in1.units0 I.kIn J hs hf (wpAny_mono (run_self F hb hx hr.in1.in1 rfl I hsp) (fun r s' hr => ?_) fun _ _ y => y)
  obtain ⟨m, tk, rfl, q⟩ := hr
  exact q
/-- {x}: a text, an int, a truth -/
def tFmtB (te : TE) : TE := fun σ H Q => te σ H fun x H1 => (∃ y : Str, x = .str y ∧ y.length ≤ sizeLine ∧ Q (.str y) H1) ∨ (∃ i : Int, x = .int i ∧ i.natAbs.log2 < 1920 ∧ Q (.str (toString i)) H1) ∨ ∃ b : Bool, x = .bl b ∧ Q (.str (if b then "True" else "False")) H1
theorem pe_fmtB {e : Expr} {te : TE} {pos : Pos} (he : PE X e te) : PE X (.FormattedValue e (-1) none pos) (tFmtB te) := by
  refine ⟨fun pins s σ H Q I h => ?_⟩
  refine wpAny_FormattedValue_plain (thn (he.run pins s σ H _ I h) fun v s1 hv => ?_)
  obtain ⟨x, H1, I1, r1, q⟩ := hv
  rcases q with ⟨y, rfl, hz, q⟩ | ⟨i, rfl, hz, q⟩ | ⟨b, rfl, q⟩
  · obtain ⟨t, rfl⟩ := r1
    exact wpAny_formatField_str ⟨.str y, H1, I1, ⟨t, rfl⟩, q⟩ ⟨.str y, H1, I1.tok _, ⟨_, rfl⟩, q⟩ hz
  · obtain ⟨t, rfl⟩ := r1
    exact wpAny_formatField_int hz ⟨.str (toString i), H1, I1.tok _, ⟨_, rfl⟩, q⟩
  · cases (show v = Value.bool b from r1)
    exact wpAny_formatField_bool ⟨.str (if b then "True" else "False"), H1, I1.tok _, ⟨_, rfl⟩, q⟩
end
end KA
namespace KA
open PySem PySem.SeqAt
open AutoSeq1 (wpAny_loadPart')
open MeetsSeq MeetsSeq2 MeetsSeq3 SeqRoads2
section
variable {prog : Program} {w : World} {A : Around} {R : Result → Shared → Prop}
/-- two lists as long, read anew at each turn: the two items are told equal (then J goes on) or not (then F) -/
def LstI (prog : Program) (w : World) (A : Around) (E : Value → Shared → Prop) (p q : Addr) (N : Nat) (J : Nat → Shared → Prop) (F : Shared → Prop) : Prop :=
  ∀ i s, J i s → ∃ (xs ys : Array Value) (m m2 : Nat), s.heap.get? p = some { cls := .type "list", data := .seq xs m } ∧ s.heap.get? q = some { cls := .type "list", data := .seq ys m2 } ∧ xs.size = N ∧ ys.size = N ∧
    ∀ (g1 : i < xs.size) (g2 : i < ys.size), wpAny (model prog w) A.in1 (eqBool xs[i] ys[i]) (fun r s' => (r = true → J (i + 1) s') ∧ (r = false → F s' ∧ ∃ (xs ys : Array Value) (m m2 : Nat), s'.heap.get? p = some { cls := .type "list", data := .seq xs m } ∧ s'.heap.get? q = some { cls := .type "list", data := .seq ys m2 } ∧ xs.size = N ∧ ys.size = N)) E s
/-- op: 2 is ==, 3 is != ; what is told where all items are equal is no -/
theorem turnsB (op : Nat) (yes : Bool) (hop : (op = 2 ∧ yes = true) ∨ (op = 3 ∧ yes = false)) (p q : Addr) (N : Nat) (J : Nat → Shared → Prop) (F : Shared → Prop) (hJ : LstI prog w A (fun e s' => R (.error e) s') p q N J F)
    (done : ∀ s, J N s → R (.ok (.ret (.bool yes))) s) (fail : ∀ s, F s → R (.ok (.ret (.bool (!yes)))) s) : ∀ (k i : Nat), N - i = k → i ≤ N → ∀ s, J i s →
      wpAny (model prog w) A.in1 (Builtin.«list.__eq__.loop» ⟨[.ref p, .ref q, rawInt i, rawInt op], []⟩) (GQ.FinOf prog w A R) (fun e s' => R (.error e) s') s
  | 0, i, hk, hi, s, hs => by
    obtain ⟨xs, ys, m, m2, gp, gq, zp, zq, _⟩ := hJ _ _ hs
    have iN : i = N := by omega
    have last : R (.ok (.ret (.bool yes))) s := done s (iN ▸ hs)
    have n1 : xs[((i : Nat) : Int).toNat]? = none := by simp; omega
    have n2 : ys[((i : Nat) : Int).toNat]? = none := by simp; omega
    rcases hop with ⟨rfl, rfl⟩ | ⟨rfl, rfl⟩
    · obtain ⟨hh, gg, dd, kk, oo⟩ := s
      wp_walk using wpAny_loadPart' gp, wpAny_loadPart' gq
      rw [n1, n2]
      wp_walk using wpAny_loadPart' gp, wpAny_loadPart' gq
      show R (.ok (.ret (.bool (xs.size == ys.size)))) _
      rw [zp, zq]
      simpa using last
    · obtain ⟨hh, gg, dd, kk, oo⟩ := s
      wp_walk using wpAny_loadPart' gp, wpAny_loadPart' gq
      rw [n1, n2]
      wp_walk using wpAny_loadPart' gp, wpAny_loadPart' gq
      show R (.ok (.ret (.bool (xs.size != ys.size)))) _
      rw [zp, zq]
      simpa using last
  | k + 1, i, hk, hi, s, hs => by
    obtain ⟨xs, ys, m, m2, gp, gq, zp, zq, tn⟩ := hJ _ _ hs
    have ip : i < xs.size := by omega
    have iq : i < ys.size := by omega
    have tt := tn ip iq
    have n1 : xs[((i : Nat) : Int).toNat]? = some xs[i] := by simp [ip]
    have n2 : ys[((i : Nat) : Int).toNat]? = some ys[i] := by simp [iq]
    have up : ((i : Int) + 1) = ((i + 1 : Nat) : Int) := by omega
    have next := fun s2 h2 => turnsB op yes hop p q N J F hJ done fail k (i + 1) (by omega) (by omega) s2 h2
    rcases hop with ⟨rfl, rfl⟩ | ⟨rfl, rfl⟩
    · obtain ⟨hh, gg, dd, kk, oo⟩ := s
      wp_walk using wpAny_loadPart' gp, wpAny_loadPart' gq
      rw [n1, n2]
      refine wpAny_bind (wpAny_mono tt (fun r s2 h2 => ?_) fun _ _ x => x)
      cases r with
      | true =>
        have h3 := next s2 (h2.1 rfl)
        obtain ⟨hh2, gg2, dd2, kk2, oo2⟩ := s2
        wp_walk
        rw [up]
        exact ⟨plainId_quiet plain_eq_loop _, codeAny_builtin entry_eq_loop (by rw [Around.under_plainId plain_eq_loop _]; exact h3)⟩
      | false =>
        obtain ⟨hF, xs2, ys2, m3, m4, gp2, gq2, zp2, zq2⟩ := h2.2 rfl
        have h3 := fail s2 hF
        have n3 : xs2[((i : Nat) : Int).toNat]? = some (xs2[i]'(by omega)) := by simp
        have n4 : ys2[((i : Nat) : Int).toNat]? = some (ys2[i]'(by omega)) := by simp
        obtain ⟨hh2, gg2, dd2, kk2, oo2⟩ := s2
        wp_walk using wpAny_loadPart' gp2, wpAny_loadPart' gq2
        rw [n3, n4]
        wp_walk
        exact h3
    · obtain ⟨hh, gg, dd, kk, oo⟩ := s
      wp_walk using wpAny_loadPart' gp, wpAny_loadPart' gq
      rw [n1, n2]
      refine wpAny_bind (wpAny_mono tt (fun r s2 h2 => ?_) fun _ _ x => x)
      cases r with
      | true =>
        have h3 := next s2 (h2.1 rfl)
        obtain ⟨hh2, gg2, dd2, kk2, oo2⟩ := s2
        wp_walk
        rw [up]
        exact ⟨plainId_quiet plain_eq_loop _, codeAny_builtin entry_eq_loop (by rw [Around.under_plainId plain_eq_loop _]; exact h3)⟩
      | false =>
        obtain ⟨hF, xs2, ys2, m3, m4, gp2, gq2, zp2, zq2⟩ := h2.2 rfl
        have h3 := fail s2 hF
        have n3 : xs2[((i : Nat) : Int).toNat]? = some (xs2[i]'(by omega)) := by simp
        have n4 : ys2[((i : Nat) : Int).toNat]? = some (ys2[i]'(by omega)) := by simp
        obtain ⟨hh2, gg2, dd2, kk2, oo2⟩ := s2
        wp_walk using wpAny_loadPart' gp2, wpAny_loadPart' gq2
        rw [n3, n4]
        wp_walk
        exact h3
theorem listsB (ne yes : Bool) (hop : ne = !yes) (p q : Addr) (N : Nat) (J : Nat → Shared → Prop) (F : Shared → Prop) (hJ : LstI prog w A (fun e s' => R (.error e) s') p q N J F)
    (done : ∀ s, J N s → R (.ok (.ret (.bool yes))) s) (fail : ∀ s, F s → R (.ok (.ret (.bool (!yes)))) s) {s : Shared} (hs : J 0 s) :
    wpAny (model prog w) A.in1 ((if ne then Builtin.«list.__ne__» else Builtin.«list.__eq__») ⟨[.ref p, .ref q], []⟩) (GQ.FinOf prog w A R) (fun e s' => R (.error e) s') s := by
  obtain ⟨xs, ys, m, m2, gp, gq, zp, zq, _⟩ := hJ _ _ hs
  have same : ¬ (xs.size != ys.size) = true := by simp [zp, zq]
  have sub := AutoSeq1.sub_list_list
  cases yes with
  | true =>
    subst hop
    have all := turnsB (A := A) (R := R) 2 true (.inl ⟨rfl, rfl⟩) p q N J F hJ done fail _ 0 rfl (Nat.zero_le _) s hs
    obtain ⟨hh, gg, dd, kk, oo⟩ := s
    show wpAny _ _ (Builtin.«list.__eq__» ⟨[.ref p, .ref q], []⟩) _ _ _
    wp_walk using wpAny_loadPart' gp, wpAny_loadPart' gq
    exact ⟨plainId_quiet plain_eq_loop _, codeAny_builtin entry_eq_loop (by rw [Around.under_plainId plain_eq_loop _]; exact all)⟩
  | false =>
    subst hop
    have all := turnsB (A := A) (R := R) 3 false (.inr ⟨rfl, rfl⟩) p q N J F hJ done fail _ 0 rfl (Nat.zero_le _) s hs
    obtain ⟨hh, gg, dd, kk, oo⟩ := s
    show wpAny _ _ (Builtin.«list.__ne__» ⟨[.ref p, .ref q], []⟩) _ _ _
    wp_walk using wpAny_loadPart' gp, wpAny_loadPart' gq
    exact ⟨plainId_quiet plain_eq_loop _, codeAny_builtin entry_eq_loop (by rw [Around.under_plainId plain_eq_loop _]; exact all)⟩
/-- lists of unlike lengths -/
theorem listsN (ne : Bool) (p q : Addr) {xs ys : Array Value} {m m2 : Nat} {s : Shared} (gp : s.heap.get? p = some { cls := .type "list", data := .seq xs m }) (gq : s.heap.get? q = some { cls := .type "list", data := .seq ys m2 }) (h : xs.size ≠ ys.size)
    (fail : R (.ok (.ret (.bool ne))) s) : wpAny (model prog w) A.in1 ((if ne then Builtin.«list.__ne__» else Builtin.«list.__eq__») ⟨[.ref p, .ref q], []⟩) (GQ.FinOf prog w A R) (fun e s' => R (.error e) s') s := by
  have unl : (xs.size != ys.size) = true := by simpa using h
  have sub := AutoSeq1.sub_list_list
  cases ne with
  | true =>
    obtain ⟨hh, gg, dd, kk, oo⟩ := s
    show wpAny _ _ (Builtin.«list.__ne__» ⟨[.ref p, .ref q], []⟩) _ _ _
    wp_walk using wpAny_loadPart' gp, wpAny_loadPart' gq
    exact fail
  | false =>
    obtain ⟨hh, gg, dd, kk, oo⟩ := s
    show wpAny _ _ (Builtin.«list.__eq__» ⟨[.ref p, .ref q], []⟩) _ _ _
    wp_walk using wpAny_loadPart' gp, wpAny_loadPart' gq
    exact fail
end
end KA
namespace KA
open PySem PySem.SeqAt
open AutoSeq1 (wpAny_loadPart')
open MeetsSeq MeetsSeq2 MeetsSeq3 SeqRoads2
section
variable {prog : Program} {w : World} {A : Around} {R : Result → Shared → Prop}
theorem tupsB (ne : Bool) (p q : Addr) (xs ys : Array Value) (n n2 : Nat) (d1 d2 : Option Addr) (l1 l2 : Array (Option Value)) (J : Nat → Shared → Prop) (F : Shared → Prop)
    (turn : ∀ i (h1 : i < xs.size) (h2 : i < ys.size) s, J i s → wpAny (model prog w) A.in1 (eqBool xs[i] ys[i]) (fun r s' => (r = true → J (i + 1) s') ∧ (r = false → F s')) (fun e s' => R (.error e) s') s)
    (done : ∀ s, J (min xs.size ys.size) s → R (.ok (.ret (.bool (ne ^^ (xs.size == ys.size))))) s) (fail : ∀ s, F s → R (.ok (.ret (.bool ne))) s)
    {s : Shared} (gp : s.heap.get? p = some { cls := .type "tuple", dict := d1, data := .seq xs n, slots := l1 }) (gq : s.heap.get? q = some { cls := .type "tuple", dict := d2, data := .seq ys n2, slots := l2 }) (h : J 0 s) :
    wpAny (model prog w) A.in1 ((if ne then Builtin.«tuple.__ne__» else Builtin.«tuple.__eq__») ⟨[.ref p, .ref q], []⟩) (GQ.FinOf prog w A R) (fun e s' => R (.error e) s') s := by
  have sub := AutoSeq1.sub_tuple_tuple
  have hZ : (xs.toList.zip ys.toList).length = min xs.size ys.size := by simp
  have h0 := h
  have at_ : ∀ {i : Nat} {z : Value × Value} {rest : List (Value × Value)}, z :: rest = (xs.toList.zip ys.toList).drop i → ∃ (h1 : i < xs.size) (h2 : i < ys.size), z = (xs[i], ys[i]) ∧ rest = (xs.toList.zip ys.toList).drop (i + 1) := fun {i z rest} hz => by
    have lt : i < (xs.toList.zip ys.toList).length := by
      rcases Nat.lt_or_ge i (xs.toList.zip ys.toList).length with h' | h'
      · exact h'
      · rw [List.drop_of_length_le h'] at hz
        cases hz
    have h1 : i < xs.size := by omega
    have h2 : i < ys.size := by omega
    rw [List.drop_eq_getElem_cons lt] at hz
    injection hz with e1 e2
    exact ⟨h1, h2, by rw [e1]; simp, e2⟩
  have end_ : ∀ {i : Nat}, ([] : List (Value × Value)) = (xs.toList.zip ys.toList).drop i → i ≤ min xs.size ys.size → i = min xs.size ys.size := fun {i} hz hi => by
    rcases Nat.lt_or_ge i (xs.toList.zip ys.toList).length with h' | h'
    · rw [List.drop_eq_getElem_cons h'] at hz
      cases hz
    · omega
  cases ne with
  | false =>
    obtain ⟨hh, gg, dd, kk, oo⟩ := s
    show wpAny _ _ (Builtin.«tuple.__eq__» ⟨[.ref p, .ref q], []⟩) _ _ _
    wp_walk using wpAny_loadPart' gp, wpAny_loadPart' gq, wpAny_forIn_list _ (fun rest b s' => b.1 = none ∧ ∃ i, rest = (xs.toList.zip ys.toList).drop i ∧ i ≤ min xs.size ys.size ∧ J i s') _
    case turn =>
      rintro ⟨y, x⟩ rest b s' ⟨hb', i, hz, hi, hI⟩
      obtain ⟨h1, h2, e, hrest⟩ := at_ hz
      injection e with e1 e2
      subst e1 e2
      refine wpAny_bind (wpAny_mono (turn i h1 h2 s' hI) (fun r s2 q2 => ?_) fun _ _ x => x)
      cases r with
      | true =>
        wp_walk
        exact ⟨rfl, i + 1, hrest, by omega, q2.1 rfl⟩
      | false =>
        have h3 := fail s2 (q2.2 rfl)
        wp_walk
        exact h3
    case fin =>
      rintro ⟨b1, b2⟩ s' ⟨hb', i, hz, hi, hI⟩
      simp only at hb'
      subst hb'
      have hR := done s' (end_ hz hi ▸ hI)
      wp_walk
      simpa [Builtin.Tuple.tupleCompareSizes] using hR
    case h =>
      exact ⟨rfl, 0, rfl, Nat.zero_le _, h0⟩
  | true =>
    obtain ⟨hh, gg, dd, kk, oo⟩ := s
    show wpAny _ _ (Builtin.«tuple.__ne__» ⟨[.ref p, .ref q], []⟩) _ _ _
    wp_walk using wpAny_loadPart' gp, wpAny_loadPart' gq, wpAny_forIn_list _ (fun rest b s' => b.1 = none ∧ ∃ i, rest = (xs.toList.zip ys.toList).drop i ∧ i ≤ min xs.size ys.size ∧ J i s') _
    case turn =>
      rintro ⟨y, x⟩ rest b s' ⟨hb', i, hz, hi, hI⟩
      obtain ⟨h1, h2, e, hrest⟩ := at_ hz
      injection e with e1 e2
      subst e1 e2
      refine wpAny_bind (wpAny_mono (turn i h1 h2 s' hI) (fun r s2 q2 => ?_) fun _ _ x => x)
      cases r with
      | true =>
        wp_walk
        exact ⟨rfl, i + 1, hrest, by omega, q2.1 rfl⟩
      | false =>
        have h3 := fail s2 (q2.2 rfl)
        wp_walk
        exact h3
    case fin =>
      rintro ⟨b1, b2⟩ s' ⟨hb', i, hz, hi, hI⟩
      simp only at hb'
      subst hb'
      have hR := done s' (end_ hz hi ▸ hI)
      wp_walk
      simpa [Builtin.Tuple.tupleCompareSizes, bne] using hR
    case h =>
      exact ⟨rfl, 0, rfl, Nat.zero_le _, h0⟩
end
section
variable {prog : Program} {w : World} {A : Around} {E : Value → Shared → Prop} {s : Shared}
def opNe (ne : Bool) : CmpOp := if ne then .NotEq else .Eq
theorem rcL {p q : Addr} {N : Nat} {Q : Value → Shared → Prop} (ne : Bool) (hu : A.units < cLine) (J : Nat → Shared → Prop) (F : Shared → Prop) (hJ : LstI prog w A E p q N J F)
    (done : ∀ s, J N s → Q (.bool (!ne)) s) (fail : ∀ s, F s → Q (.bool ne) s) (hs : J 0 s) : wpAny (model prog w) A (richCompare (opNe ne) (.ref p) (.ref q)) Q E s := by
  obtain ⟨xs, ys, m, m2, gp, gq, _, _, _⟩ := hJ _ _ hs
  cases ne with
  | false =>
    refine wpAny_richCompare_same_room (op := .Eq) ⟨_, gp, rfl⟩ ⟨_, gq, rfl⟩ PySem.F.slot_list_eq (GQ.call_here PySem.F.slot_list_eq ⟨_, gp, rfl⟩ PySem.F.entry_list_eq (PySem.F.args_list_eq_2 _ _) ?_) hu
    exact listsB (R := wants (fun v s' => v ≠ .notImplemented ∧ Q v s') E) false true rfl p q N J F hJ (fun s' z => ⟨(fun x => nomatch x), done s' z⟩) (fun s' z => ⟨(fun x => nomatch x), fail s' z⟩) hs
  | true =>
    refine wpAny_richCompare_same_room (op := .NotEq) ⟨_, gp, rfl⟩ ⟨_, gq, rfl⟩ PySem.F.slot_list_ne (GQ.call_here PySem.F.slot_list_ne ⟨_, gp, rfl⟩ PySem.F.entry_list_ne (PySem.F.args_list_ne_2 _ _) ?_) hu
    exact listsB (R := wants (fun v s' => v ≠ .notImplemented ∧ Q v s') E) true false rfl p q N J F hJ (fun s' z => ⟨(fun x => nomatch x), done s' z⟩) (fun s' z => ⟨(fun x => nomatch x), fail s' z⟩) hs
theorem rcN {p q : Addr} {xs ys : Array Value} {m m2 : Nat} {Q : Value → Shared → Prop} (ne : Bool) (hu : A.units < cLine) (gp : s.heap.get? p = some { cls := .type "list", data := .seq xs m }) (gq : s.heap.get? q = some { cls := .type "list", data := .seq ys m2 }) (h : xs.size ≠ ys.size)
    (fail : Q (.bool ne) s) : wpAny (model prog w) A (richCompare (opNe ne) (.ref p) (.ref q)) Q E s := by
  cases ne with
  | false =>
    refine wpAny_richCompare_same_room (op := .Eq) ⟨_, gp, rfl⟩ ⟨_, gq, rfl⟩ PySem.F.slot_list_eq (GQ.call_here PySem.F.slot_list_eq ⟨_, gp, rfl⟩ PySem.F.entry_list_eq (PySem.F.args_list_eq_2 _ _) ?_) hu
    exact listsN (R := wants (fun v s' => v ≠ .notImplemented ∧ Q v s') E) false p q gp gq h ⟨(fun x => nomatch x), fail⟩
  | true =>
    refine wpAny_richCompare_same_room (op := .NotEq) ⟨_, gp, rfl⟩ ⟨_, gq, rfl⟩ PySem.F.slot_list_ne (GQ.call_here PySem.F.slot_list_ne ⟨_, gp, rfl⟩ PySem.F.entry_list_ne (PySem.F.args_list_ne_2 _ _) ?_) hu
    exact listsN (R := wants (fun v s' => v ≠ .notImplemented ∧ Q v s') E) true p q gp gq h ⟨(fun x => nomatch x), fail⟩
theorem rcT {p q : Addr} {xs ys : Array Value} {Q : Value → Shared → Prop} (ne : Bool) (hu : A.units < cLine) (J : Nat → Shared → Prop) (F : Shared → Prop) (hl : s.heap.IsTuple p xs) (hb : s.heap.IsTuple q ys)
    (turn : ∀ i (h1 : i < xs.size) (h2 : i < ys.size) s, J i s → wpAny (model prog w) A.in1 (eqBool xs[i] ys[i]) (fun r s' => (r = true → J (i + 1) s') ∧ (r = false → F s')) E s)
    (done : ∀ s, J (min xs.size ys.size) s → Q (.bool (ne ^^ (xs.size == ys.size))) s) (fail : ∀ s, F s → Q (.bool ne) s) (h : J 0 s) : wpAny (model prog w) A (richCompare (opNe ne) (.ref p) (.ref q)) Q E s := by
  obtain ⟨⟨cls, dd, data, sl⟩, ho, hc, n, hd⟩ := id hl
  obtain ⟨⟨cls2, dd2, data2, sl2⟩, ho2, hc2, n2, hd2⟩ := id hb
  simp only at hc hd hc2 hd2
  subst hc hd hc2 hd2
  cases ne with
  | false =>
    refine wpAny_richCompare_same_room (op := .Eq) ⟨_, ho, rfl⟩ ⟨_, ho2, rfl⟩ PySem.F.slot_tuple_eq (GQ.call_here PySem.F.slot_tuple_eq ⟨_, ho, rfl⟩ PySem.F.entry_tuple_eq (PySem.F.args_tuple_eq_2 _ _) ?_) hu
    exact tupsB (R := wants (fun v s' => v ≠ .notImplemented ∧ Q v s') E) false p q xs ys n n2 dd dd2 sl sl2 J F turn (fun s' z => ⟨(fun x => nomatch x), done s' z⟩) (fun s' z => ⟨(fun x => nomatch x), fail s' z⟩) ho ho2 h
  | true =>
    refine wpAny_richCompare_same_room (op := .NotEq) ⟨_, ho, rfl⟩ ⟨_, ho2, rfl⟩ PySem.F.slot_tuple_ne (GQ.call_here PySem.F.slot_tuple_ne ⟨_, ho, rfl⟩ PySem.F.entry_tuple_ne (PySem.F.args_tuple_ne_2 _ _) ?_) hu
    exact tupsB (R := wants (fun v s' => v ≠ .notImplemented ∧ Q v s') E) true p q xs ys n n2 dd dd2 sl sl2 J F turn (fun s' z => ⟨(fun x => nomatch x), done s' z⟩) (fun s' z => ⟨(fun x => nomatch x), fail s' z⟩) ho ho2 h
end
end KA
namespace KA
open PySem PySem.Spec PyProof.Rows L2
/-- two values, and what == tells of them -/
abbrev BEq2 := V → V → Bool → Hp → Prop
def MonB (D : BEq2) : Prop := ∀ x y b H H', Ext H H' → D x y b H → D x y b H'
def EqB (X : Cx) (n : Nat) (D : BEq2) : Prop :=
  ∀ (A : Around) (pins : List (Addr × Obj)) (s : Shared) (σ : L2.St) (H : Hp) (x y : V) (u v : Value) (b : Bool), Sub X n A → L2.Inv X pins σ H s → RelV x u → RelV y v → D x y b H →
    wpAny (model X.prog X.w) A (eqBool u v) (fun r s' => r = b ∧ ∃ H', L2.Inv X pins σ H' s' ∧ Ext H H') X.xe s
def RcB (X : Cx) (n : Nat) (ne : Bool) (D : BEq2) : Prop :=
  ∀ (A : Around) (pins : List (Addr × Obj)) (s : Shared) (σ : L2.St) (H : Hp) (x y : V) (u v : Value) (b : Bool), Sub X n A → L2.Inv X pins σ H s → RelV x u → RelV y v → D x y b H →
    wpAny (model X.prog X.w) A (richCompare (opNe ne) u v) (fun r s' => r = .bool (ne ^^ b) ∧ ∃ H', L2.Inv X pins σ H' s' ∧ Ext H H') X.xe s
section
variable {X : Cx} {n m : Nat} {D D' : BEq2}
theorem EqB.mono (h : EqB X n D) (hn : n ≤ m) : EqB X m D := fun A pins s σ H x y u v b sb => h A pins s σ H x y u v b (sb.mono hn)
theorem EqB.or (h : EqB X n D) (h' : EqB X n D') : EqB X n (fun x y b H => D x y b H ∨ D' x y b H) := fun A pins s σ H x y u v b sb I rx ry d => d.elim (fun d => h A pins s σ H x y u v b sb I rx ry d) (fun d => h' A pins s σ H x y u v b sb I rx ry d)
theorem MonB.or (h : MonB D) (h' : MonB D') : MonB (fun x y b H => D x y b H ∨ D' x y b H) := fun x y b H H' e d => d.elim (fun d => .inl (h x y b H H' e d)) fun d => .inr (h' x y b H H' e d)
/-- flat values -/
def BFlat : BEq2 := fun x y b _ => flatV x = true ∧ flatV y = true ∧ eqV x y = b
theorem monB_flat : MonB BFlat := fun _ _ _ _ _ _ d => d
theorem eqB_flat : EqB X 0 BFlat := by
  intro A pins s σ H x y u v b sb I rx ry d
  obtain ⟨fx, fy, e⟩ := d
  have q := eqAt_V (A := A) (s := s) rx ry fx fy
  rw [e] at q
  exact q X.prog X.w X.xe _ ⟨rfl, H, I, Ext.rfl'⟩
/-- item by item, as far as both go -/
def PrsB (D : BEq2) (xs ys : List V) (f : Nat → Bool) (H : Hp) : Prop := ∀ (i : Nat) x y, xs[i]? = some x → ys[i]? = some y → D x y (f i) H
theorem turnB (hD : MonB D) (h : EqB X n D) {A : Around} (sb : Sub X (n + 1) A) {pins : List (Addr × Obj)} {σ : L2.St} {H : Hp} {xs ys : List V} {its its2 : List Value} {f : Nat → Bool} (p : PrsB D xs ys f H) (r : Vals xs its) (r2 : Vals ys its2)
    (i : Nat) (h1 : i < its.toArray.size) (h2 : i < its2.toArray.size) (s' : Shared) (l : LoopI X pins σ H s') :
    wpAny (model X.prog X.w) A.in1 (eqBool its.toArray[i] its2.toArray[i]) (fun r s2 => r = f i ∧ LoopI X pins σ H s2) X.xe s' := by
  obtain ⟨H1, I1, e1⟩ := l
  have l1 : i < its.length := by simpa using h1
  have l2 : i < its2.length := by simpa using h2
  have k1 : i < xs.length := by rw [r.length]; exact l1
  have k2 : i < ys.length := by rw [r2.length]; exact l2
  obtain ⟨u, hu, ru⟩ := r.get (List.getElem?_eq_getElem k1)
  obtain ⟨v, hv, rv⟩ := r2.get (List.getElem?_eq_getElem k2)
  have g1 : its.toArray[i] = u := by
    rw [List.getElem?_eq_getElem l1] at hu
    simpa using Option.some.inj hu
  have g2 : its2.toArray[i] = v := by
    rw [List.getElem?_eq_getElem l2] at hv
    simpa using Option.some.inj hv
  rw [g1, g2]
  refine wpAny_mono (h A.in1 pins s' σ H1 _ _ u v _ sb.in1 I1 ru rv (hD _ _ _ _ _ e1 (p i _ _ (List.getElem?_eq_getElem k1) (List.getElem?_eq_getElem k2)))) (fun r s2 q => ?_) fun _ _ x => x
  obtain ⟨hr, H2, I2, e2⟩ := q
  exact ⟨hr, H2, I2, e1.trans e2⟩
def allF (N : Nat) (f : Nat → Bool) : Bool := (List.range N).all f
theorem allF_true {N : Nat} {f : Nat → Bool} (h : ∀ j, j < N → f j = true) : allF N f = true := by
  unfold allF
  rw [List.all_eq_true]
  exact fun j hj => h j (List.mem_range.mp hj)
theorem allF_false {N j : Nat} {f : Nat → Bool} (h : j < N) (e : f j = false) : allF N f = false := by
  unfold allF
  rw [List.all_eq_false]
  exact ⟨j, List.mem_range.mpr h, by rw [e]; exact Bool.false_ne_true⟩
def BList (D : BEq2) : BEq2 := fun x y b H => ∃ (p q : Addr) (xs ys : List V) (f : Nat → Bool), x = .ref p ∧ y = .ref q ∧ H p = some (.lst xs) ∧ H q = some (.lst ys) ∧ (xs.length = ys.length → PrsB D xs ys f H) ∧ b = (decide (xs.length = ys.length) && allF xs.length f)
def BTup (K : PySem.W.Frag) (D : BEq2) : BEq2 := fun x y b H => ∃ (p q : Addr) (xs ys : List V) (f : Nat → Bool), x = .ref p ∧ y = .ref q ∧ SqT K H p xs ∧ SqT K H q ys ∧ PrsB D xs ys f H ∧ b = (decide (xs.length = ys.length) && allF xs.length f)
theorem PrsB.mon (hD : MonB D) {xs ys : List V} {f : Nat → Bool} {H H' : Hp} (e : Ext H H') (p : PrsB D xs ys f H) : PrsB D xs ys f H' := fun i x y h1 h2 => hD x y _ H H' e (p i x y h1 h2)
theorem monB_list (hD : MonB D) : MonB (BList D) := fun x y b H H' e d => by
  obtain ⟨p, q, xs, ys, f, hx, hy, h1, h2, pr, hb⟩ := d
  exact ⟨p, q, xs, ys, f, hx, hy, e _ _ h1, e _ _ h2, fun z => (pr z).mon hD e, hb⟩
theorem monB_tup {K : PySem.W.Frag} (hD : MonB D) : MonB (BTup K D) := fun x y b H H' e d => by
  obtain ⟨p, q, xs, ys, f, hx, hy, h1, h2, pr, hb⟩ := d
  exact ⟨p, q, xs, ys, f, hx, hy, h1.ext e, h2.ext e, pr.mon hD e, hb⟩
theorem rcB_list (ne : Bool) (hD : MonB D) (h : EqB X n D) : RcB X (n + 1) ne (BList D) := by
  intro A pins s σ H x y u v b sb I rx ry d
  obtain ⟨p, q, xs, ys, f, rfl, rfl, hp, hq, pr, rfl⟩ := d
  cases rx
  cases ry
  by_cases hl : xs.length = ys.length
  · have pr := pr hl
    have look : ∀ s', LoopI X pins σ H s' → ∃ (as bs : List Value) (m m2 : Nat), Vals xs as ∧ Vals ys bs ∧ s'.heap.get? p = some { cls := .type "list", data := .seq as.toArray m } ∧ s'.heap.get? q = some { cls := .type "list", data := .seq bs.toArray m2 } ∧ as.toArray.size = xs.length ∧ bs.toArray.size = xs.length := fun s' z => by
      obtain ⟨H1, I1, e1⟩ := id z
      obtain ⟨_, its, k, r, e⟩ := I1.hok p _ (e1 _ _ hp)
      obtain ⟨_, its2, k2, r2, e2⟩ := I1.hok q _ (e1 _ _ hq)
      exact ⟨its, its2, k, k2, r, r2, e, e2, by rw [List.size_toArray, ← r.length], by rw [List.size_toArray, ← r2.length, hl]⟩
    refine rcL (N := xs.length) ne sb.room.units0 (fun i s' => LoopI X pins σ H s' ∧ ∀ j, j < i → f j = true) (fun s' => LoopI X pins σ H s' ∧ ∃ j, j < xs.length ∧ f j = false) (fun i s' z => ?_) (fun s' z => ?_) (fun s' z => ?_) ⟨⟨H, I, Ext.rfl'⟩, fun j hj => absurd hj (Nat.not_lt_zero _)⟩
    · obtain ⟨z, hf⟩ := z
      obtain ⟨as, bs, k, k2, r, r2, e, e2, z1, z2⟩ := look s' z
      refine ⟨_, _, k, k2, e, e2, z1, z2, fun g1 g2 => wpAny_mono (turnB hD h sb pr r r2 i g1 g2 s' z) (fun r s2 q2 => ?_) fun _ _ x => x⟩
      obtain ⟨rfl, q2⟩ := q2
      refine ⟨fun t => ⟨q2, fun j hj => ?_⟩, fun t => ⟨⟨q2, i, by omega, t⟩, ?_⟩⟩
      · by_cases hji : j = i
        · rw [hji]; exact t
        · exact hf j (by omega)
      · obtain ⟨as, bs, k, k2, r, r2, e, e2, z1, z2⟩ := look s2 q2
        exact ⟨_, _, k, k2, e, e2, z1, z2⟩
    · obtain ⟨⟨H1, z⟩, hf⟩ := z
      refine ⟨?_, H1, z⟩
      rw [decide_eq_true hl, allF_true hf]
      cases ne <;> rfl
    · obtain ⟨⟨H1, z⟩, j, hj, e⟩ := z
      refine ⟨?_, H1, z⟩
      rw [allF_false hj e, Bool.and_false, Bool.xor_false]
  · obtain ⟨_, its, k, r, e⟩ := I.hok p _ hp
    obtain ⟨_, its2, k2, r2, e2⟩ := I.hok q _ hq
    refine rcN ne sb.room.units0 e e2 (by rw [List.size_toArray, List.size_toArray, ← r.length, ← r2.length]; exact hl) ⟨?_, H, I, Ext.rfl'⟩
    rw [decide_eq_false hl, Bool.false_and, Bool.xor_false]
theorem rcB_tup (ne : Bool) (hD : MonB D) (h : EqB X n D) : RcB X (n + 1) ne (BTup X.K D) := by
  intro A pins s σ H x y u v b sb I rx ry d
  obtain ⟨p, q, xs, ys, f, rfl, rfl, hp, hq, pr, rfl⟩ := d
  cases rx
  cases ry
  obtain ⟨its, r, e, z⟩ := I.tuple hp
  obtain ⟨its2, r2, e2, z2⟩ := I.tuple hq
  have w1 : its.toArray.size = xs.length := by rw [List.size_toArray, ← r.length]
  have w2 : its2.toArray.size = ys.length := by rw [List.size_toArray, ← r2.length]
  refine rcT ne sb.room.units0 (fun i s' => LoopI X pins σ H s' ∧ ∀ j, j < i → f j = true) (fun s' => LoopI X pins σ H s' ∧ ∃ j, j < xs.length ∧ f j = false) e e2 (fun i g1 g2 s' z => ?_) (fun s' z => ?_) (fun s' z => ?_) ⟨⟨H, I, Ext.rfl'⟩, fun j hj => absurd hj (Nat.not_lt_zero _)⟩
  · obtain ⟨z, hf⟩ := z
    refine wpAny_mono (turnB hD h sb pr r r2 i g1 g2 s' z) (fun r s2 q2 => ?_) fun _ _ x => x
    obtain ⟨rfl, q2⟩ := q2
    refine ⟨fun t => ⟨q2, fun j hj => ?_⟩, fun t => ⟨q2, i, by omega, t⟩⟩
    by_cases hji : j = i
    · rw [hji]; exact t
    · exact hf j (by omega)
  · obtain ⟨⟨H1, z⟩, hf⟩ := z
    refine ⟨?_, H1, z⟩
    rw [w1, w2] at hf ⊢
    by_cases hl : xs.length = ys.length
    · rw [decide_eq_true hl, allF_true (fun j hj => hf j (by omega)), hl]
      simp
    · rw [decide_eq_false hl]
      have : (xs.length == ys.length) = false := by simpa using hl
      rw [this]
      rfl
  · obtain ⟨⟨H1, z⟩, j, hj, e⟩ := z
    refine ⟨?_, H1, z⟩
    rw [allF_false hj e, Bool.and_false, Bool.xor_false]
/-- x == y, x != y as expressions -/
def rEqB (ne : Bool) (D : BEq2) : R2 := fun x y H Q => ∃ b, D x y b H ∧ ∀ H', Ext H H' → Q (.bl (ne ^^ b)) H'
theorem op_eqB (h : RcB X n false D) (hr : Room n X.A) : OpR X (compareOp .Eq) (rEqB false D) := by
  intro pins s σ H x y v u Q I rx ry hq
  obtain ⟨b, d, q⟩ := hq
  show wpAny (model X.prog X.w) X.A (richCompare .Eq v u) (EP X pins σ Q) X.xe s
  refine wpAny_mono (h X.A pins s σ H x y v u b ⟨hr, rfl⟩ I rx ry d) (fun r s' z => ?_) fun _ _ x => x
  obtain ⟨rfl, H', I', e⟩ := z
  exact ⟨.bl _, H', I', rfl, q H' e⟩
theorem op_neB (h : RcB X n true D) (hr : Room n X.A) : OpR X (compareOp .NotEq) (rEqB true D) := by
  intro pins s σ H x y v u Q I rx ry hq
  obtain ⟨b, d, q⟩ := hq
  show wpAny (model X.prog X.w) X.A (richCompare .NotEq v u) (EP X pins σ Q) X.xe s
  refine wpAny_mono (h X.A pins s σ H x y v u b ⟨hr, rfl⟩ I rx ry d) (fun r s' z => ?_) fun _ _ x => x
  obtain ⟨rfl, H', I', e⟩ := z
  exact ⟨.bl _, H', I', rfl, q H' e⟩
end
end KA
namespace KA
open PySem PySem.Spec PySem.W PyProof.Rows
section
variable {prog : Program} {w : World} {A : Around} {E : Value → Shared → Prop} {s : Shared} {K : Frag} {x C f : Addr} {ox : Obj} {od : Option Obj}
theorem none_eq_ref {Q : Value → Shared → Prop} (h : Q .notImplemented s) : wpAny (model prog w) A (call (.builtin "NoneType.__eq__") [.none, .ref x]) Q E s := by
  refine wpAny_call_entry PySem.F.slot_NoneType_eq (typeIs_none s) PySem.F.entry_NoneType_eq ?_ (PySem.F.args_NoneType_eq_2 _ _)
  unfold Builtin.«NoneType.__eq__»
  wp_walk
  exact ⟨_, rfl, h⟩
/-- None == x, x an instance whose class has its own == : that one is asked -/
theorem cmp_none {Q : Value → Shared → Prop} (hu : A.units < cLine) (X : K.In s.heap) (I : InstAt s.heap x ox C od) (hn : subIn K (.ref C) (.type "NoneType") = some false)
    (hs : findIn K (.ref C) "__eq__" = some (some (.ref f))) (hf : isFn K (.ref f) = true)
    (h : wpAny (model prog w) A (call (.ref f) [.ref x, .none]) (PySem.W.CmpBack Q) E s) : wpAny (model prog w) A (richCompare .Eq .none (.ref x)) Q E s := by
  have one : wpAny (model prog w) A (tryCompare (.ref x) "__eq__" .none) (fun r s' => ∃ v, r = some v ∧ Q v s') E s := by
    unfold tryCompare
    refine wpAny_bind (ifBound_K X I hs hf (wpAny_mono h (fun v s' hv => ?_) fun _ _ e => e))
    cases v <;> first | exact hv.elim | exact wpAny_pure ⟨_, rfl, hv⟩
  have two : wpAny (model prog w) A (tryCompare .none "__eq__" (.ref x)) (fun r s' => r = none ∧ s' = s) E s := by
    unfold tryCompare
    refine wpAny_bind (wpAny_callSpecialIfBound?_slot (name := (cmpInfo .Eq).2.1) (typeIs_none s) PySem.F.slot_NoneType_eq (none_eq_ref ?_))
    exact wpAny_pure ⟨rfl, rfl⟩
  unfold richCompare
  refine wpAny_holding (wpAny_bind (wpAny_cRoomFor hu ?_))
  rw [show oneThing? .Eq .none (.ref x) = none from rfl]
  refine wpAny_bind (wpAny_typeOf (typeIs_none s) (wpAny_bind (I.type.here ?_)))
  refine PySem.W.KFB.if_so rfl (wpAny_bind ((looks_subIn X hn).here ?_))
  refine PySem.W.KFB.if_not rfl ?_
  refine wpAny_bind (wpAny_mono two (fun r s' z => ?_) fun _ _ e => e)
  obtain ⟨rfl, rfl⟩ := z
  refine PySem.W.KFB.if_so rfl (wpAny_bind (wpAny_mono one (fun r s' z => ?_) fun _ _ e => e))
  obtain ⟨v, rfl, hq⟩ := z
  exact wpAny_pure hq
end
end KA

namespace KA
open PySem PySem.Spec PyProof.Rows L2
/-- eqBool of what is not one thing, by the rich comparison -/
theorem eqBool_by {prog : Program} {w : World} {A : Around} {E : Value → Shared → Prop} {s : Shared} {u v : Value} {Q : Bool → Shared → Prop} (hu : (∃ a, u = .ref a) ∨ u = .none) (hne : (u == v) = false)
    (h : wpAny (model prog w) A (richCompare .Eq u v) (fun r s' => ∃ b, r = .bool b ∧ Q b s') E s) : wpAny (model prog w) A (eqBool u v) Q E s := by
  unfold eqBool
  refine wpAny_holding ?_
  refine wpAny_ite_split (fun hab => by rw [hne] at hab; cases hab) (fun _ => ?_)
  rcases hu with ⟨a, rfl⟩ | rfl
  · refine wpAny_bind (wpAny_mono h (fun r s' hv => ?_) fun _ _ x => x)
    obtain ⟨b, rfl, q⟩ := hv
    exact wpAny_truthy_bool q
  · refine wpAny_bind (wpAny_mono h (fun r s' hv => ?_) fun _ _ x => x)
    obtain ⟨b, rfl, q⟩ := hv
    exact wpAny_truthy_bool q
/-- what an own == promises: R tells its answer -/
def spEqO (R : Addr → V → Bool → Hp → Prop) : Sp := fun vs H Q _ => ∃ (a : Addr) (y : V) (b : Bool), vs = [.ref a, y] ∧ R a y b H ∧ ∀ H', Ext H H' → Q (.bl b) H'
section
variable {X : Cx} {n : Nat} {CX : CXT} {C f : Addr} {fd : FuncData} {ps : List Str} {R : Addr → V → Bool → Hp → Prop} {E : XK}
theorem run_eqO {A : Around} {pins : List (Addr × Obj)} {σ : L2.St} {H : Hp} {s : Shared} {a : Addr} {y : V} {v : Value} {b : Bool} (F : FnOk X.prog X.w X.K X.mg X.base CX n f fd ps (spEqO R)) (hb : Binds X.K fd ps []) (hx : Passes CX X E) (sb : Sub X n A) (I : L2.Inv X pins σ H s)
    (ry : RelV y v) (d : R a y b H) : wpAny (model X.prog X.w) A (call (.ref f) [.ref a, v]) (PySem.W.CmpBack fun r s' => r = .bool b ∧ ∃ H', L2.Inv X pins σ H' s' ∧ Ext H H') X.xe s := by
  have hsp : spEqO R [.ref a, y] H (fun z H' => z = .bl b ∧ Ext H H') E := ⟨a, y, b, rfl, d, fun H' e => ⟨rfl, e⟩⟩
  have e0 : Env0 X.prog X.w X.K X.mg X.base A X.stack s H := by
    have e := I.env0
    exact ⟨by rw [sb.fr]; exact e.frames, e.mod, e.bs, e.bsz, e.funs, e.frf, e.hok, e.bare⟩
  have hl := F.len _ _ _ _ hsp
  have r2 : Vals [V.ref a, y] [Value.ref a, v] := .cons rfl (.cons ry .nil)
  refine wpAny_call (codeAny_mono (F.run A X.stack s H ⟨[.ref a, v], []⟩ [.ref a, v] [.ref a, y] _ E sb.room e0 (by
    have := hb s [.ref a, v] I.kIn (by simpa using hl)
    simpa using this) r2 hsp) fun r s' hq => ?_)
  cases r with
  | error e => exact hx pins σ H s e s' I hq
  | ok fl =>
    cases fl with
    | ret z =>
      obtain ⟨z, H', I', rz, ez, ex⟩ := I.after hq
      subst ez
      cases rz
      exact ⟨rfl, H', I', ex⟩
    | next => exact False.elim hq
    | brk => exact False.elim hq
    | cont => exact False.elim hq
/-- an instance of the class at C beside anything, or None beside an instance -/
def BOwn (K : PySem.W.Frag) (C : Addr) (R : Addr → V → Bool → Hp → Prop) : BEq2 := fun x y b H =>
  (∃ (a dx : Addr) (fs : List (Str × V)) (t : Value), x = .ref a ∧ H a = some (.ins C dx fs) ∧ TyX K H y t ∧ PySem.W.notFirst K C t = true ∧ R a y b H ∧ (y = .ref a → b = true)) ∨
  ∃ (a dx : Addr) (fs : List (Str × V)), x = .non ∧ y = .ref a ∧ H a = some (.ins C dx fs) ∧ R a .non b H
theorem rcB_own (F : FnOk X.prog X.w X.K X.mg X.base CX n f fd ps (spEqO R)) (hs : PySem.W.findIn X.K (.ref C) "__eq__" = some (some (.ref f))) (hf : PySem.W.isFn X.K (.ref f) = true) (hb : Binds X.K fd ps []) (hx : Passes CX X E)
    (hn : PySem.W.subIn X.K (.ref C) (.type "NoneType") = some false) : RcB X n false (BOwn X.K C R) := by
  intro A pins s σ H x y u v b sb I rx ry d
  have fin : (false ^^ b) = b := Bool.false_xor b
  rw [fin]
  rcases d with ⟨a, dx, fs, t, rfl, ha, ty, nf, hR, _⟩ | ⟨a, dx, fs, rfl, rfl, ha, hR⟩
  · cases rx
    obtain ⟨mA, J, _⟩ := ins_get I.hok ha
    obtain ⟨od, J, _⟩ := J.look
    obtain ⟨Pz, Z, p, _⟩ := kit_of I ry ty
    obtain ⟨m, hF⟩ := I.fr
    exact PySem.W.cmp_K (op := .Eq) (tb := t) sb.room.units0 hF I.ok.mod.kin J (Z.ty _ _ I.kIn p) nf hs hf (run_eqO F hb hx sb I ry hR)
  · cases rx
    cases ry
    obtain ⟨mA, J, _⟩ := ins_get I.hok ha
    obtain ⟨od, J, _⟩ := J.look
    exact cmp_none sb.room.units0 I.kIn J hn hs hf (run_eqO (y := .non) F hb hx sb I rfl hR)
theorem eqB_own (F : FnOk X.prog X.w X.K X.mg X.base CX n f fd ps (spEqO R)) (hs : PySem.W.findIn X.K (.ref C) "__eq__" = some (some (.ref f))) (hf : PySem.W.isFn X.K (.ref f) = true) (hb : Binds X.K fd ps []) (hx : Passes CX X E)
    (hn : PySem.W.subIn X.K (.ref C) (.type "NoneType") = some false) : EqB X n (BOwn X.K C R) := by
  intro A pins s σ H x y u v b sb I rx ry d
  by_cases hsame : (u == v) = true
  · have e := eq_of_beq hsame
    subst e
    have hb1 : b = true := by
      rcases d with ⟨a, dx, fs, t, rfl, ha, ty, nf, hR, h⟩ | ⟨a, dx, fs, rfl, rfl, ha, hR⟩
      · cases rx
        refine h ?_
        cases y with
        | ref c =>
          cases ry
          rfl
        | non => cases ry
        | bl _ => cases ry
        | int _ => obtain ⟨_, z⟩ := ry; cases z
        | str _ => obtain ⟨_, z⟩ := ry; cases z
        | byt _ => obtain ⟨_, z⟩ := ry; cases z
        | flt _ => obtain ⟨_, z⟩ := ry; cases z
        | ty _ => cases ry
      · cases rx
        cases ry
    rw [hb1]
    exact SeqAt.EqAt.same (A := A) (s := s) u X.prog X.w X.xe _ ⟨rfl, H, I, Ext.rfl'⟩
  · have hu : (∃ a, u = .ref a) ∨ u = .none := by
      rcases d with ⟨a, dx, fs, t, rfl, ha, ty, nf, hR, h⟩ | ⟨a, dx, fs, rfl, rfl, ha, hR⟩
      · cases rx
        exact .inl ⟨_, rfl⟩
      · cases rx
        exact .inr rfl
    refine eqBool_by hu (by simpa using hsame) (wpAny_mono (rcB_own F hs hf hb hx hn A pins s σ H x y u v b sb I rx ry d) (fun r s' q => ?_) fun _ _ x => x)
    obtain ⟨hr, q⟩ := q
    exact ⟨b, by rw [hr, Bool.false_xor], rfl, q⟩
theorem monB_own {K : PySem.W.Frag} (hR : ∀ a y b H H', Ext H H' → R a y b H → R a y b H') : MonB (BOwn K C R) := fun x y b H H' e d => by
  rcases d with ⟨a, dx, fs, t, hx, ha, ty, nf, r, h⟩ | ⟨a, dx, fs, hx, hy, ha, r⟩
  · exact .inl ⟨a, dx, fs, t, hx, e _ _ ha, tyx_same e ty, nf, hR _ _ _ _ _ e r, h⟩
  · exact .inr ⟨a, dx, fs, hx, hy, e _ _ ha, hR _ _ _ _ _ e r⟩
end
end KA
namespace KA
open PySem PySem.Spec PyProof.Rows L2
section
variable {prog : Program} {w : World} {A : Around} {E : Value → Shared → Prop} {s : Shared}
theorem back_adjust (n : Nat) : Builtin.Slice.sliceAdjust none none (-1) (n : Int) = ((n : Int) - 1, -1) := rfl
theorem back_places (n : Nat) : Builtin.Slice.slicePlaces ((n : Int) - 1) (-1) (-1) = n := by
  unfold Builtin.Slice.slicePlaces
  rw [if_neg (by decide)]
  by_cases h : n = 0
  · subst h; rfl
  · rw [if_pos (by omega)]
    have e : ((n : Int) - 1 - -1 - 1) / (- -1) = (n : Int) - 1 := by
      rw [show (- -1 : Int) = 1 from rfl, Int.ediv_one]
      omega
    rw [e]
    omega
theorem back_pick (xs : Array Value) : ((List.range xs.size).filterMap fun (k : Nat) => xs[(((xs.size : Nat) : Int) - 1 + (k : Int) * (-1)).toNat]?).toArray = xs.toList.reverse.toArray := by
  congr 1
  have key : ∀ n, n ≤ xs.size → ((List.range n).filterMap fun (k : Nat) => xs[(((xs.size : Nat) : Int) - 1 + (k : Int) * (-1)).toNat]?) = xs.toList.reverse.take n := by
    intro n
    induction n with
    | zero => intro _; rfl
    | succ n ih =>
      intro hn
      have e : (((xs.size : Nat) : Int) - 1 + (n : Int) * (-1)).toNat = xs.size - 1 - n := by omega
      have e2 : xs.toList.reverse[n]? = some (xs[xs.size - 1 - n]'(by omega)) := by
        rw [List.getElem?_reverse (by rw [Array.length_toList]; omega)]
        simp
      rw [List.range_succ, List.filterMap_append, ih (by omega), List.take_add_one, e2, List.filterMap_cons, e, Array.getElem?_eq_getElem (by omega)]
      rfl
  rw [key xs.size (Nat.le_refl _), List.take_of_length_le (by rw [List.length_reverse, Array.length_toList]; exact Nat.le_refl _)]
theorem back_applied {sl : Addr} {vk : Value} {n : Nat} {Q : Int × Int × Nat → Shared → Prop} {vl vu : Value} (hs : s.heap.IsSliceOf sl vl vu vk) (pl : IsPart vl none) (pu : IsPart vu none) (pk : IsPart vk (some (-1)))
    (h : Q ((n : Int) - 1, -1, n) s) : wpAny (model prog w) A (Builtin.Slice.sliceApplied (.ref sl) (pure (n : Int))) Q E s := by
  obtain ⟨os, hos, hcs, hds⟩ := id hs
  unfold Builtin.Slice.sliceApplied Builtin.Slice.sliceFields
  refine wpAny_bind (wpAny_bind (wpAny_field hos hds (x := vl) rfl (wpAny_bind (wpAny_field hos hds (x := vu) rfl (wpAny_bind (wpAny_field hos hds (x := vk) rfl (wpAny_pure ?_)))))))
  refine wpAny_bind (HT.slicePart_ pk ?_)
  show wpAny _ _ (if ((-1 : Int) == 0) = true then _ else _) _ _ s
  rw [if_neg (by decide)]
  refine wpAny_bind (HT.slicePart_ pl (wpAny_bind (HT.slicePart_ pu (wpAny_bind (wpAny_pure ?_)))))
  show wpAny _ _ (match Builtin.Slice.sliceAdjust none none (-1) (n : Int) with | (lo, hi) => pure (lo, (-1 : Int), Builtin.Slice.slicePlaces lo hi (-1))) _ _ s
  rw [back_adjust]
  show wpAny _ _ (pure ((n : Int) - 1, (-1 : Int), Builtin.Slice.slicePlaces ((n : Int) - 1) (-1) (-1))) _ _ s
  rw [back_places]
  exact wpAny_pure h
/-- t[::-1] of a tuple -/
theorem back_tuple {t sl : Addr} {items : Array Value} {vl vu vk : Value} {Q : Value → Shared → Prop} (ht : IsTup s.heap t items) (hs : s.heap.IsSliceOf sl vl vu vk) (pl : IsPart vl none) (pu : IsPart vu none) (pk : IsPart vk (some (-1)))
    (h : Q (.ref s.heap.objs.size) { s with heap := s.heap.push { cls := .type "tuple", data := .seq items.toList.reverse.toArray } }) (hsz : items.size ≤ sizeLine) : wpAny (model prog w) A (getItem (.ref t) (.ref sl)) Q E s := by
  have hok : sizeOk (.seq items.toList.reverse.toArray) := by
    show items.toList.reverse.toArray.size ≤ sizeLine
    rw [List.size_toArray, List.length_reverse, Array.length_toList]
    exact hsz
  obtain ⟨os, hos, hcs, hds⟩ := id hs
  have hTs : s.TypeIs (.ref sl) "slice" := ⟨os, hos, hcs⟩
  unfold getItem
  try with_reducible refine wpAny_holding ?_
  first | refine wpAny_bind (wpAny_pure ?_) | skip
  refine wpAny_bind (wpAny_sequenceKey ht.typeIs (by decide) ?_)
  refine wpAny_bind (wpAny_callSpecial?_slot (name := Str.ofString "__getitem__") ht.typeIs PyProof.Rows.slot_tuple_getitem
    (wpAny_call_entry PyProof.Rows.slot_tuple_getitem ht.typeIs PyProof.Rows.entry_tuple_getitem ?_ (PyProof.Rows.args_tuple_getitem _ _)))
  show wpAny _ _ (Builtin.Tuple.tupleItemsOf (.ref t) >>= _) _ _ s
  refine wpAny_bind (PyProof.Rows.tupleItemsOf_ ht (wpAny_bind (wpAny_typeOf hTs ?_)))
  rw [if_pos (by decide)]
  refine wpAny_bind (back_applied (n := items.size) hs pl pu pk ?_)
  have hno : ¬ ((((items.size : Nat) : Int) - 1 == 0 && (-1 : Int) == 1 && items.size == items.size) = true) := by
    intro q
    rw [Bool.and_eq_true, Bool.and_eq_true] at q
    exact absurd q.1.2 (by decide)
  show wpAny _ _ (if (((items.size : Nat) : Int) - 1 == 0 && (-1 : Int) == 1 && items.size == items.size) = true then _ else _) _ _ s
  rw [if_neg hno, back_pick]
  first
    | exact wpAny_bind (m := Builtin.Tuple.tupleExact _) (wpAny_newObj_type (wpAny_pure ⟨_, rfl, wpAny_pure h⟩) hok)
    | exact wpAny_bind (m := Builtin.Tuple.tupleExact _) (wpAny_newObj_type (wpAny_bind (wpAny_pure (wpAny_pure ⟨_, rfl, wpAny_pure h⟩))) hok)
    | exact wpAny_bind (wpAny_bind (m := Builtin.Tuple.tupleExact _) (wpAny_newObj_type (wpAny_pure (wpAny_pure ⟨_, rfl, wpAny_pure h⟩)) hok))
    | exact wpAny_bind (wpAny_bind (m := Builtin.Tuple.tupleExact _) (wpAny_newObj_type (wpAny_pure ⟨_, rfl, wpAny_pure h⟩) hok))
end
section
variable {X : Cx}
def tRevT (K : PySem.W.Frag) (te : TE) : TE := fun σ H Q => te σ H fun x H1 => ∃ a xs, x = .ref a ∧ SqT K H1 a xs ∧ ∀ p, H1 p = none → Q (.ref p) (upd H1 p (.tup xs.reverse))
theorem pe_revT {e : Expr} {te : TE} {k : Nat} {p1 p2 p3 pos : Pos} (he : PE X e te) : PE X (.Subscript e (.Slice none none (some (.UnaryOp .USub (.Constant (.int 1) k p1) p2)) p3) pos) (tRevT X.K te) := by
  refine ⟨fun pins s σ H Q I h => ?_⟩
  refine Subscript_ (thn (he.run pins s σ H _ I h) fun v s1 ⟨x, H1, I1, r1, q1⟩ => ?_)
  obtain ⟨a, xs, ex, hx, q⟩ := q1
  subst ex
  cases r1
  have part : PO X (some (.UnaryOp .USub (.Constant (.int 1) k p1) p2)) (tPart (tUn (rU fun i => .int (-i)) (tC (.int 1)))) := po_some (pe_un un_neg pe_int)
  refine wpAny_Slice (thn (po_none.run pins s1 σ H1 (fun o Hx => o = none ∧ Hx = H1) I1 ⟨rfl, rfl⟩) fun vl s2 ⟨l, H2, I2, pl, el, e2⟩ => ?_)
  subst el e2
  refine thn (po_none.run pins s2 σ H2 (fun o Hx => o = none ∧ Hx = H2) I2 ⟨rfl, rfl⟩) fun vu s3 ⟨u, H3, I3, pu, eu, e3⟩ => ?_
  subst eu e3
  refine thn (part.run pins s3 σ H3 (fun o Hx => o = some (-1) ∧ Hx = H3) I3 ⟨1, rfl, -1, rfl, rfl, rfl⟩) fun vs s4 ⟨o, H4, I4, ps, eo, e4⟩ => ?_
  subst eo e4
  have J : L2.Inv X pins σ H4 { s4 with heap := s4.heap.push { cls := .type "slice", data := .fields #[vl, vu, vs] } } := I4.kept (t' := s4.toks) fun b ob q => Heap.get?_push_of_some _ q
  obtain ⟨its, r, ht, hz⟩ := J.tuple hx
  have hlen := r.length
  show wpAny (model X.prog X.w) X.A (subscriptTail e (.Slice none none (some (.UnaryOp .USub (.Constant (.int 1) k p1) p2)) p3) (.ref a) (.ref s4.heap.objs.size)) (EP X pins σ Q) X.xe { s4 with heap := s4.heap.push { cls := .type "slice", data := .fields #[vl, vu, vs] } }
  refine tail_any (ops := [.ref a, .ref s4.heap.objs.size]) ht.typeIs (PyProof.Rows.slot_tuple_getitem.lookup) ?_ (by with_unfolding_all rfl)
  refine back_tuple ht (Heap.IsSliceOf.new _ vl vu vs) pl pu ps ?_ (by rw [List.size_toArray]; omega)
  refine ⟨.ref _, _, J.laid (t' := s4.toks) (o := .tup xs.reverse) (fun b ob q => Heap.get?_push_of_some _ q) (Nat.le_refl _) ?_, rfl, q _ (J.hok.fresh (Nat.le_refl _))⟩
  exact ⟨by rw [List.length_reverse]; exact hz, _, r.reverse, IsTup.new _ _⟩
end
end KA
namespace KA
open PySem PySem.Spec PyProof.Rows L2
section
variable {X : Cx} {a b : Expr} {ta tb : TE} {rest : List Expr} {pos : Pos} {K' : PySem.W.Frag}
/-- the truth of a value, of an instance of an own class without __bool__ and __len__, too -/
def TruW (K : PySem.W.Frag) (x : V) (H : Hp) (k : Bool) : Prop := TruV K x H k ∨ ∃ (a C dx : Addr) (fs : List (Str × V)), x = .ref a ∧ H a = some (.ins C dx fs) ∧ PySem.W.findIn K (.ref C) "__bool__" = some none ∧ PySem.W.findIn K (.ref C) "__len__" = some none ∧ k = true
theorem truW_ok : TruR X (fun x H Q => ∃ k, TruW X.K x H k ∧ Q k H) := by
  intro pins s σ H x v Q I rx h
  obtain ⟨k, h | ⟨a, C, dx, fs, rfl, ha, hb, hl, rfl⟩, q⟩ := h
  · exact tru_ok pins s σ H x v Q I rx ⟨k, h, q⟩
  · cases rx
    obtain ⟨mA, J, _⟩ := ins_get I.hok ha
    obtain ⟨od, J, _⟩ := J.look
    obtain ⟨m, hF⟩ := I.fr
    exact PySem.W.truthy_K0 hF I.ok.mod.kin J hb hl ⟨H, I, q⟩
def tAndW (K : PySem.W.Frag) (ta tb : TE) : TE := fun σ H Q => ta σ H fun x H1 => ∃ k, TruW K x H1 k ∧ if k = true then tb σ H1 Q else Q x H1
theorem pe_andW (hK : X.K = K') (ha : PE X a ta) (hb : PE X (.BoolOp .And (b :: rest) pos) tb) : PE X (.BoolOp .And (a :: b :: rest) pos) (tAndW K' ta tb) := by
  subst hK
  refine ⟨fun pins s σ H Q I h => ?_⟩
  refine BoolOp_and (thn (ha.run pins s σ H _ I h) fun v s1 ⟨x, H1, I1, r1, k, e, q1⟩ => ?_)
  refine thn (truW_ok pins s1 σ H1 x v (fun c H2 => c = k ∧ H2 = H1) I1 r1 ⟨k, e, rfl, rfl⟩) fun c s2 ⟨H2, I2, e1, e2⟩ => ?_
  subst e2 e1
  cases c with
  | true => exact hb.run pins s2 σ H2 Q I2 q1
  | false => exact ⟨x, H2, I2, r1, q1⟩
theorem op_catAK (hK : X.K = K') : OpR X (binaryOp .Add) (rCatA K') := by
  subst hK
  exact op_catA
end
end KA
namespace KB
open PySem PySem.Spec PyProof.Rows L2 KA
def topS (i : Nat) : Stmt := PySem.Challenge.pw_pearlrise_k25_whole_turned_and_renamed.main.body.getD i (.Pass ⟨0, 0, 0, 0⟩)
abbrev s__wall : Stmt := topS 0
theorem sc__wall : FnScope ["k"] ["k"] (defScope s__wall) := ⟨rfl, rfl, rfl, by decide +kernel, rfl, by decide +kernel, by decide +kernel⟩
abbrev s_PearlError_init : Stmt := inClass (topS 2) 0
theorem sc_PearlError_init : FnScope ["self", "why"] ["self", "why"] (defScope s_PearlError_init) := ⟨rfl, rfl, rfl, by decide +kernel, rfl, by decide +kernel, by decide +kernel⟩
abbrev s_NotLet_init : Stmt := inClass (topS 5) 0
theorem sc_NotLet_init : FnScope ["self", "at", "why"] ["self", "at", "why"] (defScope s_NotLet_init) := ⟨rfl, rfl, rfl, by decide +kernel, rfl, by decide +kernel, by decide +kernel⟩
abbrev s_is_int : Stmt := topS 11
theorem sc_is_int : FnScope ["thing"] ["thing"] (defScope s_is_int) := ⟨rfl, rfl, rfl, by decide +kernel, rfl, by decide +kernel, by decide +kernel⟩
abbrev s_is_whole : Stmt := topS 12
theorem sc_is_whole : FnScope ["thing", "least", "most"] ["thing", "least", "most"] (defScope s_is_whole) := ⟨rfl, rfl, rfl, by decide +kernel, rfl, by decide +kernel, by decide +kernel⟩
abbrev s_is_from_nought : Stmt := topS 13
theorem sc_is_from_nought : FnScope ["thing"] ["thing"] (defScope s_is_from_nought) := ⟨rfl, rfl, rfl, by decide +kernel, rfl, by decide +kernel, by decide +kernel⟩
abbrev s_is_name : Stmt := topS 14
theorem sc_is_name : FnScope ["thing", "sign"] ["thing"] (defScope s_is_name) := ⟨rfl, rfl, rfl, by decide +kernel, rfl, by decide +kernel, by decide +kernel⟩
abbrev s_is_number : Stmt := topS 15
theorem sc_is_number : FnScope ["thing"] ["thing"] (defScope s_is_number) := ⟨rfl, rfl, rfl, by decide +kernel, rfl, by decide +kernel, by decide +kernel⟩
abbrev s_figures : Stmt := topS 16
theorem sc_figures : FnScope ["number", "groups", "rest", "group"] ["number"] (defScope s_figures) := ⟨rfl, rfl, rfl, by decide +kernel, rfl, by decide +kernel, by decide +kernel⟩
abbrev s_Rule_init : Stmt := inClass (topS 18) 0
theorem sc_Rule_init : FnScope ["self", "least", "most", "match", "shades"] ["self", "least", "most", "match", "shades"] (defScope s_Rule_init) := ⟨rfl, rfl, rfl, by decide +kernel, rfl, by decide +kernel, by decide +kernel⟩
abbrev s_Rule_eq : Stmt := inClass (topS 18) 1
theorem sc_Rule_eq : FnScope ["self", "other"] ["self", "other"] (defScope s_Rule_eq) := ⟨rfl, rfl, rfl, by decide +kernel, rfl, by decide +kernel, by decide +kernel⟩
abbrev s_Rule_repr : Stmt := inClass (topS 18) 2
theorem sc_Rule_repr : FnScope ["self", "parts"] ["self"] (defScope s_Rule_repr) := ⟨rfl, rfl, rfl, by decide +kernel, rfl, by decide +kernel, by decide +kernel⟩
abbrev s_stands_ahead : Stmt := topS 19
theorem sc_stands_ahead : FnScope ["beads", "at", "number", "bead"] ["beads", "at"] (defScope s_stands_ahead) := ⟨rfl, rfl, rfl, by decide +kernel, rfl, by decide +kernel, by decide +kernel⟩
abbrev s_breaks_step : Stmt := topS 20
theorem sc_breaks_step : FnScope ["beads", "at", "rule", "rise"] ["beads", "at", "rule"] (defScope s_breaks_step) := ⟨rfl, rfl, rfl, by decide +kernel, rfl, by decide +kernel, by decide +kernel⟩
abbrev s_partner_of : Stmt := topS 21
theorem sc_partner_of : FnScope ["beads", "at"] ["beads", "at"] (defScope s_partner_of) := ⟨rfl, rfl, rfl, by decide +kernel, rfl, by decide +kernel, by decide +kernel⟩
abbrev s_same_look : Stmt := topS 22
theorem sc_same_look : FnScope ["bead", "other"] ["bead", "other"] (defScope s_same_look) := ⟨rfl, rfl, rfl, by decide +kernel, rfl, by decide +kernel, by decide +kernel⟩
abbrev s_reason_at : Stmt := topS 23
theorem sc_reason_at : FnScope ["beads", "at", "rule", "bead", "partner"] ["beads", "at", "rule"] (defScope s_reason_at) := ⟨rfl, rfl, rfl, by decide +kernel, rfl, by decide +kernel, by decide +kernel⟩
abbrev s_barred : Stmt := topS 24
theorem sc_barred : FnScope ["beads", "rule", "at", "bead", "reason"] ["beads", "rule"] (defScope s_barred) := ⟨rfl, rfl, rfl, by decide +kernel, rfl, by decide +kernel, by decide +kernel⟩
abbrev s_String_init : Stmt := inClass (topS 26) 0
theorem sc_String_init : FnScope ["self", "beads", "rule", "found"] ["self", "beads", "rule"] (defScope s_String_init) := ⟨rfl, rfl, rfl, by decide +kernel, rfl, by decide +kernel, by decide +kernel⟩
abbrev s_String_beads : Stmt := inClass (topS 26) 1
theorem sc_String_beads : FnScope ["self"] ["self"] (defScope s_String_beads) := ⟨rfl, rfl, rfl, by decide +kernel, rfl, by decide +kernel, by decide +kernel⟩
abbrev s_String_gaps : Stmt := inClass (topS 26) 2
theorem sc_String_gaps : FnScope ["self", "at", "bead"] ["self"] (defScope s_String_gaps) := ⟨rfl, rfl, rfl, by decide +kernel, rfl, by decide +kernel, by decide +kernel⟩
abbrev s_String_turned : Stmt := inClass (topS 26) 3
theorem sc_String_turned : FnScope ["self"] ["self"] (defScope s_String_turned) := ⟨rfl, rfl, rfl, by decide +kernel, rfl, by decide +kernel, by decide +kernel⟩
abbrev s_String_filled : Stmt := inClass (topS 26) 4
theorem sc_String_filled : FnScope ["self", "at", "bead"] ["self", "at", "bead"] (defScope s_String_filled) := ⟨rfl, rfl, rfl, by decide +kernel, rfl, by decide +kernel, by decide +kernel⟩
abbrev s_String_emptied : Stmt := inClass (topS 26) 5
theorem sc_String_emptied : FnScope ["self", "at"] ["self", "at"] (defScope s_String_emptied) := ⟨rfl, rfl, rfl, by decide +kernel, rfl, by decide +kernel, by decide +kernel⟩
abbrev s_String_changed_at : Stmt := inClass (topS 26) 6
theorem sc_String_changed_at : FnScope ["self", "at", "bead"] ["self", "at", "bead"] (defScope s_String_changed_at) := ⟨rfl, rfl, rfl, by decide +kernel, rfl, by decide +kernel, by decide +kernel⟩
abbrev s_String___len__ : Stmt := inClass (topS 26) 7
theorem sc_String___len__ : FnScope ["self"] ["self"] (defScope s_String___len__) := ⟨rfl, rfl, rfl, by decide +kernel, rfl, by decide +kernel, by decide +kernel⟩
abbrev s_String_eq : Stmt := inClass (topS 26) 8
theorem sc_String_eq : FnScope ["self", "other"] ["self", "other"] (defScope s_String_eq) := ⟨rfl, rfl, rfl, by decide +kernel, rfl, by decide +kernel, by decide +kernel⟩
abbrev s_String_repr : Stmt := inClass (topS 26) 9
theorem sc_String_repr : FnScope ["self"] ["self"] (defScope s_String_repr) := ⟨rfl, rfl, rfl, by decide +kernel, rfl, by decide +kernel, by decide +kernel⟩
abbrev s_String_str : Stmt := inClass (topS 26) 10
theorem sc_String_str : FnScope ["self", "bead"] ["self"] (defScope s_String_str) := ⟨rfl, rfl, rfl, by decide +kernel, rfl, by decide +kernel, by decide +kernel⟩
abbrev s_is_measure : Stmt := topS 29
theorem sc_is_measure : FnScope ["thing"] ["thing"] (defScope s_is_measure) := ⟨rfl, rfl, rfl, by decide +kernel, rfl, by decide +kernel, by decide +kernel⟩
abbrev s_Bead_init : Stmt := inClass (topS 30) 0
theorem sc_Bead_init : FnScope ["self", "number", "across", "weight", "shade", "form", "drilled"] ["self", "number", "across", "weight", "shade", "form", "drilled"] (defScope s_Bead_init) := ⟨rfl, rfl, rfl, by decide +kernel, rfl, by decide +kernel, by decide +kernel⟩
abbrev s_Bead_row : Stmt := inClass (topS 30) 1
theorem sc_Bead_row : FnScope ["self"] ["self"] (defScope s_Bead_row) := ⟨rfl, rfl, rfl, by decide +kernel, rfl, by decide +kernel, by decide +kernel⟩
abbrev s_Bead_key : Stmt := inClass (topS 30) 2
theorem sc_Bead_key : FnScope ["self"] ["self"] (defScope s_Bead_key) := ⟨rfl, rfl, rfl, by decide +kernel, rfl, by decide +kernel, by decide +kernel⟩
abbrev s_Bead_eq : Stmt := inClass (topS 30) 3
theorem sc_Bead_eq : FnScope ["self", "other"] ["self", "other"] (defScope s_Bead_eq) := ⟨rfl, rfl, rfl, by decide +kernel, rfl, by decide +kernel, by decide +kernel⟩
abbrev s_Bead_repr : Stmt := inClass (topS 30) 4
theorem sc_Bead_repr : FnScope ["self", "parts"] ["self"] (defScope s_Bead_repr) := ⟨rfl, rfl, rfl, by decide +kernel, rfl, by decide +kernel, by decide +kernel⟩
abbrev s_Bead_str : Stmt := inClass (topS 30) 5
theorem sc_Bead_str : FnScope ["self"] ["self"] (defScope s_Bead_str) := ⟨rfl, rfl, rfl, by decide +kernel, rfl, by decide +kernel, by decide +kernel⟩
abbrev s_cell_at : Stmt := topS 32
theorem sc_cell_at : FnScope ["_law_script", "_law_k"] ["_law_script", "_law_k"] (defScope s_cell_at) := ⟨rfl, rfl, rfl, by decide +kernel, rfl, by decide +kernel, by decide +kernel⟩
abbrev s_well : Stmt := topS 33
theorem sc_well : FnScope ["_law_cell"] ["_law_cell"] (defScope s_well) := ⟨rfl, rfl, rfl, by decide +kernel, rfl, by decide +kernel, by decide +kernel⟩
abbrev s_draw : Stmt := topS 34
theorem sc_draw : FnScope ["_law_well_here", "_law_many", "_law_found", "_law_salt", "_law_number"] ["_law_well_here", "_law_many"] (defScope s_draw) := ⟨rfl, rfl, rfl, by decide +kernel, rfl, by decide +kernel, by decide +kernel⟩
abbrev s_one : Stmt := topS 35
theorem sc_one : FnScope ["_law_well_here", "_law_some"] ["_law_well_here", "_law_some"] (defScope s_one) := ⟨rfl, rfl, rfl, by decide +kernel, rfl, by decide +kernel, by decide +kernel⟩
abbrev s_word : Stmt := topS 36
theorem sc_word : FnScope ["_law_well_here", "_law_k"] ["_law_well_here"] (defScope s_word) := ⟨rfl, rfl, rfl, by decide +kernel, rfl, by decide +kernel, by decide +kernel⟩
abbrev s_rule : Stmt := topS 37
theorem sc_rule : FnScope ["_law_well_here", "_law_low", "_law_top", "_law_far"] ["_law_well_here"] (defScope s_rule) := ⟨rfl, rfl, rfl, by decide +kernel, rfl, by decide +kernel, by decide +kernel⟩
abbrev s_near : Stmt := topS 38
theorem sc_near : FnScope ["_law_well_here", "_law_low", "_law_top", "_law_wide"] ["_law_well_here", "_law_low", "_law_top"] (defScope s_near) := ⟨rfl, rfl, rfl, by decide +kernel, rfl, by decide +kernel, by decide +kernel⟩
abbrev s_across : Stmt := topS 39
theorem sc_across : FnScope ["_law_well_here", "_law_places", "_law_rule_here", "_law_left", "_law_right", "_law_k"] ["_law_well_here", "_law_places", "_law_rule_here"] (defScope s_across) := ⟨rfl, rfl, rfl, by decide +kernel, rfl, by decide +kernel, by decide +kernel⟩
abbrev s_rows : Stmt := topS 40
theorem sc_rows : FnScope ["_law_well_here", "_law_places", "_law_rule_here", "_law_looks", "_law_found", "_law_k", "_law_across_here", "_law_number", "_law_look"] ["_law_well_here", "_law_places", "_law_rule_here"] (defScope s_rows) := ⟨rfl, rfl, rfl, by decide +kernel, rfl, by decide +kernel, by decide +kernel⟩
abbrev s_clean : Stmt := topS 41
theorem sc_clean : FnScope ["_law_well_here", "_law_places", "_law_four", "_law_looks", "_law_found", "_law_k", "_law_across_here"] ["_law_well_here", "_law_places", "_law_four"] (defScope s_clean) := ⟨rfl, rfl, rfl, by decide +kernel, rfl, by decide +kernel, by decide +kernel⟩
abbrev s_bead : Stmt := topS 42
theorem sc_bead : FnScope ["_law_row"] ["_law_row"] (defScope s_bead) := ⟨rfl, rfl, rfl, by decide +kernel, rfl, by decide +kernel, by decide +kernel⟩
abbrev s_renamed : Stmt := topS 43
theorem sc_renamed : FnScope ["_law_well_here", "_law_rows_here", "_law_shift", "_law_other", "_law_wider", "_law_called", "_law_heavier", "_law_row"] ["_law_well_here", "_law_rows_here"] (defScope s_renamed) := ⟨rfl, rfl, rfl, by decide +kernel, rfl, by decide +kernel, by decide +kernel⟩
abbrev s_word_cut : Stmt := topS 44
theorem sc_word_cut : FnScope ["_law_rows_here", "_law_row"] ["_law_rows_here"] (defScope s_word_cut) := ⟨rfl, rfl, rfl, by decide +kernel, rfl, by decide +kernel, by decide +kernel⟩
abbrev s_law : Stmt := topS 45
theorem sc_law : FnScope ["_law_script", "_law_cell", "_law_well_here", "_law_four", "_law_rule_here", "_law_rows_here", "_law_beads", "_law_due", "_law_others", "_law_string", "_law_turned", "_law_row", "_law_bead_here"] ["_law_script"] (defScope s_law) := ⟨rfl, rfl, rfl, by decide +kernel, rfl, by decide +kernel, by decide +kernel⟩
structure Tx (K : PySem.W.Frag) (mg : Str → Option Value) : Type where
  C_Bead : Addr
  cl_Bead : Cls K C_Bead
  g_Bead : mg "Bead" = some (.ref C_Bead)
  n_Bead_number : NoAttr K C_Bead "number"
  n_Bead_across : NoAttr K C_Bead "across"
  n_Bead_weight : NoAttr K C_Bead "weight"
  n_Bead_shade : NoAttr K C_Bead "shade"
  n_Bead_form : NoAttr K C_Bead "form"
  n_Bead_drilled : NoAttr K C_Bead "drilled"
  C_Rule : Addr
  cl_Rule : Cls K C_Rule
  g_Rule : mg "Rule" = some (.ref C_Rule)
  n_Rule_least : NoAttr K C_Rule "least"
  n_Rule_most : NoAttr K C_Rule "most"
  n_Rule_match : NoAttr K C_Rule "match"
  n_Rule_shades : NoAttr K C_Rule "shades"
  C_String : Addr
  cl_String : Cls K C_String
  g_String : mg "String" = some (.ref C_String)
  n_String_held : NoAttr K C_String "held"
  n_String_rule : NoAttr K C_String "rule"
  A_is_int : Addr
  fd_is_int : FuncData
  F_is_int : Fun K "is_int" "is_int" s_is_int A_is_int fd_is_int
  g_is_int : mg "is_int" = some (.ref A_is_int)
  b_is_int : Binds K fd_is_int ["thing"] []
  A_is_whole : Addr
  fd_is_whole : FuncData
  F_is_whole : Fun K "is_whole" "is_whole" s_is_whole A_is_whole fd_is_whole
  g_is_whole : mg "is_whole" = some (.ref A_is_whole)
  b_is_whole : Binds K fd_is_whole ["thing", "least", "most"] []
  A_is_from_nought : Addr
  fd_is_from_nought : FuncData
  F_is_from_nought : Fun K "is_from_nought" "is_from_nought" s_is_from_nought A_is_from_nought fd_is_from_nought
  g_is_from_nought : mg "is_from_nought" = some (.ref A_is_from_nought)
  b_is_from_nought : Binds K fd_is_from_nought ["thing"] []
  A_is_name : Addr
  fd_is_name : FuncData
  F_is_name : Fun K "is_name" "is_name" s_is_name A_is_name fd_is_name
  g_is_name : mg "is_name" = some (.ref A_is_name)
  b_is_name : Binds K fd_is_name ["thing"] []
  A_is_number : Addr
  fd_is_number : FuncData
  F_is_number : Fun K "is_number" "is_number" s_is_number A_is_number fd_is_number
  g_is_number : mg "is_number" = some (.ref A_is_number)
  b_is_number : Binds K fd_is_number ["thing"] []
  A_Rule_init : Addr
  fd_Rule_init : FuncData
  F_Rule_init : FunD K "__init__" "Rule.__init__" (defArgs s_Rule_init) (defBody s_Rule_init) (defScope s_Rule_init) [.int 0, .int 10, .int 0, .bl true] [] A_Rule_init fd_Rule_init
  mk_Rule : Mk K C_Rule A_Rule_init
  b_Rule_init : Binds K fd_Rule_init ["self", "least", "most", "match", "shades"] []
  A_Rule_eq : Addr
  fd_Rule_eq : FuncData
  F_Rule_eq : Fun K "__eq__" "Rule.__eq__" s_Rule_eq A_Rule_eq fd_Rule_eq
  m_Rule_eq : Meth K C_Rule "__eq__" A_Rule_eq
  b_Rule_eq : Binds K fd_Rule_eq ["self", "other"] []
  A_stands_ahead : Addr
  fd_stands_ahead : FuncData
  F_stands_ahead : Fun K "stands_ahead" "stands_ahead" s_stands_ahead A_stands_ahead fd_stands_ahead
  g_stands_ahead : mg "stands_ahead" = some (.ref A_stands_ahead)
  b_stands_ahead : Binds K fd_stands_ahead ["beads", "at"] []
  A_breaks_step : Addr
  fd_breaks_step : FuncData
  F_breaks_step : Fun K "breaks_step" "breaks_step" s_breaks_step A_breaks_step fd_breaks_step
  g_breaks_step : mg "breaks_step" = some (.ref A_breaks_step)
  b_breaks_step : Binds K fd_breaks_step ["beads", "at", "rule"] []
  A_partner_of : Addr
  fd_partner_of : FuncData
  F_partner_of : Fun K "partner_of" "partner_of" s_partner_of A_partner_of fd_partner_of
  g_partner_of : mg "partner_of" = some (.ref A_partner_of)
  b_partner_of : Binds K fd_partner_of ["beads", "at"] []
  A_same_look : Addr
  fd_same_look : FuncData
  F_same_look : Fun K "same_look" "same_look" s_same_look A_same_look fd_same_look
  g_same_look : mg "same_look" = some (.ref A_same_look)
  b_same_look : Binds K fd_same_look ["bead", "other"] []
  A_reason_at : Addr
  fd_reason_at : FuncData
  F_reason_at : Fun K "reason_at" "reason_at" s_reason_at A_reason_at fd_reason_at
  g_reason_at : mg "reason_at" = some (.ref A_reason_at)
  b_reason_at : Binds K fd_reason_at ["beads", "at", "rule"] []
  A_barred : Addr
  fd_barred : FuncData
  F_barred : Fun K "barred" "barred" s_barred A_barred fd_barred
  g_barred : mg "barred" = some (.ref A_barred)
  b_barred : Binds K fd_barred ["beads", "rule"] []
  A_String_init : Addr
  fd_String_init : FuncData
  F_String_init : Fun K "__init__" "String.__init__" s_String_init A_String_init fd_String_init
  mk_String : Mk K C_String A_String_init
  b_String_init : Binds K fd_String_init ["self", "beads", "rule"] []
  A_String_beads : Addr
  fd_String_beads : FuncData
  F_String_beads : Fun K "beads" "String.beads" s_String_beads A_String_beads fd_String_beads
  m_String_beads : Meth K C_String "beads" A_String_beads
  b_String_beads : Binds K fd_String_beads ["self"] []
  A_String_turned : Addr
  fd_String_turned : FuncData
  F_String_turned : Fun K "turned" "String.turned" s_String_turned A_String_turned fd_String_turned
  m_String_turned : Meth K C_String "turned" A_String_turned
  b_String_turned : Binds K fd_String_turned ["self"] []
  A_String_eq : Addr
  fd_String_eq : FuncData
  F_String_eq : Fun K "__eq__" "String.__eq__" s_String_eq A_String_eq fd_String_eq
  m_String_eq : Meth K C_String "__eq__" A_String_eq
  b_String_eq : Binds K fd_String_eq ["self", "other"] []
  A_is_measure : Addr
  fd_is_measure : FuncData
  F_is_measure : Fun K "is_measure" "is_measure" s_is_measure A_is_measure fd_is_measure
  g_is_measure : mg "is_measure" = some (.ref A_is_measure)
  b_is_measure : Binds K fd_is_measure ["thing"] []
  A_Bead_init : Addr
  fd_Bead_init : FuncData
  F_Bead_init : FunD K "__init__" "Bead.__init__" (defArgs s_Bead_init) (defBody s_Bead_init) (defScope s_Bead_init) [.str "round", .bl false] [] A_Bead_init fd_Bead_init
  mk_Bead : Mk K C_Bead A_Bead_init
  b_Bead_init : Binds K fd_Bead_init ["self", "number", "across", "weight", "shade", "form", "drilled"] []
  A_Bead_row : Addr
  fd_Bead_row : FuncData
  F_Bead_row : Fun K "row" "Bead.row" s_Bead_row A_Bead_row fd_Bead_row
  m_Bead_row : Meth K C_Bead "row" A_Bead_row
  b_Bead_row : Binds K fd_Bead_row ["self"] []
  A_Bead_eq : Addr
  fd_Bead_eq : FuncData
  F_Bead_eq : Fun K "__eq__" "Bead.__eq__" s_Bead_eq A_Bead_eq fd_Bead_eq
  m_Bead_eq : Meth K C_Bead "__eq__" A_Bead_eq
  b_Bead_eq : Binds K fd_Bead_eq ["self", "other"] []
  A_cell_at : Addr
  fd_cell_at : FuncData
  F_cell_at : Fun K "_law_cell_at" "_law_cell_at" s_cell_at A_cell_at fd_cell_at
  g_cell_at : mg "_law_cell_at" = some (.ref A_cell_at)
  b_cell_at : Binds K fd_cell_at ["_law_script", "_law_k"] []
  A_well : Addr
  fd_well : FuncData
  F_well : Fun K "_law_well" "_law_well" s_well A_well fd_well
  g_well : mg "_law_well" = some (.ref A_well)
  b_well : Binds K fd_well ["_law_cell"] []
  A_draw : Addr
  fd_draw : FuncData
  F_draw : Fun K "_law_draw" "_law_draw" s_draw A_draw fd_draw
  g_draw : mg "_law_draw" = some (.ref A_draw)
  b_draw : Binds K fd_draw ["_law_well_here", "_law_many"] []
  A_one : Addr
  fd_one : FuncData
  F_one : Fun K "_law_one" "_law_one" s_one A_one fd_one
  g_one : mg "_law_one" = some (.ref A_one)
  b_one : Binds K fd_one ["_law_well_here", "_law_some"] []
  A_word : Addr
  fd_word : FuncData
  F_word : Fun K "_law_word" "_law_word" s_word A_word fd_word
  g_word : mg "_law_word" = some (.ref A_word)
  b_word : Binds K fd_word ["_law_well_here"] []
  A_rule : Addr
  fd_rule : FuncData
  F_rule : Fun K "_law_rule" "_law_rule" s_rule A_rule fd_rule
  g_rule : mg "_law_rule" = some (.ref A_rule)
  b_rule : Binds K fd_rule ["_law_well_here"] []
  A_near : Addr
  fd_near : FuncData
  F_near : Fun K "_law_near" "_law_near" s_near A_near fd_near
  g_near : mg "_law_near" = some (.ref A_near)
  b_near : Binds K fd_near ["_law_well_here", "_law_low", "_law_top"] []
  A_across : Addr
  fd_across : FuncData
  F_across : Fun K "_law_across" "_law_across" s_across A_across fd_across
  g_across : mg "_law_across" = some (.ref A_across)
  b_across : Binds K fd_across ["_law_well_here", "_law_places", "_law_rule_here"] []
  A_rows : Addr
  fd_rows : FuncData
  F_rows : Fun K "_law_rows" "_law_rows" s_rows A_rows fd_rows
  g_rows : mg "_law_rows" = some (.ref A_rows)
  b_rows : Binds K fd_rows ["_law_well_here", "_law_places", "_law_rule_here"] []
  A_clean : Addr
  fd_clean : FuncData
  F_clean : Fun K "_law_clean" "_law_clean" s_clean A_clean fd_clean
  g_clean : mg "_law_clean" = some (.ref A_clean)
  b_clean : Binds K fd_clean ["_law_well_here", "_law_places", "_law_four"] []
  A_bead : Addr
  fd_bead : FuncData
  F_bead : Fun K "_law_bead" "_law_bead" s_bead A_bead fd_bead
  g_bead : mg "_law_bead" = some (.ref A_bead)
  b_bead : Binds K fd_bead ["_law_row"] []
  A_renamed : Addr
  fd_renamed : FuncData
  F_renamed : Fun K "_law_renamed" "_law_renamed" s_renamed A_renamed fd_renamed
  g_renamed : mg "_law_renamed" = some (.ref A_renamed)
  b_renamed : Binds K fd_renamed ["_law_well_here", "_law_rows_here"] []
  A_word_cut : Addr
  fd_word_cut : FuncData
  F_word_cut : Fun K "_law_word_cut" "_law_word_cut" s_word_cut A_word_cut fd_word_cut
  g_word_cut : mg "_law_word_cut" = some (.ref A_word_cut)
  b_word_cut : Binds K fd_word_cut ["_law_rows_here"] []
  ic_Bead : ICls K C_Bead
  i_Bead : PySem.W.kitOne K (.ref C_Bead) (.ref C_Bead) = some true
  ic_Rule : ICls K C_Rule
  i_Rule : PySem.W.kitOne K (.ref C_Rule) (.ref C_Rule) = some true
  ic_String : ICls K C_String
  i_String : PySem.W.kitOne K (.ref C_String) (.ref C_String) = some true
  sn_Bead : PySem.W.subIn K (.ref C_Bead) (.type "NoneType") = some false
  nf_Bead : PySem.W.notFirst K C_Bead (.type "NoneType") = true
  no_Bead : PySem.W.kitOne K (.type "NoneType") (.ref C_Bead) = some false
  bb_Bead : PySem.W.findIn K (.ref C_Bead) "__bool__" = some none
  bl_Bead : PySem.W.findIn K (.ref C_Bead) "__len__" = some none
  t_LONGEST_NAME : Tok
  g_LONGEST_NAME : mg "LONGEST_NAME" = some (.int 8 t_LONGEST_NAME)
  t_GREATEST_NUMBER : Tok
  g_GREATEST_NUMBER : mg "GREATEST_NUMBER" = some (.int 1000000000 t_GREATEST_NUMBER)
  t_GREATEST_MEASURE : Tok
  g_GREATEST_MEASURE : mg "GREATEST_MEASURE" = some (.int 1000000 t_GREATEST_MEASURE)
  z_bool : mg "bool" = none
  z_isinstance : mg "isinstance" = none
  z_int : mg "int" = none
  z_len : mg "len" = none
  z_str : mg "str" = none
  z_all : mg "all" = none
  z_any : mg "any" = none
  z_abs : mg "abs" = none
  z_enumerate : mg "enumerate" = none
  z_tuple : mg "tuple" = none
  z_list : mg "list" = none
  z_range : mg "range" = none
  z_max : mg "max" = none
  z_min : mg "min" = none
section
variable {P : Program} {w : World} {K : PySem.W.Frag} {mg : Str → Option Value} {base : Heap}
def whl (v : V) (lo hi : Int) : Bool := match v with
  | .int i => decide (lo ≤ i) && decide (i ≤ hi)
  | _ => false
def nm (v : V) : Bool := match v with
  | .str z => decide (1 ≤ z.length) && decide (z.length ≤ 8) && z.cps.toList.all lower
  | _ => false
def spIsInt (K : PySem.W.Frag) : Sp := fun vs H Q _ => ∃ v, vs = [v] ∧ Th K H v ∧ Q (.bl (isI v)) H
def spIsWhole (K : PySem.W.Frag) : Sp := fun vs H Q _ => ∃ v lo hi, vs = [v, .int lo, .int hi] ∧ Th K H v ∧ Q (.bl (whl v lo hi)) H
def spIsNumber (K : PySem.W.Frag) : Sp := fun vs H Q _ => ∃ v, vs = [v] ∧ Th K H v ∧ Q (.bl (whl v 1 1000000000)) H
def spIsName (K : PySem.W.Frag) : Sp := fun vs H Q _ => ∃ v, vs = [v] ∧ Th K H v ∧ (∀ z, v = .str z → z.length ≤ 100000) ∧ ∀ H', Same H H' → Q (.bl (nm v)) H'
theorem ok_is_int (T : Tx K mg) : FnOk P w K mg base CX0 1 T.A_is_int T.fd_is_int ["thing"] (spIsInt K) := by
  refine T.F_is_int.ok sc_is_int (fun vs H Q E h => ?_) (fun cdv A outer s H vs Q E hr h => ?_)
  · obtain ⟨v, rfl, th, q⟩ := h
    rfl
  obtain ⟨v, rfl, th, q⟩ := h
  refine ⟨_, (pss_one (ps_ret (pe_and (pe_callB call_isi (by rfl) T.z_isinstance (by decide +kernel) (pa_cons (pv 0) (pa_cons (pe_bltn (v := .ty "int") (by rfl) T.z_int (by decide +kernel) rfl) pa_nil))) (pe_one (pe_not (pe_callB call_isi (by rfl) T.z_isinstance (by decide +kernel) (pa_cons (pv 0) (pa_cons (pe_bltn (v := .ty "bool") (by rfl) T.z_bool (by decide +kernel) rfl) pa_nil)))))))), ?_⟩
  obtain ⟨t1, ty1, k1⟩ := isi_int th
  obtain ⟨t2, ty2, k2⟩ := isi_bool th
  refine ⟨_, rfl, v, _, t1, _, _, rfl, .ty _, ty1, k1, _, rfl, ?_⟩
  refine ite2 (fun e => ?_) (fun e => ?_)
  · refine ⟨_, rfl, v, _, t2, _, _, rfl, .ty _, ty2, k2, _, rfl, ?_⟩
    have : (!isB v) = isI v := by cases v <;> simp_all [isI, isB]
    rw [this]
    exact q
  · have : isI v = false := by cases v <;> simp_all [isI, isB]
    rw [this] at q
    exact q
theorem ok_is_whole (T : Tx K mg) : FnOk P w K mg base CX0 2 T.A_is_whole T.fd_is_whole ["thing", "least", "most"] (spIsWhole K) := by
  refine T.F_is_whole.ok sc_is_whole (fun vs H Q E h => ?_) (fun cdv A outer s H vs Q E hr h => ?_)
  · obtain ⟨v, lo, hi, rfl, th, q⟩ := h
    rfl
  obtain ⟨v, lo, hi, rfl, th, q⟩ := h
  refine ⟨_, (pss_one (ps_ret (pe_and (pe_call (ok_is_int T) (hr.mono (by decide)) (by rfl) T.g_is_int T.F_is_int.kp T.b_is_int .nil pass0 (pa_cons (pv 0) pa_nil)) (pe_one (pe_chain op_le op_le (pv 1) (pv 0) (pv 2)))))), ?_⟩
  refine ⟨_, rfl, v, rfl, th, _, rfl, ?_⟩
  cases v with
  | int i =>
    refine iteT ?_
    refine ⟨_, rfl, _, rfl, _, _, rfl, rfl, _, rfl, ?_⟩
    refine ite2 (fun e => ?_) (fun e => ?_)
    · refine ⟨_, rfl, _, _, rfl, rfl, ?_⟩
      have q : Q (.bl (decide (lo ≤ i) && decide (i ≤ hi))) H := q
      rw [e] at q
      exact q
    · have q : Q (.bl (decide (lo ≤ i) && decide (i ≤ hi))) H := q
      rw [Bool.not_eq_true] at e
      rw [e] at q
      exact q
  | _ => exact iteF q
theorem ok_is_number (T : Tx K mg) : FnOk P w K mg base CX0 3 T.A_is_number T.fd_is_number ["thing"] (spIsNumber K) := by
  refine T.F_is_number.ok sc_is_number (fun vs H Q E h => ?_) (fun cdv A outer s H vs Q E hr h => ?_)
  · obtain ⟨v, rfl, th, q⟩ := h
    rfl
  obtain ⟨v, rfl, th, q⟩ := h
  refine ⟨_, (pss_one (ps_ret (pe_call (ok_is_whole T) (hr.mono (by decide)) (by rfl) T.g_is_whole T.F_is_whole.kp T.b_is_whole .nil pass0 (pa_cons (pv 0) (pa_cons pe_int (pa_cons (pe_glob (v := .int 1000000000) (by rfl) T.g_GREATEST_NUMBER ⟨_, rfl⟩) pa_nil)))))), ?_⟩
  exact ⟨_, rfl, v, 1, 1000000000, rfl, th, q⟩
theorem nm_no {v : V} (h : isS v = false) : nm v = false := by cases v <;> simp_all [nm, isS]
theorem ok_is_name (T : Tx K mg) : FnOk P w K mg base CX0 1 T.A_is_name T.fd_is_name ["thing"] (spIsName K) := by
  refine T.F_is_name.ok sc_is_name (fun vs H Q E h => ?_) (fun cdv A outer s H vs Q E hr h => ?_)
  · obtain ⟨v, rfl, th, hz, q⟩ := h
    rfl
  obtain ⟨v, rfl, th, hz, q⟩ := h
  refine ⟨_, (pss_cons (ps_if (PW.pt (pw_or (pt_not (pt_val (pe_callB call_isi (by rfl) T.z_isinstance (by decide +kernel) (pa_cons (pv 0) (pa_cons (pe_bltn (v := .ty "str") (by rfl) T.z_str (by decide +kernel) rfl) pa_nil))))) (pw_or1 (pt_not (pt_chain op_le op_le pe_int (pe_callB call_len_str (by rfl) T.z_len PySem.boot_len (pa_cons (pv 0) pa_nil)) (pe_glob (v := .int 8) (by rfl) T.g_LONGEST_NAME ⟨_, rfl⟩)))))) (pss_one (ps_ret pe_bl)) pss_nil)
      (pss_one (ps_ret (pe_callB (cr_all rfl) (by rfl) T.z_all (by decide +kernel) (pa_cons (pe_lc (own := [("sign", 1)]) (g := gName 1) (tt := tYes) rfl sc_is_name.nd (pi_str (pv 0)) (blkOk_by (N := ["thing", "sign"]) (sc := defScope s_is_name) (by decide +kernel)) (fun _ _ _ _ _ => (pg_name (i := 1) sc_is_name.nd rfl (Or.inl rfl))) (fun _ _ _ _ _ => pts_nil) (fun _ _ _ _ _ => (pe_chain op_le_str op_le_str pe_str (pv 1) pe_str))) pa_nil))))), ?_⟩
  obtain ⟨t1, ty1, k1⟩ := isi_str th
  refine ⟨_, rfl, v, _, t1, _, _, rfl, .ty _, ty1, k1, _, rfl, ?_⟩
  by_cases hs : isS v = true
  · obtain ⟨z, rfl⟩ : ∃ z, v = .str z := by
      cases v with
      | str z => exact ⟨z, rfl⟩
      | _ => cases hs
    have hz := hz z rfl
    have hzl : z.length ≤ sizeLine := Nat.le_trans hz (by decide)
    have nmE : nm (.str z) = (decide (1 ≤ z.length) && decide (z.length ≤ 8) && z.cps.toList.all lower) := rfl
    rw [hs]
    refine iteF ?_
    refine ⟨_, rfl, z, rfl, hzl, _, _, rfl, rfl, _, rfl, ?_⟩
    by_cases h1 : 1 ≤ z.length
    · rw [decide_eq_true (show (1 : Int) ≤ (z.length : Int) by omega)]
      refine iteT ⟨_, _, rfl, rfl, _, rfl, ?_⟩
      by_cases h2 : z.length ≤ 8
      · rw [decide_eq_true (show (z.length : Int) ≤ 8 by omega)]
        refine iteF ?_
        refine ⟨_, rfl, z, rfl, fun D hD => lc_all hD hz lower ?_ ?_⟩
        · intro c H2 R C s2 r
          refine ⟨rfl, yesT ?_⟩
          refine ⟨_, rfl, _, _, rfl, rfl, _, rfl, ?_⟩
          rw [ge_a]
          refine ite2 (fun e => ?_) (fun e => ?_)
          · refine ⟨_, _, rfl, rfl, ?_⟩
            rw [le_z]
            have : lower c = decide (c ≤ 122) := by unfold lower; rw [e, Bool.true_and]
            rw [← this]
            exact r
          · rw [Bool.not_eq_true] at e
            have : lower c = false := by unfold lower; rw [e, Bool.false_and]
            rw [← this]
            exact r
        · intro H' s1 e1
          refine ⟨D, z.cps.toList.map lower, rfl, SqL.of e1, ?_⟩
          have q := q H' s1
          have : nm (.str z) = (z.cps.toList.map lower).all id := by
            rw [nmE, decide_eq_true h1, decide_eq_true h2, Bool.true_and, Bool.true_and, List.all_map]
            rfl
          rw [this] at q
          exact q
      · rw [decide_eq_false (show ¬ (z.length : Int) ≤ 8 by omega)]
        refine iteT ?_
        have q := q H (Same.refl H)
        rw [nmE, decide_eq_false h2, Bool.and_false, Bool.false_and] at q
        exact q
    · rw [decide_eq_false (show ¬ (1 : Int) ≤ (z.length : Int) by omega)]
      refine iteF ⟨_, rfl, ?_⟩
      refine iteT ?_
      have q := q H (Same.refl H)
      rw [nmE, decide_eq_false h1, Bool.false_and, Bool.false_and] at q
      exact q
  · rw [Bool.not_eq_true] at hs
    rw [hs]
    refine iteT (iteT ?_)
    have q := q H (Same.refl H)
    rw [nm_no hs] at q
    exact q
def spFromN (K : PySem.W.Frag) : Sp := fun vs H Q _ => ∃ v, vs = [v] ∧ Th K H v ∧ Q (.bl (match v with | .int i => decide (0 ≤ i) | _ => false)) H
theorem ok_is_from_nought (T : Tx K mg) : FnOk P w K mg base CX0 2 T.A_is_from_nought T.fd_is_from_nought ["thing"] (spFromN K) := by
  refine T.F_is_from_nought.ok sc_is_from_nought (fun vs H Q E h => ?_) (fun cdv A outer s H vs Q E hr h => ?_)
  · obtain ⟨v, rfl, th, q⟩ := h
    rfl
  obtain ⟨v, rfl, th, q⟩ := h
  refine ⟨_, (pss_one (ps_ret (pe_and (pe_call (ok_is_int T) (hr.mono (by decide)) (by rfl) T.g_is_int T.F_is_int.kp T.b_is_int .nil pass0 (pa_cons (pv 0) pa_nil)) (pe_one (pe_cmpR op_ge (pv 0) pe_int (nomark _)))))), ?_⟩
  refine ⟨_, rfl, v, rfl, th, _, rfl, ?_⟩
  cases v with
  | int i => exact iteT ⟨_, rfl, _, _, rfl, rfl, q⟩
  | _ => exact iteF q
def spMeasure (K : PySem.W.Frag) : Sp := fun vs H Q _ => ∃ v, vs = [v] ∧ Th K H v ∧ Q (.bl (whl v 1 1000000)) H
theorem ok_is_measure (T : Tx K mg) : FnOk P w K mg base CX0 3 T.A_is_measure T.fd_is_measure ["thing"] (spMeasure K) := by
  refine T.F_is_measure.ok sc_is_measure (fun vs H Q E h => ?_) (fun cdv A outer s H vs Q E hr h => ?_)
  · obtain ⟨v, rfl, th, q⟩ := h
    rfl
  obtain ⟨v, rfl, th, q⟩ := h
  refine ⟨_, (pss_one (ps_ret (pe_call (ok_is_whole T) (hr.mono (by decide)) (by rfl) T.g_is_whole T.F_is_whole.kp T.b_is_whole .nil pass0 (pa_cons (pv 0) (pa_cons pe_int (pa_cons (pe_glob (v := .int 1000000) (by rfl) T.g_GREATEST_MEASURE ⟨_, rfl⟩) pa_nil)))))), ?_⟩
  exact ⟨_, rfl, v, 1, 1000000, rfl, th, q⟩
/-- a bead, a rule, as data -/
structure Rw where
  num : Int
  ac : Int
  we : Int
  sh : Str
  fo : Str
  dr : Bool
structure Rl where
  lo : Int
  hi : Int
  far : Int
  shd : Bool
def GoodRw (r : Rw) : Prop := whl (.int r.num) 1 1000000000 = true ∧ whl (.int r.ac) 1 1000000 = true ∧ whl (.int r.we) 1 1000000 = true ∧ nm (.str r.sh) = true ∧ nm (.str r.fo) = true
def GoodRl (u : Rl) : Prop := 0 ≤ u.lo ∧ u.lo ≤ u.hi ∧ 0 ≤ u.far
theorem short_name {z : Str} (h : nm (.str z) = true) : z.length ≤ 100000 := by
  have nmE : nm (.str z) = (decide (1 ≤ z.length) && decide (z.length ≤ 8) && z.cps.toList.all lower) := rfl
  rw [nmE] at h
  simp only [Bool.and_eq_true, decide_eq_true_eq] at h
  omega
def bf (r : Rw) : List (Str × V) := putF "drilled" (.bl r.dr) (putF "form" (.str r.fo) (putF "shade" (.str r.sh) (putF "weight" (.int r.we) (putF "across" (.int r.ac) (putF "number" (.int r.num) [])))))
theorem bf_number (r : Rw) : (bf r).lookup ("number" : Str) = some (.int r.num) := by
  unfold bf
  rw [lookup_putF, if_neg (by decide +kernel), lookup_putF, if_neg (by decide +kernel), lookup_putF, if_neg (by decide +kernel), lookup_putF, if_neg (by decide +kernel), lookup_putF, if_neg (by decide +kernel), lookup_putF, if_pos rfl]
theorem bf_across (r : Rw) : (bf r).lookup ("across" : Str) = some (.int r.ac) := by
  unfold bf
  rw [lookup_putF, if_neg (by decide +kernel), lookup_putF, if_neg (by decide +kernel), lookup_putF, if_neg (by decide +kernel), lookup_putF, if_neg (by decide +kernel), lookup_putF, if_pos rfl]
theorem bf_weight (r : Rw) : (bf r).lookup ("weight" : Str) = some (.int r.we) := by
  unfold bf
  rw [lookup_putF, if_neg (by decide +kernel), lookup_putF, if_neg (by decide +kernel), lookup_putF, if_neg (by decide +kernel), lookup_putF, if_pos rfl]
theorem bf_shade (r : Rw) : (bf r).lookup ("shade" : Str) = some (.str r.sh) := by
  unfold bf
  rw [lookup_putF, if_neg (by decide +kernel), lookup_putF, if_neg (by decide +kernel), lookup_putF, if_pos rfl]
theorem bf_form (r : Rw) : (bf r).lookup ("form" : Str) = some (.str r.fo) := by
  unfold bf
  rw [lookup_putF, if_neg (by decide +kernel), lookup_putF, if_pos rfl]
theorem bf_drilled (r : Rw) : (bf r).lookup ("drilled" : Str) = some (.bl r.dr) := by
  unfold bf
  rw [lookup_putF, if_pos rfl]
theorem bf_no (r : Rw) {m : Str} (h1 : ¬ m = "drilled") (h2 : ¬ m = "form") (h3 : ¬ m = "shade") (h4 : ¬ m = "weight") (h5 : ¬ m = "across") (h6 : ¬ m = "number") : (bf r).lookup m = none := by
  unfold bf
  rw [lookup_putF, if_neg h1, lookup_putF, if_neg h2, lookup_putF, if_neg h3, lookup_putF, if_neg h4, lookup_putF, if_neg h5, lookup_putF, if_neg h6]
  rfl
def uf (u : Rl) : List (Str × V) := putF "shades" (.bl u.shd) (putF "match" (.int u.far) (putF "most" (.int u.hi) (putF "least" (.int u.lo) [])))
theorem uf_least (u : Rl) : (uf u).lookup ("least" : Str) = some (.int u.lo) := by
  unfold uf
  rw [lookup_putF, if_neg (by decide +kernel), lookup_putF, if_neg (by decide +kernel), lookup_putF, if_neg (by decide +kernel), lookup_putF, if_pos rfl]
theorem uf_most (u : Rl) : (uf u).lookup ("most" : Str) = some (.int u.hi) := by
  unfold uf
  rw [lookup_putF, if_neg (by decide +kernel), lookup_putF, if_neg (by decide +kernel), lookup_putF, if_pos rfl]
theorem uf_match (u : Rl) : (uf u).lookup ("match" : Str) = some (.int u.far) := by
  unfold uf
  rw [lookup_putF, if_neg (by decide +kernel), lookup_putF, if_pos rfl]
theorem uf_shades (u : Rl) : (uf u).lookup ("shades" : Str) = some (.bl u.shd) := by
  unfold uf
  rw [lookup_putF, if_pos rfl]
theorem few {fs : List (Str × V)} {f : Str} {v : V} {n : Nat} (h : fs.length ≤ n) : (putF f v fs).length ≤ n + 1 := Nat.le_trans (length_putF f v fs) (by omega)
theorem few0 : ([] : List (Str × V)).length ≤ 0 := Nat.le_refl _
def BeadAt (C : Addr) (H : Hp) (p : Addr) (r : Rw) : Prop := ∃ dx, H p = some (.ins C dx (bf r))
def RuleAt (C : Addr) (H : Hp) (p : Addr) (u : Rl) : Prop := ∃ dx, H p = some (.ins C dx (uf u))
def spBead (C : Addr) : Sp := fun vs H Q _ => ∃ (p dx : Addr) (r : Rw), vs = [.ref p, .int r.num, .int r.ac, .int r.we, .str r.sh, .str r.fo, .bl r.dr] ∧ H p = some (.ins C dx []) ∧ GoodRw r ∧
  ∀ H' : Hp, BeadAt C H' p r → (∀ b o, H b = some o → b ≠ p → H' b = some o) → Q .non H'
theorem ok_Bead_init (T : Tx K mg) : FnOk P w K mg base CX0 4 T.A_Bead_init T.fd_Bead_init ["self", "number", "across", "weight", "shade", "form", "drilled"] (spBead T.C_Bead) := by
  refine okD T.F_Bead_init sc_Bead_init (fun vs H Q E h => ?_) (fun cdv A outer s H vs Q E hr h => ?_)
  · obtain ⟨p, dx, r, rfl, hp, ⟨g1, g2, g3, g4, g5⟩, q⟩ := h
    rfl
  obtain ⟨p, dx, r, rfl, hp, ⟨g1, g2, g3, g4, g5⟩, q⟩ := h
  refine ⟨_, (pss_cons (ps_if (pt_not (pt_val (pe_call (ok_is_number T) (hr.mono (by decide)) (by rfl) T.g_is_number T.F_is_number.kp T.b_is_number .nil pass0 (pa_cons (pv 1) pa_nil)))) (pss_one ps_never) pss_nil)
      (pss_cons (ps_if (PW.pt (pw_or (pt_not (pt_val (pe_call (ok_is_measure T) (hr.mono (by decide)) (by rfl) T.g_is_measure T.F_is_measure.kp T.b_is_measure .nil pass0 (pa_cons (pv 2) pa_nil)))) (pw_or1 (pt_not (pt_val (pe_call (ok_is_measure T) (hr.mono (by decide)) (by rfl) T.g_is_measure T.F_is_measure.kp T.b_is_measure .nil pass0 (pa_cons (pv 3) pa_nil))))))) (pss_one ps_never) pss_nil)
      (pss_cons (ps_if (PW.pt (pw_or (pt_not (pt_val (pe_call (ok_is_name T) (hr.mono (by decide)) (by rfl) T.g_is_name T.F_is_name.kp T.b_is_name .nil pass0 (pa_cons (pv 4) pa_nil)))) (pw_or1 (pt_not (pt_val (pe_call (ok_is_name T) (hr.mono (by decide)) (by rfl) T.g_is_name T.F_is_name.kp T.b_is_name .nil pass0 (pa_cons (pv 5) pa_nil))))))) (pss_one ps_never) pss_nil)
      (pss_cons (ps_if (pt_not (pt_val (pe_callB call_isi (by rfl) T.z_isinstance (by decide +kernel) (pa_cons (pv 6) (pa_cons (pe_bltn (v := .ty "bool") (by rfl) T.z_bool (by decide +kernel) rfl) pa_nil))))) (pss_one ps_never) pss_nil)
      (pss_cons (ps_fld (pv 0) (pv 1) rfl)
      (pss_cons (ps_fld (pv 0) (pv 2) rfl)
      (pss_cons (ps_fld (pv 0) (pv 3) rfl)
      (pss_cons (ps_fld (pv 0) (pv 4) rfl)
      (pss_cons (ps_fld (pv 0) (pv 5) rfl)
      (pss_one (ps_fld (pv 0) (pv 6) rfl))))))))))), ?_⟩
  refine ⟨_, rfl, _, rfl, .int _, _, rfl, ?_⟩
  rw [g1]
  refine iteF ⟨_, rfl, _, rfl, .int _, _, rfl, ?_⟩
  rw [g2]
  refine iteF ⟨_, rfl, _, rfl, .int _, _, rfl, ?_⟩
  rw [g3]
  refine iteF ⟨_, rfl, _, rfl, .str _, (fun z hz => by injection hz with hz; rw [← hz]; exact short_name g4), fun H1 s1 => ⟨_, rfl, ?_⟩⟩
  rw [g4]
  refine iteF ⟨_, rfl, _, rfl, .str _, (fun z hz => by injection hz with hz; rw [← hz]; exact short_name g5), fun H2 s2 => ⟨_, rfl, ?_⟩⟩
  rw [g5]
  refine iteF ⟨_, rfl, _, _, _, _, _, rfl, .ty _, .base (.bl _), kit_ty (r := true) (by decide +kernel), _, rfl, ?_⟩
  refine iteF ?_
  have h2 := s2 _ _ (s1 _ _ hp)
  refine ⟨_, rfl, _, rfl, p, _, dx, _, rfl, h2, T.cl_Bead, T.n_Bead_number, by decide, ?_⟩
  refine ⟨_, rfl, _, rfl, p, _, dx, _, rfl, upd_same, T.cl_Bead, T.n_Bead_across, Nat.lt_of_le_of_lt (few few0) (by decide), ?_⟩
  refine ⟨_, rfl, _, rfl, p, _, dx, _, rfl, upd_same, T.cl_Bead, T.n_Bead_weight, Nat.lt_of_le_of_lt (few (few few0)) (by decide), ?_⟩
  refine ⟨_, rfl, _, rfl, p, _, dx, _, rfl, upd_same, T.cl_Bead, T.n_Bead_shade, Nat.lt_of_le_of_lt (few (few (few few0))) (by decide), ?_⟩
  refine ⟨_, rfl, _, rfl, p, _, dx, _, rfl, upd_same, T.cl_Bead, T.n_Bead_form, Nat.lt_of_le_of_lt (few (few (few (few few0)))) (by decide), ?_⟩
  refine ⟨_, rfl, _, rfl, p, _, dx, _, rfl, upd_same, T.cl_Bead, T.n_Bead_drilled, Nat.lt_of_le_of_lt (few (few (few (few (few few0))))) (by decide), ?_⟩
  refine q _ ⟨dx, upd_same⟩ fun b o e hb => ?_
  rw [upd_ne hb, upd_ne hb, upd_ne hb, upd_ne hb, upd_ne hb, upd_ne hb]
  exact s2 _ _ (s1 _ _ e)
def rowVals (r : Rw) : List V := [.int r.num, .int r.ac, .int r.we, .str r.sh, .str r.fo, .bl r.dr]
def spRow (C : Addr) : Sp := fun vs H Q _ => ∃ (p : Addr) (r : Rw), vs = [.ref p] ∧ BeadAt C H p r ∧ ∀ t, H t = none → Q (.ref t) (upd H t (.tup (rowVals r)))
theorem ok_Bead_row (T : Tx K mg) : FnOk P w K mg base CX0 1 T.A_Bead_row T.fd_Bead_row ["self"] (spRow T.C_Bead) := by
  refine T.F_Bead_row.ok sc_Bead_row (fun vs H Q E h => ?_) (fun cdv A outer s H vs Q E hr h => ?_)
  · obtain ⟨p, r, rfl, ⟨dx, hp⟩, q⟩ := h
    rfl
  obtain ⟨p, r, rfl, ⟨dx, hp⟩, q⟩ := h
  refine ⟨_, (pss_one (ps_ret (pe_tup (pa_cons (pe_fld (pv 0) rfl) (pa_cons (pe_fld (pv 0) rfl) (pa_cons (pe_fld (pv 0) rfl) (pa_cons (pe_fld (pv 0) rfl) (pa_cons (pe_fld (pv 0) rfl) (pa_cons (pe_fld (pv 0) rfl) pa_nil))))))))), ?_⟩
  refine ⟨_, rfl, p, _, dx, _, _, rfl, hp, T.cl_Bead, T.n_Bead_number, bf_number r, ?_⟩
  refine ⟨_, rfl, p, _, dx, _, _, rfl, hp, T.cl_Bead, T.n_Bead_across, bf_across r, ?_⟩
  refine ⟨_, rfl, p, _, dx, _, _, rfl, hp, T.cl_Bead, T.n_Bead_weight, bf_weight r, ?_⟩
  refine ⟨_, rfl, p, _, dx, _, _, rfl, hp, T.cl_Bead, T.n_Bead_shade, bf_shade r, ?_⟩
  refine ⟨_, rfl, p, _, dx, _, _, rfl, hp, T.cl_Bead, T.n_Bead_form, bf_form r, ?_⟩
  refine ⟨_, rfl, p, _, dx, _, _, rfl, hp, T.cl_Bead, T.n_Bead_drilled, bf_drilled r, ?_⟩
  exact ⟨(by show 6 ≤ sizeLine; decide), fun t ht => q t ht⟩
def spRule (C : Addr) : Sp := fun vs H Q _ => ∃ (p dx : Addr) (u : Rl), vs = [.ref p, .int u.lo, .int u.hi, .int u.far, .bl u.shd] ∧ H p = some (.ins C dx []) ∧ GoodRl u ∧
  ∀ H' : Hp, RuleAt C H' p u → (∀ b o, H b = some o → b ≠ p → H' b = some o) → Q .non H'
theorem ok_Rule_init (T : Tx K mg) : FnOk P w K mg base CX0 3 T.A_Rule_init T.fd_Rule_init ["self", "least", "most", "match", "shades"] (spRule T.C_Rule) := by
  refine okD T.F_Rule_init sc_Rule_init (fun vs H Q E h => ?_) (fun cdv A outer s H vs Q E hr h => ?_)
  · obtain ⟨p, dx, u, rfl, hp, ⟨g1, g2, g3⟩, q⟩ := h
    rfl
  obtain ⟨p, dx, u, rfl, hp, ⟨g1, g2, g3⟩, q⟩ := h
  refine ⟨_, (pss_cons (ps_if (PW.pt (pw_or (pt_not (pt_val (pe_call (ok_is_from_nought T) (hr.mono (by decide)) (by rfl) T.g_is_from_nought T.F_is_from_nought.kp T.b_is_from_nought .nil pass0 (pa_cons (pv 1) pa_nil)))) (pw_or (pt_not (pt_val (pe_call (ok_is_from_nought T) (hr.mono (by decide)) (by rfl) T.g_is_from_nought T.F_is_from_nought.kp T.b_is_from_nought .nil pass0 (pa_cons (pv 2) pa_nil)))) (pw_or1 (pt_not (pt_val (pe_call (ok_is_from_nought T) (hr.mono (by decide)) (by rfl) T.g_is_from_nought T.F_is_from_nought.kp T.b_is_from_nought .nil pass0 (pa_cons (pv 3) pa_nil)))))))) (pss_one ps_never) pss_nil)
      (pss_cons (ps_if (pt_cmpR op_lt (pv 2) (pv 1) (nomark _)) (pss_one ps_never) pss_nil)
      (pss_cons (ps_if (pt_not (pt_val (pe_callB call_isi (by rfl) T.z_isinstance (by decide +kernel) (pa_cons (pv 4) (pa_cons (pe_bltn (v := .ty "bool") (by rfl) T.z_bool (by decide +kernel) rfl) pa_nil))))) (pss_one ps_never) pss_nil)
      (pss_cons (ps_fld (pv 0) (pv 1) rfl)
      (pss_cons (ps_fld (pv 0) (pv 2) rfl)
      (pss_cons (ps_fld (pv 0) (pv 3) rfl)
      (pss_one (ps_fld (pv 0) (pv 4) rfl)))))))), ?_⟩
  refine ⟨_, rfl, _, rfl, .int _, _, rfl, ?_⟩
  show if (!decide (0 ≤ u.lo)) = true then _ else _
  rw [decide_eq_true g1]
  refine iteF ⟨_, rfl, _, rfl, .int _, _, rfl, ?_⟩
  show if (!decide (0 ≤ u.hi)) = true then _ else _
  rw [decide_eq_true (show 0 ≤ u.hi by omega)]
  refine iteF ⟨_, rfl, _, rfl, .int _, _, rfl, ?_⟩
  show if (!decide (0 ≤ u.far)) = true then _ else _
  rw [decide_eq_true g3]
  refine iteF ⟨_, rfl, _, rfl, _, _, rfl, rfl, _, rfl, ?_⟩
  rw [decide_eq_false (show ¬ u.hi < u.lo by omega)]
  refine iteF ⟨_, rfl, _, _, _, _, _, rfl, .ty _, .base (.bl _), kit_ty (r := true) (by decide +kernel), _, rfl, ?_⟩
  refine iteF ?_
  refine ⟨_, rfl, _, rfl, p, _, dx, _, rfl, hp, T.cl_Rule, T.n_Rule_least, by decide, ?_⟩
  refine ⟨_, rfl, _, rfl, p, _, dx, _, rfl, upd_same, T.cl_Rule, T.n_Rule_most, Nat.lt_of_le_of_lt (few few0) (by decide), ?_⟩
  refine ⟨_, rfl, _, rfl, p, _, dx, _, rfl, upd_same, T.cl_Rule, T.n_Rule_match, Nat.lt_of_le_of_lt (few (few few0)) (by decide), ?_⟩
  refine ⟨_, rfl, _, rfl, p, _, dx, _, rfl, upd_same, T.cl_Rule, T.n_Rule_shades, Nat.lt_of_le_of_lt (few (few (few few0))) (by decide), ?_⟩
  refine q _ ⟨dx, upd_same⟩ fun b o e hb => ?_
  rw [upd_ne hb, upd_ne hb, upd_ne hb, upd_ne hb]
  exact e
end
end KB
namespace KB
open PySem PySem.Spec PyProof.Rows L2 KA
section
variable {P : Program} {w : World} {K : PySem.W.Frag} {mg : Str → Option Value} {base : Heap}
/-- a place of a row of beads -/
def BV (C : Addr) (H : Hp) (v : V) (o : Option Rw) : Prop := (v = .non ∧ o = none) ∨ ∃ p r, v = .ref p ∧ o = some r ∧ BeadAt C H p r
structure Bds (C : Addr) (H : Hp) (vs : List V) (rs : List (Option Rw)) : Prop where
  len : vs.length = rs.length
  at_ : ∀ (i : Nat) (v : V), vs[i]? = some v → ∃ o, rs[i]? = some o ∧ BV C H v o
theorem BV.same {C : Addr} {H H' : Hp} {v : V} {o : Option Rw} (s : NL H H') (h : BV C H v o) : BV C H' v o := by
  rcases h with h | ⟨p, r, h1, h2, dx, h3⟩
  · exact .inl h
  · exact .inr ⟨p, r, h1, h2, dx, s _ _ (fun _ z => by cases z) h3⟩
theorem Bds.same {C : Addr} {H H' : Hp} {vs : List V} {rs : List (Option Rw)} (s : NL H H') (h : Bds C H vs rs) : Bds C H' vs rs :=
  ⟨h.len, fun i v hv => by
    obtain ⟨o, h1, h2⟩ := h.at_ i v hv
    exact ⟨o, h1, h2.same s⟩⟩
theorem Bds.get {C : Addr} {H : Hp} {vs : List V} {rs : List (Option Rw)} (h : Bds C H vs rs) {i : Nat} {o : Option Rw} (ho : rs[i]? = some o) : ∃ v, vs[i]? = some v ∧ BV C H v o := by
  have hi : i < vs.length := by
    rw [h.len]
    exact (List.getElem?_eq_some_iff.mp ho).1
  obtain ⟨o', h1, h2⟩ := h.at_ i _ (List.getElem?_eq_getElem hi)
  have : o = o' := Option.some.inj (ho.symm.trans h1)
  subst this
  exact ⟨_, List.getElem?_eq_getElem hi, h2⟩
theorem Bds.bead {C : Addr} {H : Hp} {vs : List V} {rs : List (Option Rw)} (h : Bds C H vs rs) {i : Nat} {r : Rw} (ho : rs[i]? = some (some r)) : ∃ p dx, vs[i]? = some (.ref p) ∧ H p = some (.ins C dx (bf r)) := by
  obtain ⟨v, hv, h | ⟨p, r', h1, h2, dx, h3⟩⟩ := h.get ho
  · cases h.2
  · subst h1
    have : r = r' := Option.some.inj h2
    subst this
    exact ⟨p, dx, hv, h3⟩
/-! what is asked of a row, as functions -/
def isNum (n : Int) (o : Option Rw) : Bool := match o with
  | some r => decide (r.num = n)
  | none => false
def twice (rs : List (Option Rw)) (i : Nat) (n : Int) : Bool := (rs.take i).any (isNum n)
def stepBad (u : Rl) (d : Int) : Bool := decide (d < u.lo) || decide (u.hi < d)
def stepBars (rs : List (Option Rw)) (u : Rl) (i : Nat) (r : Rw) : Bool := if i = 0 ∨ 2 * i = rs.length then false else match rs[i - 1]? with
  | some (some q) => stepBad u (if rs.length < 2 * i then -(r.ac - q.ac) else r.ac - q.ac)
  | _ => false
def partner (rs : List (Option Rw)) (i : Nat) : Option Rw := if 2 * i < rs.length then none else match rs[rs.length - 1 - i]? with
  | some (some q) => some q
  | _ => none
def look (r p : Rw) : Bool := decide (r.sh = p.sh) && (decide (r.fo = p.fo) && decide (r.dr = p.dr))
def apart (a b : Int) : Int := if a - b < 0 then -(a - b) else a - b
def reason (rs : List (Option Rw)) (u : Rl) (i : Nat) (r : Rw) : V := if twice rs i r.num = true then .str "twice" else if stepBars rs u i r = true then .str "step" else match partner rs i with
  | none => .non
  | some p => if u.far < apart r.ac p.ac then .str "match" else if (u.shd && !look r p) = true then .str "shade" else .non
def barFrom (rs : List (Option Rw)) (u : Rl) : Nat → Nat → Option (Nat × V)
  | 0, _ => none
  | k + 1, i => match rs[i]? with
    | some (some r) => if reason rs u i r = .non then barFrom rs u k (i + 1) else some (i, reason rs u i r)
    | _ => barFrom rs u k (i + 1)
def bar (rs : List (Option Rw)) (u : Rl) : Option (Nat × V) := barFrom rs u rs.length 0
theorem fld_number {K : PySem.W.Frag} {C : Addr} {H : Hp} {p dx : Addr} {r : Rw} (h : H p = some (.ins C dx (bf r))) : True := trivial
def spStands (K : PySem.W.Frag) (C : Addr) : Sp := fun vs H Q _ => ∃ (b : Addr) (i : Nat) (xs : List V) (rs : List (Option Rw)) (r : Rw), vs = [.ref b, .int i] ∧ SqL K H b xs ∧ Bds C H xs rs ∧ rs[i]? = some (some r) ∧ rs.length ≤ 1000 ∧
  ∀ H', Same H H' → Q (.bl (twice rs i r.num)) H'
theorem ok_stands_ahead (T : Tx K mg) : FnOk P w K mg base CX0 1 T.A_stands_ahead T.fd_stands_ahead ["beads", "at"] (spStands K T.C_Bead) := by
  refine T.F_stands_ahead.ok sc_stands_ahead (fun vs H Q E h => ?_) (fun cdv A outer s H vs Q E hr h => ?_)
  · obtain ⟨b, i, xs, rs, r, rfl, hS, hB, hi, hl, q⟩ := h
    rfl
  obtain ⟨b, i, xs, rs, r, rfl, hS, hB, hi, hl, q⟩ := h
  refine ⟨_, (pss_cons (ps_set (i := 2) sc_stands_ahead.nd rfl (Or.inr rfl) (pe_fld (pe_ix ix_list (pv 0) (pv 1) (fun _ _ => rfl)) rfl))
      (pss_one (ps_ret (pe_callB (cr_any rfl) (by rfl) T.z_any (by decide +kernel) (pa_cons (pe_lc (own := [("bead", 3)]) (g := gName 3) (tt := tYes) rfl sc_stands_ahead.nd (pi_list (pe_slice sl_list (pv 0) po_none (po_some (pv 1)))) (blkOk_by (N := ["beads", "at", "number", "bead"]) (sc := defScope s_stands_ahead) (by decide +kernel)) (fun _ _ _ _ _ => (pg_name (i := 3) sc_stands_ahead.nd rfl (Or.inl rfl))) (fun _ _ _ _ _ => pts_nil) (fun _ _ _ _ _ => (pe_and (pe_cmpR op_notN (pv 3) pe_non (nomark _)) (pe_one (pe_cmpR op_eq (pe_fldK (K' := K) rfl (pv 3) rfl) (pv 2) (nomark _)))))) pa_nil))))), ?_⟩
  obtain ⟨p, dx, hp, hH⟩ := hB.bead hi
  refine ⟨_, rfl, _, rfl, b, xs, _, _, rfl, rfl, hS, atI_nat hp, p, _, dx, _, _, rfl, hH, T.cl_Bead, T.n_Bead_number, bf_number r, ?_⟩
  refine ⟨_, rfl, _, rfl, _, rfl, b, xs, rfl, hS, fun c hc => ?_⟩
  have s1 : Same H (upd H c (.lst (cutV xs none (some (i : Int))))) := same_upd hc
  refine ⟨c, rfl, ⟨_, SqL.of upd_same⟩, fun D hD => ?_⟩
  have hcut := cut_to xs i
  have hlen : (cutV xs none (some (i : Int))).length ≤ 10000 := by
    rw [hcut, List.length_take, hB.len]
    omega
  refine lc_vals (K := K) (a := c) hD (SqL.of upd_same) hlen (fun j => .bl (isNum r.num (rs.getD j none))) ?_ ?_
  · intro j x H2 R C hx s2 hR
    rw [hcut] at hx
    have hji : j < i := by
      have := (List.getElem?_eq_some_iff.mp hx).1
      rw [List.length_take] at this
      omega
    rw [List.getElem?_take_of_lt hji] at hx
    obtain ⟨o, ho, hv⟩ := hB.at_ j x hx
    have hv := hv.same (NL.of (s1.trans s2))
    have eo : rs.getD j none = o := by rw [List.getD_eq_getElem?_getD, ho]; rfl
    rw [eo] at hR
    refine ⟨rfl, yesT ⟨_, rfl, rfl, _, rfl, ?_⟩⟩
    rcases hv with ⟨rfl, rfl⟩ | ⟨p', r', rfl, rfl, dx', h'⟩
    · exact iteF hR
    · refine iteT ⟨_, rfl, p', _, dx', _, _, rfl, h', T.cl_Bead, T.n_Bead_number, bf_number r', _, rfl, rfl, ?_⟩
      have : decide (V.int r'.num = V.int r.num) = isNum r.num (some r') := by
        show _ = decide (r'.num = r.num)
        rw [decide_eq_decide]
        exact ⟨fun e => by injection e, fun e => by rw [e]⟩
      rw [this]
      exact hR
  · intro H' s' e'
    refine ⟨D, (List.range (cutV xs none (some (i : Int))).length).map (fun j => isNum r.num (rs.getD j none)), rfl, SqL.of (by rw [e', List.map_map]; rfl), ?_⟩
    have : ((List.range (cutV xs none (some (i : Int))).length).map (fun j => isNum r.num (rs.getD j none))).any id = twice rs i r.num := by
      unfold twice
      have : rs.take i = (List.range (cutV xs none (some (i : Int))).length).map (fun j => rs.getD j none) := by
        rw [hcut, List.length_take, hB.len]
        refine List.ext_getElem? fun j => ?_
        rw [List.getElem?_map]
        by_cases h : j < min i rs.length
        · rw [List.getElem?_range h, List.getElem?_take_of_lt (by omega)]
          show _ = some (rs.getD j none)
          rw [List.getD_eq_getElem?_getD, List.getElem?_eq_getElem (show j < rs.length by omega)]
          rfl
        · rw [List.getElem?_eq_none (by rw [List.length_take]; omega), List.getElem?_eq_none (by rw [List.length_range]; omega)]
          rfl
      rw [this, List.any_map, List.any_map]
      rfl
    rw [this]
    exact q H' (s1.trans s')
def spSteps (K : PySem.W.Frag) (C D : Addr) : Sp := fun vs H Q _ => ∃ (b m : Addr) (i : Nat) (xs : List V) (rs : List (Option Rw)) (r : Rw) (u : Rl), vs = [.ref b, .int i, .ref m] ∧ SqL K H b xs ∧ Bds C H xs rs ∧ RuleAt D H m u ∧ rs[i]? = some (some r) ∧ rs.length ≤ 1000 ∧
  Q (.bl (stepBars rs u i r)) H
theorem ok_breaks_step (T : Tx K mg) : FnOk P w K mg base CX0 1 T.A_breaks_step T.fd_breaks_step ["beads", "at", "rule"] (spSteps K T.C_Bead T.C_Rule) := by
  refine T.F_breaks_step.ok sc_breaks_step (fun vs H Q E h => ?_) (fun cdv A outer s H vs Q E hr h => ?_)
  · obtain ⟨b, m, i, xs, rs, r, u, rfl, hS, hB, ⟨dm, hm⟩, hi, hl, q⟩ := h
    rfl
  obtain ⟨b, m, i, xs, rs, r, u, rfl, hS, hB, ⟨dm, hm⟩, hi, hl, q⟩ := h
  refine ⟨_, (pss_cons (ps_if (PW.pt (pw_or (pt_cmpR op_eq (pv 1) pe_int (nomark _)) (pw_or (pt_cmpR op_eq (pe_op op_mul pe_int (pv 1)) (pe_callB call_len_seq (by rfl) T.z_len PySem.boot_len (pa_cons (pv 0) pa_nil)) (nomark _)) (pw_or1 (pt_cmpR op_isN (pe_ix ix_list (pv 0) (pe_op op_sub (pv 1) pe_int) (fun _ _ => rfl)) pe_non (nomark _)))))) (pss_one (ps_ret pe_bl)) pss_nil)
      (pss_cons (ps_set (i := 3) sc_breaks_step.nd rfl (Or.inl rfl) (pe_op op_sub (pe_fld (pe_ix ix_list (pv 0) (pv 1) (fun _ _ => rfl)) rfl) (pe_fld (pe_ix ix_list (pv 0) (pe_op op_sub (pv 1) pe_int) (fun _ _ => rfl)) rfl)))
      (pss_cons (ps_if (pt_cmpR op_gt (pe_op op_mul pe_int (pv 1)) (pe_callB call_len_seq (by rfl) T.z_len PySem.boot_len (pa_cons (pv 0) pa_nil)) (nomark _)) (pss_one (ps_set (i := 3) sc_breaks_step.nd rfl (Or.inl rfl) (pe_un un_neg (pv 3)))) pss_nil)
      (pss_one (ps_ret (pe_or (pe_cmpR op_lt (pv 3) (pe_fld (pv 2) rfl) (nomark _)) (pe_one (pe_cmpR op_gt (pv 3) (pe_fld (pv 2) rfl) (nomark _))))))))), ?_⟩
  obtain ⟨p, dx, hp, hH⟩ := hB.bead hi
  have hil : i < rs.length := (List.getElem?_eq_some_iff.mp hi).1
  have eL := hB.len
  refine ⟨_, rfl, rfl, _, rfl, ?_⟩
  by_cases h0 : i = 0
  · subst h0
    refine iteT (iteT ?_)
    have : stepBars rs u 0 r = false := by
      unfold stepBars
      rw [if_pos (Or.inl rfl)]
    rw [this] at q
    exact q
  · rw [decide_eq_false (show ¬ V.int (i : Int) = V.int 0 from fun e => h0 (by injection e with e; omega))]
    refine iteF ⟨_, rfl, _, _, rfl, rfl, .inl ⟨by decide, by decide⟩, _, rfl, b, xs, rfl, .inl hS, rfl, _, rfl, ?_⟩
    by_cases h1 : 2 * i = rs.length
    · rw [decide_eq_true (show V.int (2 * (i : Int)) = V.int (xs.length : Int) by congr 1; omega)]
      refine iteT (iteT ?_)
      have : stepBars rs u i r = false := by
        unfold stepBars
        rw [if_pos (Or.inr h1)]
      rw [this] at q
      exact q
    · rw [decide_eq_false (show ¬ V.int (2 * (i : Int)) = V.int (xs.length : Int) from fun e => h1 (by injection e with e; omega))]
      obtain ⟨o, ho⟩ : ∃ o, rs[i - 1]? = some o := ⟨_, List.getElem?_eq_getElem (by omega)⟩
      obtain ⟨v, hv, hbv⟩ := hB.get ho
      have hat : atI xs ((i : Int) - 1) = some v := at_of (j := i - 1) (by omega) hv
      refine iteF ⟨_, rfl, _, rfl, _, _, rfl, rfl, b, xs, _, v, rfl, rfl, hS, hat, rfl, _, rfl, ?_⟩
      have hS0 : ∀ x, x = stepBars rs u i r → Q (.bl x) H := fun x e => by rw [e]; exact q
      rcases hbv with ⟨rfl, rfl⟩ | ⟨p', r', rfl, rfl, dx', h'⟩
      · refine iteT ?_
        refine hS0 _ ?_
        unfold stepBars
        rw [if_neg (by omega), ho]
      · refine iteF ?_
        refine ⟨_, rfl, _, rfl, b, xs, _, _, rfl, rfl, hS, atI_nat hp, p, _, dx, _, _, rfl, hH, T.cl_Bead, T.n_Bead_across, bf_across r, ?_⟩
        refine ⟨_, rfl, _, rfl, _, _, rfl, rfl, b, xs, _, _, rfl, rfl, hS, hat, p', _, dx', _, _, rfl, h', T.cl_Bead, T.n_Bead_across, bf_across r', _, _, rfl, rfl, ?_⟩
        have eS : stepBars rs u i r = stepBad u (if rs.length < 2 * i then -(r.ac - r'.ac) else r.ac - r'.ac) := by
          unfold stepBars
          rw [if_neg (by omega), ho]
        refine ⟨_, rfl, _, _, rfl, rfl, .inl ⟨by decide, by decide⟩, _, rfl, b, xs, rfl, .inl hS, _, _, rfl, rfl, _, rfl, ?_⟩
        by_cases h2 : rs.length < 2 * i
        · rw [decide_eq_true (show (xs.length : Int) < 2 * (i : Int) by omega)]
          rw [if_pos h2] at eS
          refine iteT ⟨_, rfl, _, rfl, ?_⟩
          refine ⟨_, rfl, _, rfl, m, _, dm, _, _, rfl, hm, T.cl_Rule, T.n_Rule_least, uf_least u, _, _, rfl, rfl, _, rfl, ?_⟩
          by_cases h3 : -(r.ac - r'.ac) < u.lo
          · rw [decide_eq_true h3]
            refine iteT (hS0 _ ?_)
            rw [eS]
            unfold stepBad
            rw [decide_eq_true h3, Bool.true_or]
          · rw [decide_eq_false h3]
            refine iteF ⟨_, rfl, _, rfl, m, _, dm, _, _, rfl, hm, T.cl_Rule, T.n_Rule_most, uf_most u, _, _, rfl, rfl, hS0 _ ?_⟩
            rw [eS]
            unfold stepBad
            rw [decide_eq_false h3, Bool.false_or]
        · rw [decide_eq_false (show ¬ (xs.length : Int) < 2 * (i : Int) by omega)]
          rw [if_neg h2] at eS
          refine iteF ?_
          refine ⟨_, rfl, _, rfl, m, _, dm, _, _, rfl, hm, T.cl_Rule, T.n_Rule_least, uf_least u, _, _, rfl, rfl, _, rfl, ?_⟩
          by_cases h3 : (r.ac - r'.ac) < u.lo
          · rw [decide_eq_true h3]
            refine iteT (hS0 _ ?_)
            rw [eS]
            unfold stepBad
            rw [decide_eq_true h3, Bool.true_or]
          · rw [decide_eq_false h3]
            refine iteF ⟨_, rfl, _, rfl, m, _, dm, _, _, rfl, hm, T.cl_Rule, T.n_Rule_most, uf_most u, _, _, rfl, rfl, hS0 _ ?_⟩
            rw [eS]
            unfold stepBad
            rw [decide_eq_false h3, Bool.false_or]
end
end KB
namespace KB
open PySem PySem.Spec PyProof.Rows L2 KA
section
variable {P : Program} {w : World} {K : PySem.W.Frag} {mg : Str → Option Value} {base : Heap}
def PV (C : Addr) (H : Hp) (v : V) (o : Option Rw) : Prop := BV C H v o
def spPartner (K : PySem.W.Frag) (C : Addr) : Sp := fun vs H Q _ => ∃ (b : Addr) (i : Nat) (xs : List V) (rs : List (Option Rw)), vs = [.ref b, .int i] ∧ SqL K H b xs ∧ Bds C H xs rs ∧ i < rs.length ∧ rs.length ≤ 1000 ∧
  ∀ v, BV C H v (partner rs i) → Q v H
theorem ok_partner_of (T : Tx K mg) : FnOk P w K mg base CX0 1 T.A_partner_of T.fd_partner_of ["beads", "at"] (spPartner K T.C_Bead) := by
  refine T.F_partner_of.ok sc_partner_of (fun vs H Q E h => ?_) (fun cdv A outer s H vs Q E hr h => ?_)
  · obtain ⟨b, i, xs, rs, rfl, hS, hB, hi, hl, q⟩ := h
    rfl
  obtain ⟨b, i, xs, rs, rfl, hS, hB, hi, hl, q⟩ := h
  refine ⟨_, (pss_cons (ps_if (pt_cmpR op_lt (pe_op op_mul pe_int (pv 1)) (pe_callB call_len_seq (by rfl) T.z_len PySem.boot_len (pa_cons (pv 0) pa_nil)) (nomark _)) (pss_one (ps_ret pe_non)) pss_nil)
      (pss_one (ps_ret (pe_ix ix_list (pv 0) (pe_op op_sub (pe_op op_sub (pe_callB call_len_seq (by rfl) T.z_len PySem.boot_len (pa_cons (pv 0) pa_nil)) pe_int) (pv 1)) (fun _ _ => rfl))))), ?_⟩
  have eL := hB.len
  refine ⟨_, rfl, _, _, rfl, rfl, .inl ⟨by decide, by decide⟩, _, rfl, b, xs, rfl, .inl hS, _, _, rfl, rfl, _, rfl, ?_⟩
  by_cases h : 2 * i < rs.length
  · rw [decide_eq_true (show 2 * (i : Int) < (xs.length : Int) by omega)]
    refine iteT (q _ (.inl ⟨rfl, ?_⟩))
    unfold partner
    rw [if_pos h]
  · rw [decide_eq_false (show ¬ 2 * (i : Int) < (xs.length : Int) by omega)]
    obtain ⟨o, ho⟩ : ∃ o, rs[rs.length - 1 - i]? = some o := ⟨_, List.getElem?_eq_getElem (by omega)⟩
    obtain ⟨v, hv, hbv⟩ := hB.get ho
    refine iteF ⟨_, rfl, _, rfl, b, xs, rfl, .inl hS, _, _, rfl, rfl, _, rfl, _, _, rfl, rfl, b, xs, _, v, rfl, rfl, hS, at_of (j := rs.length - 1 - i) (by omega) hv, q v ?_⟩
    have : partner rs i = o := by
      unfold partner
      rw [if_neg h, ho]
      cases o <;> rfl
    rw [this]
    exact hbv
def spLook (C : Addr) : Sp := fun vs H Q _ => ∃ (p p' : Addr) (r r' : Rw), vs = [.ref p, .ref p'] ∧ BeadAt C H p r ∧ BeadAt C H p' r' ∧ Q (.bl (look r r')) H
theorem dec_str (a b : Str) : decide (V.str a = V.str b) = decide (a = b) := by
  rw [decide_eq_decide]
  exact ⟨fun e => by injection e, fun e => by rw [e]⟩
theorem dec_bl (a b : Bool) : decide (V.bl a = V.bl b) = decide (a = b) := by
  rw [decide_eq_decide]
  exact ⟨fun e => by injection e, fun e => by rw [e]⟩
theorem ok_same_look (T : Tx K mg) : FnOk P w K mg base CX0 1 T.A_same_look T.fd_same_look ["bead", "other"] (spLook T.C_Bead) := by
  refine T.F_same_look.ok sc_same_look (fun vs H Q E h => ?_) (fun cdv A outer s H vs Q E hr h => ?_)
  · obtain ⟨p, p', r, r', rfl, ⟨dx, hp⟩, ⟨dx', hp'⟩, q⟩ := h
    rfl
  obtain ⟨p, p', r, r', rfl, ⟨dx, hp⟩, ⟨dx', hp'⟩, q⟩ := h
  refine ⟨_, (pss_one (ps_ret (pe_and (pe_cmpR op_eq (pe_fld (pv 0) rfl) (pe_fld (pv 1) rfl) (nomark _)) (pe_and (pe_cmpR op_eq (pe_fld (pv 0) rfl) (pe_fld (pv 1) rfl) (nomark _)) (pe_one (pe_cmpR op_eq (pe_fld (pv 0) rfl) (pe_fld (pv 1) rfl) (nomark _))))))), ?_⟩
  refine ⟨_, rfl, p, _, dx, _, _, rfl, hp, T.cl_Bead, T.n_Bead_shade, bf_shade r, _, rfl, p', _, dx', _, _, rfl, hp', T.cl_Bead, T.n_Bead_shade, bf_shade r', rfl, _, rfl, ?_⟩
  rw [dec_str]
  have e : look r r' = (decide (r.sh = r'.sh) && (decide (r.fo = r'.fo) && decide (r.dr = r'.dr))) := rfl
  by_cases h1 : r.sh = r'.sh
  · rw [decide_eq_true h1, Bool.true_and] at e
    rw [decide_eq_true h1]
    refine iteT ⟨_, rfl, p, _, dx, _, _, rfl, hp, T.cl_Bead, T.n_Bead_form, bf_form r, _, rfl, p', _, dx', _, _, rfl, hp', T.cl_Bead, T.n_Bead_form, bf_form r', rfl, _, rfl, ?_⟩
    rw [dec_str]
    by_cases h2 : r.fo = r'.fo
    · rw [decide_eq_true h2, Bool.true_and] at e
      rw [decide_eq_true h2]
      refine iteT ⟨_, rfl, p, _, dx, _, _, rfl, hp, T.cl_Bead, T.n_Bead_drilled, bf_drilled r, _, rfl, p', _, dx', _, _, rfl, hp', T.cl_Bead, T.n_Bead_drilled, bf_drilled r', rfl, ?_⟩
      rw [dec_bl, ← e]
      exact q
    · rw [decide_eq_false h2] at e ⊢
      rw [e] at q
      exact iteF q
  · rw [decide_eq_false h1] at e ⊢
    rw [e] at q
    exact iteF q
def spReason (K : PySem.W.Frag) (C D : Addr) : Sp := fun vs H Q _ => ∃ (b m : Addr) (i : Nat) (xs : List V) (rs : List (Option Rw)) (r : Rw) (u : Rl), vs = [.ref b, .int i, .ref m] ∧ SqL K H b xs ∧ Bds C H xs rs ∧ RuleAt D H m u ∧ rs[i]? = some (some r) ∧ rs.length ≤ 1000 ∧
  ∀ H', Same H H' → Q (reason rs u i r) H'
theorem ok_reason_at (T : Tx K mg) : FnOk P w K mg base CX0 2 T.A_reason_at T.fd_reason_at ["beads", "at", "rule"] (spReason K T.C_Bead T.C_Rule) := by
  refine T.F_reason_at.ok sc_reason_at (fun vs H Q E h => ?_) (fun cdv A outer s H vs Q E hr h => ?_)
  · obtain ⟨b, m, i, xs, rs, r, u, rfl, hS, hB, ⟨dm, hm⟩, hi, hl, q⟩ := h
    rfl
  obtain ⟨b, m, i, xs, rs, r, u, rfl, hS, hB, ⟨dm, hm⟩, hi, hl, q⟩ := h
  refine ⟨_, (pss_cons (ps_if (pt_val (pe_call (ok_stands_ahead T) (hr.mono (by decide)) (by rfl) T.g_stands_ahead T.F_stands_ahead.kp T.b_stands_ahead .nil pass0 (pa_cons (pv 0) (pa_cons (pv 1) pa_nil)))) (pss_one (ps_ret pe_str)) pss_nil)
      (pss_cons (ps_if (pt_val (pe_call (ok_breaks_step T) (hr.mono (by decide)) (by rfl) T.g_breaks_step T.F_breaks_step.kp T.b_breaks_step .nil pass0 (pa_cons (pv 0) (pa_cons (pv 1) (pa_cons (pv 2) pa_nil))))) (pss_one (ps_ret pe_str)) pss_nil)
      (pss_cons (ps_set (i := 3) sc_reason_at.nd rfl (Or.inl rfl) (pe_ix ix_list (pv 0) (pv 1) (fun _ _ => rfl)))
      (pss_cons (ps_set (i := 4) sc_reason_at.nd rfl (Or.inl rfl) (pe_call (ok_partner_of T) (hr.mono (by decide)) (by rfl) T.g_partner_of T.F_partner_of.kp T.b_partner_of .nil pass0 (pa_cons (pv 0) (pa_cons (pv 1) pa_nil))))
      (pss_cons (ps_if (pt_cmpR op_isN (pv 4) pe_non (nomark _)) (pss_one (ps_ret pe_non)) pss_nil)
      (pss_cons (ps_if (pt_cmpR op_gt (pe_callB call_abs (by rfl) T.z_abs (by decide +kernel) (pa_cons (pe_op op_sub (pe_fld (pv 3) rfl) (pe_fld (pv 4) rfl)) pa_nil)) (pe_fld (pv 2) rfl) (nomark _)) (pss_one (ps_ret pe_str)) pss_nil)
      (pss_cons (ps_if (PW.pt (pw_and (pt_val (pe_fld (pv 2) rfl)) (pw_and1 (pt_not (pt_val (pe_call (ok_same_look T) (hr.mono (by decide)) (by rfl) T.g_same_look T.F_same_look.kp T.b_same_look .nil pass0 (pa_cons (pv 3) (pa_cons (pv 4) pa_nil)))))))) (pss_one (ps_ret pe_str)) pss_nil)
      (pss_one (ps_ret pe_non))))))))), ?_⟩
  obtain ⟨p, dx, hp, hH⟩ := hB.bead hi
  have hil : i < rs.length := (List.getElem?_eq_some_iff.mp hi).1
  refine ⟨_, rfl, _, rfl, b, i, xs, rs, r, rfl, hS, hB, hi, hl, fun H1 s1 => ⟨_, rfl, ?_⟩⟩
  have hS1 := s1.seq hS
  have hB1 := hB.same (NL.of s1)
  have hm1 := s1 _ _ hm
  have q := q H1 s1
  unfold reason at q
  by_cases h1 : twice rs i r.num = true
  · rw [h1]
    rw [if_pos h1] at q
    exact iteT q
  · rw [if_neg h1] at q
    rw [Bool.not_eq_true] at h1
    rw [h1]
    refine iteF ⟨_, rfl, _, rfl, _, rfl, b, m, i, xs, rs, r, u, rfl, hS1, hB1, ⟨dm, hm1⟩, hi, hl, _, rfl, ?_⟩
    by_cases h2 : stepBars rs u i r = true
    · rw [h2]
      rw [if_pos h2] at q
      exact iteT q
    · rw [if_neg h2] at q
      rw [Bool.not_eq_true] at h2
      rw [h2]
      refine iteF ⟨_, rfl, _, rfl, b, xs, _, _, rfl, rfl, hS1, atI_nat hp, ?_⟩
      refine ⟨_, rfl, _, rfl, b, i, xs, rs, rfl, hS1, hB1, hil, hl, fun v hv => ?_⟩
      refine ⟨_, rfl, rfl, _, rfl, ?_⟩
      rcases hv with ⟨rfl, e⟩ | ⟨p', r', rfl, e, dx', h'⟩
      · rw [e] at q
        exact iteT q
      · rw [e] at q
        have q : Q (if u.far < apart r.ac r'.ac then .str "match" else if (u.shd && !look r r') = true then .str "shade" else .non) H1 := q
        refine iteF ?_
        have hH1 := s1 _ _ hH
        refine ⟨_, rfl, p, _, dx, _, _, rfl, hH1, T.cl_Bead, T.n_Bead_across, bf_across r, _, rfl, p', _, dx', _, _, rfl, h', T.cl_Bead, T.n_Bead_across, bf_across r', _, _, rfl, rfl, _, rfl, ?_⟩
        refine ⟨_, rfl, m, _, dm, _, _, rfl, hm1, T.cl_Rule, T.n_Rule_match, uf_match u, _, _, rfl, rfl, _, rfl, ?_⟩
        show if decide (u.far < apart r.ac r'.ac) = true then _ else _
        by_cases h3 : u.far < apart r.ac r'.ac
        · rw [decide_eq_true h3]
          rw [if_pos h3] at q
          exact iteT q
        · rw [decide_eq_false h3]
          rw [if_neg h3] at q
          refine iteF ⟨_, rfl, m, _, dm, _, _, rfl, hm1, T.cl_Rule, T.n_Rule_shades, uf_shades u, _, rfl, ?_⟩
          by_cases h4 : u.shd = true
          · rw [h4, Bool.true_and] at q
            rw [h4]
            refine iteT ⟨_, rfl, _, rfl, p, p', r, r', rfl, ⟨dx, hH1⟩, ⟨dx', h'⟩, _, rfl, ?_⟩
            by_cases h5 : (!look r r') = true
            · rw [if_pos h5] at q
              rw [h5]
              exact iteT q
            · rw [if_neg h5] at q
              rw [Bool.not_eq_true] at h5
              rw [h5]
              exact iteF q
          · rw [Bool.not_eq_true] at h4
            rw [h4] at q ⊢
            exact iteF (iteF q)
/-- what barred tells -/
def OutV (H : Hp) (o : Option (Nat × V)) (v : V) : Prop := match o with
  | none => v = .non
  | some (i, x) => ∃ t, v = .ref t ∧ H t = some (.tup [.int i, x])
def spBarred (K : PySem.W.Frag) (C D : Addr) : Sp := fun vs H Q _ => ∃ (b m : Addr) (xs : List V) (rs : List (Option Rw)) (u : Rl), vs = [.ref b, .ref m] ∧ SqL K H b xs ∧ Bds C H xs rs ∧ RuleAt D H m u ∧ rs.length ≤ 1000 ∧
  ∀ H' v, Same H H' → OutV H' (bar rs u) v → Q v H'
theorem barFrom_gap {rs : List (Option Rw)} {u : Rl} {k i : Nat} (h : rs[i]? = some none) : barFrom rs u (k + 1) i = barFrom rs u k (i + 1) := by
  show (match rs[i]? with | some (some r) => _ | _ => _) = _
  rw [h]
theorem barFrom_ok {rs : List (Option Rw)} {u : Rl} {k i : Nat} {r : Rw} (h : rs[i]? = some (some r)) (e : reason rs u i r = .non) : barFrom rs u (k + 1) i = barFrom rs u k (i + 1) := by
  show (match rs[i]? with | some (some r) => _ | _ => _) = _
  rw [h]
  exact if_pos e
theorem barFrom_bad {rs : List (Option Rw)} {u : Rl} {k i : Nat} {r : Rw} (h : rs[i]? = some (some r)) (e : ¬ reason rs u i r = .non) : barFrom rs u (k + 1) i = some (i, reason rs u i r) := by
  show (match rs[i]? with | some (some r) => _ | _ => _) = _
  rw [h]
  exact if_neg e
theorem ok_barred (T : Tx K mg) : FnOk P w K mg base CX0 3 T.A_barred T.fd_barred ["beads", "rule"] (spBarred K T.C_Bead T.C_Rule) := by
  refine T.F_barred.ok sc_barred (fun vs H Q E h => ?_) (fun cdv A outer s H vs Q E hr h => ?_)
  · obtain ⟨b, m, xs, rs, u, rfl, hS, hB, hM, hl, q⟩ := h
    rfl
  obtain ⟨b, m, xs, rs, u, rfl, hS, hB, hM, hl, q⟩ := h
  refine ⟨_, (pss_cons (ps_for PassesOwn.never rfl (pi_enum (by rfl) T.z_enumerate (pa_cons (pv 0) pa_nil)) (pg_tup (by rfl) (pgs_cons (pg_name (i := 2) sc_barred.nd rfl (Or.inl rfl)) (pgs_cons (pg_name (i := 3) sc_barred.nd rfl (Or.inl rfl)) pgs_nil)))
        (pss_one (ps_if (pt_cmpR op_notN (pv 3) pe_non (nomark _)) (pss_cons (ps_set (i := 4) sc_barred.nd rfl (Or.inl rfl) (pe_call (ok_reason_at T) (hr.mono (by decide)) (by rfl) T.g_reason_at T.F_reason_at.kp T.b_reason_at .nil pass0 (pa_cons (pv 0) (pa_cons (pv 2) (pa_cons (pv 1) pa_nil)))))
      (pss_one (ps_if (pt_cmpR op_notN (pv 4) pe_non (nomark _)) (pss_one (ps_ret (pe_tup (pa_cons (pv 2) (pa_cons (pv 4) pa_nil))))) pss_nil))) pss_nil)))
      (pss_one (ps_ret pe_non))), ?_⟩
  have eL := hB.len
  refine ⟨_, rfl, b, xs, rfl, hS, for_it (walk_enum (K := K) (a := b) (xs := xs)) (fun i σ H' => ∃ w2 w3 w4, σ = [some (.ref b), some (.ref m), w2, w3, w4] ∧ Same H H' ∧ bar rs u = barFrom rs u (rs.length - i) i) ⟨_, _, _, rfl, Same.refl H, rfl⟩ (fun i σ H' _ h => ?_) ?_ ?_⟩
  · obtain ⟨_, _, _, _, s, _⟩ := h
    exact s.seq hS
  · rintro i x σ H1 H2 hi ⟨w2, w3, w4, rfl, s1, hbar⟩ ⟨t, x1, x2, rfl, nt, rfl, e1, e2⟩
    obtain rfl : V.int (i : Nat) = x1 := Option.some.inj e1
    obtain ⟨o, ho, hv⟩ := hB.at_ i x2 e2
    have st : Same H1 (upd H1 t (.tup [.int (i : Nat), x2])) := same_upd nt
    have s2 := s1.trans st
    have hv := hv.same (NL.of s2)
    obtain ⟨k, hk⟩ : ∃ k, rs.length - i = k + 1 := ⟨rs.length - i - 1, by omega⟩
    have hk' : rs.length - (i + 1) = k := by omega
    rw [hk] at hbar
    refine ⟨t, _, rfl, .inl (.inl upd_same), rfl, _, [x2], rfl, x2, [], rfl, rfl, ?_⟩
    refine ⟨_, rfl, rfl, _, rfl, ?_⟩
    rcases hv with ⟨rfl, rfl⟩ | ⟨p, r, rfl, rfl, hp⟩
    · refine iteF ⟨_, _, _, rfl, s2, ?_⟩
      rw [hbar, hk', barFrom_gap ho]
    · refine iteT ⟨_, rfl, _, rfl, _, rfl, b, m, i, xs, rs, r, u, rfl, s2.seq hS, hB.same (NL.of s2), ?_, ho, hl, fun H3 s3 => ?_⟩
      · obtain ⟨dm, hm⟩ := hM
        exact ⟨dm, s2 _ _ hm⟩
      · refine ⟨_, rfl, rfl, _, rfl, ?_⟩
        by_cases h : reason rs u i r = .non
        · rw [decide_eq_true h]
          refine iteF ⟨_, _, _, rfl, s2.trans s3, ?_⟩
          rw [hbar, hk', barFrom_ok ho h]
        · rw [decide_eq_false h]
          refine iteT ⟨_, rfl, _, rfl, (by show 2 ≤ sizeLine; decide), fun t2 ht2 => ?_⟩
          refine q _ _ ((s2.trans s3).trans (same_upd ht2)) ?_
          rw [hbar, barFrom_bad ho h]
          exact ⟨t2, rfl, upd_same⟩
  · rintro σ H1 ⟨w2, w3, w4, rfl, s1, hbar⟩
    refine q _ _ s1 ?_
    rw [hbar, show rs.length - xs.length = 0 by omega]
    rfl
end
end KB
namespace KB
open PySem PySem.Spec PyProof.Rows L2 KA
section
variable {P : Program} {w : World} {K : PySem.W.Frag} {mg : Str → Option Value} {base : Heap}
def PT : Int → Prop := fun _ => True
theorem dr_nl {PP : Int → Prop} {d : Addr} {n : Nat} {H H' : Hp} (dr : Dr PP d n H) (b : But d H H') : NL H H' := fun c o hn hc => by
  obtain ⟨_, _, _, e, _⟩ := dr
  exact b c o (fun z => by rw [z, e] at hc; exact hn _ (Option.some.inj hc).symm) hc
def spCell (K : PySem.W.Frag) : Sp := fun vs H Q _ => ∃ (a : Addr) (ns : List Int), vs = [.ref a, .int 0] ∧ SqL K H a (ns.map V.int) ∧ Q (.int (ns.headD 0)) H
theorem ok_cell_at (T : Tx K mg) : FnOk P w K mg base CX0 1 T.A_cell_at T.fd_cell_at ["_law_script", "_law_k"] (spCell K) := by
  refine T.F_cell_at.ok sc_cell_at (fun vs H Q E h => ?_) (fun cdv A outer s H vs Q E hr h => ?_)
  · obtain ⟨a, ns, rfl, hS, q⟩ := h
    rfl
  obtain ⟨a, ns, rfl, hS, q⟩ := h
  refine ⟨_, (pss_cons (ps_if (pt_cmpR op_lt (pv 1) (pe_callB call_len_seq (by rfl) T.z_len PySem.boot_len (pa_cons (pv 0) pa_nil)) (nomark _)) (pss_one (ps_ret (pe_ix ix_list (pv 0) (pv 1) (fun _ _ => rfl)))) pss_nil)
      (pss_one (ps_ret pe_int))), ?_⟩
  refine ⟨_, rfl, _, rfl, a, _, rfl, .inl hS, _, _, rfl, rfl, _, rfl, ?_⟩
  cases ns with
  | nil => exact iteF q
  | cons n r =>
    rw [decide_eq_true (show (0 : Int) < (((n :: r).map V.int).length : Int) by rw [List.length_map, List.length_cons]; omega)]
    exact iteT ⟨_, rfl, _, rfl, a, _, _, _, rfl, rfl, hS, atI_nat (j := 0) rfl, q⟩
def spWell : Sp := fun vs H Q _ => ∃ (n : Int), vs = [.int n] ∧ ∀ (d : Addr) (H' : Hp), H d = none → Same H H' → Dr PT d 0 H' → Q (.ref d) H'
theorem ok_well (T : Tx K mg) : FnOk P w K mg base CX0 1 T.A_well T.fd_well ["_law_cell"] (spWell) := by
  refine T.F_well.ok sc_well (fun vs H Q E h => ?_) (fun cdv A outer s H vs Q E hr h => ?_)
  · obtain ⟨n, rfl, q⟩ := h
    rfl
  obtain ⟨n, rfl, q⟩ := h
  refine ⟨_, (pss_one (ps_ret (pe_lst (pa_cons (pe_ix ix_list (pe_lst (pa_cons pe_int (pa_cons (pv 0) pa_nil))) (pe_callTy call_int1 (by rfl) T.z_int (by decide +kernel) (pa_cons (pe_cmpR op_ge (pv 0) (pe_op op_pow pe_int pe_int) (nomark _)) pa_nil)) (fun _ _ => rfl)) (pa_cons (pv 0) (pa_cons pe_int pa_nil)))))), ?_⟩
  refine ⟨_, rfl, (by show 2 ≤ sizeLine; decide), fun l hl => ?_⟩
  refine ⟨_, rfl, _, _, rfl, rfl, ⟨by decide, by decide, by decide⟩, _, _, rfl, rfl, .inr ⟨_, rfl, ?_⟩⟩
  obtain ⟨a, ha⟩ : ∃ a : Int, atI [V.int 0, V.int n] (if decide (10 ^ (18 : Int).toNat ≤ n) = true then (1 : Int) else 0) = some (.int a) := by
    split
    · exact ⟨n, rfl⟩
    · exact ⟨0, rfl⟩
  refine ⟨l, _, _, _, rfl, rfl, SqL.of upd_same, ha, _, rfl, (by show 3 ≤ sizeLine; decide), fun d hd => ?_⟩
  have s1 : Same H (upd H l (.lst [.int 0, .int n])) := same_upd hl
  exact q d _ (s1.free hd) (s1.trans (same_upd hd)) ⟨_, _, _, upd_same, trivial, Int.le_refl _, Int.le_refl _⟩
def spDraw : Sp := fun vs H Q _ => ∃ (d : Addr) (m : Int) (n : Nat), vs = [.ref d, .int m] ∧ 0 < m ∧ m.natAbs.log2 < 9000 ∧ Dr PT d n H ∧ n ≤ 1000000 ∧
  ∀ (H' : Hp) (r : Int), 0 ≤ r → r < m → But d H H' → Dr PT d (n + 1) H' → Q (.int r) H'
theorem ok_draw (T : Tx K mg) : FnOk P w K mg base CX0 1 T.A_draw T.fd_draw ["_law_well_here", "_law_many"] (spDraw) := by
  refine T.F_draw.ok sc_draw (fun vs H Q E h => ?_) (fun cdv A outer s H vs Q E hr h => ?_)
  · obtain ⟨d, m, n, rfl, hm, hl, ⟨a, b, c, hd, _, hc0, hc1⟩, hn, q⟩ := h
    rfl
  obtain ⟨d, m, n, rfl, hm, hl, ⟨a, b, c, hd, _, hc0, hc1⟩, hn, q⟩ := h
  refine ⟨_, (pss_cons (ps_if (pt_cmpR op_gt (pe_ix ix_list (pv 0) pe_int (fun _ _ => rfl)) pe_int (nomark _)) (pss_cons (ps_set (i := 2) sc_draw.nd rfl (Or.inl rfl) (pe_op op_mod (pe_ix ix_list (pv 0) pe_int (fun _ _ => rfl)) (pv 1)))
      (pss_cons (ps_asg (pe_op op_fdivW (pe_ix ix_list (pv 0) pe_int (fun _ _ => rfl)) (pv 1)) (pg_sub (pv 0) pe_int set_list))
      (pss_one (ps_ret (pv 2))))) pss_nil)
      (pss_cons (ps_asg (pe_op op_add (pe_ix ix_list (pv 0) pe_int (fun _ _ => rfl)) pe_int) (pg_sub (pv 0) pe_int set_list))
      (pss_cons (ps_set (i := 3) sc_draw.nd rfl (Or.inl rfl) (pe_op op_mod (pe_op op_fdivW (pe_ix ix_list (pv 0) pe_int (fun _ _ => rfl)) pe_int) pe_int))
      (pss_cons (ps_set (i := 4) sc_draw.nd rfl (Or.inl rfl) (pe_op op_mod (pe_op op_pow (pe_op op_add (pe_op op_add (pe_op op_add (pe_op op_mod (pe_ix ix_list (pv 0) pe_int (fun _ _ => rfl)) pe_int) (pe_op op_mul pe_int (pe_ix ix_list (pv 0) pe_int (fun _ _ => rfl)))) (pv 3)) pe_int) pe_int) pe_int))
      (pss_cons (ps_set (i := 4) sc_draw.nd rfl (Or.inl rfl) (pe_op op_mod (pe_op op_mul (pv 4) (pe_op op_add (pe_op op_add (pe_op op_fdiv (pv 4) pe_int) pe_int) (pe_ix ix_list (pv 0) pe_int (fun _ _ => rfl)))) pe_int))
      (pss_one (ps_ret (pe_op op_mod (pe_op op_mod (pe_op op_mul (pv 4) (pe_op op_add (pe_op op_fdiv (pv 4) pe_int) pe_int)) pe_int) (pv 1))))))))), ?_⟩
  refine ⟨_, rfl, d, _, _, _, rfl, rfl, SqL.of hd, atI_nat (j := 0) rfl, _, _, rfl, rfl, _, rfl, ite2 (fun e => ?_) (fun e => ?_)⟩
  · refine ⟨_, rfl, d, _, _, _, rfl, rfl, SqL.of hd, atI_nat (j := 0) rfl, _, rfl, _, _, rfl, rfl, hm, ?_⟩
    refine ⟨_, rfl, d, _, _, _, rfl, rfl, SqL.of hd, atI_nat (j := 0) rfl, _, rfl, _, _, rfl, rfl, ⟨hm, hl⟩, ?_⟩
    refine ⟨_, rfl, d, _, _, 0, rfl, rfl, hd, rfl, ?_⟩
    exact ⟨_, rfl, q _ _ (Int.emod_nonneg _ (by omega)) (Int.emod_lt_of_pos _ hm) But.at_ ⟨_, _, _, upd_same, trivial, hc0, by omega⟩⟩
  · refine ⟨_, rfl, d, _, _, _, rfl, rfl, SqL.of hd, atI_nat (j := 2) rfl, _, _, rfl, rfl, ?_⟩
    refine ⟨_, rfl, d, _, _, 2, rfl, rfl, hd, rfl, ?_⟩
    have hd' : (upd H d (.lst [.int a, .int b, .int (c + 1)])) d = some (.lst [.int a, .int b, .int (c + 1)]) := upd_same
    have e64 : (2 : Int) ^ 64 = 18446744073709551616 := by decide
    refine ⟨_, rfl, d, _, _, _, rfl, rfl, SqL.of hd', atI_nat (j := 1) rfl, _, _, rfl, rfl, ⟨by decide, by decide⟩, _, _, rfl, rfl, (by show (0 : Int) < 65521; decide), ?_⟩
    have hz0 : 0 ≤ b / 2147483629 % 65521 := Int.emod_nonneg _ (by decide)
    have hz1 : b / 2147483629 % 65521 < 65521 := Int.emod_lt_of_pos _ (by decide)
    have hb0 : 0 ≤ b % 2147483629 := Int.emod_nonneg _ (by decide)
    have hb1 : b % 2147483629 < 2147483629 := Int.emod_lt_of_pos _ (by decide)
    refine ⟨_, rfl, d, _, _, _, rfl, rfl, SqL.of hd', atI_nat (j := 1) rfl, _, _, rfl, rfl, (by show (0 : Int) < 2147483629; decide), _, rfl, d, _, _, _, rfl, rfl, SqL.of hd', atI_nat (j := 2) rfl, _, _, rfl, rfl, .inl ⟨by decide, by decide⟩, _, _, rfl, rfl, _, rfl, _, _, rfl, rfl, _, _, rfl, rfl, _, _, rfl, rfl, ⟨by decide, by decide, ?_⟩, _, _, rfl, rfl, (by show (0 : Int) < 2147483647; decide), ?_⟩
    · have e64 : (2 : Nat) ^ 64 = 18446744073709551616 := by decide
      rw [e64]
      show (b % 2147483629 + 7919 * (c + 1) + b / 2147483629 % 65521 + 1).natAbs < _
      omega
    · generalize hx : (b % 2147483629 + 7919 * (c + 1) + b / 2147483629 % 65521 + 1) ^ (5 : Int).toNat % 2147483647 = x
      have hx0 : 0 ≤ x := by rw [← hx]; exact Int.emod_nonneg _ (by decide)
      have hx1 : x < 2147483647 := by rw [← hx]; exact Int.emod_lt_of_pos _ (by decide)
      refine ⟨_, rfl, _, rfl, _, _, rfl, rfl, ⟨by decide, by decide⟩, _, _, rfl, rfl, _, rfl, d, _, _, _, rfl, rfl, SqL.of hd', atI_nat (j := 2) rfl, _, _, rfl, rfl, _, _, rfl, rfl, .inl ⟨?_, ?_⟩, _, _, rfl, rfl, (by show (0 : Int) < 2147483629; decide), ?_⟩
      · rw [e64]; omega
      · rw [e64]; omega
      · generalize hy : x * (x / 1009 + 69621 + (c + 1)) % 2147483629 = y
        have hy0 : 0 ≤ y := by rw [← hy]; exact Int.emod_nonneg _ (by decide)
        have hy1 : y < 2147483629 := by rw [← hy]; exact Int.emod_lt_of_pos _ (by decide)
        refine ⟨_, rfl, _, rfl, _, _, rfl, rfl, ⟨by decide, by decide⟩, _, _, rfl, rfl, _, _, rfl, rfl, .inl ⟨?_, ?_⟩, _, _, rfl, rfl, (by show (0 : Int) < 2147483399; decide), _, rfl, _, _, rfl, rfl, hm, ?_⟩
        · rw [e64]; omega
        · rw [e64]; omega
        · exact q _ _ (Int.emod_nonneg _ (by omega)) (Int.emod_lt_of_pos _ hm) But.at_ ⟨_, _, _, upd_same, trivial, by omega, by omega⟩
def spOf (K : PySem.W.Frag) : Sp := fun vs H Q _ => ∃ (d b : Addr) (n : Nat) (xs : List V), vs = [.ref d, .ref b] ∧ b ≠ d ∧ SqL K H b xs ∧ xs ≠ [] ∧ xs.length ≤ 1000 ∧ Dr PT d n H ∧ n ≤ 1000000 ∧
  ∀ (H' : Hp) (v : V), v ∈ xs → But d H H' → Dr PT d (n + 1) H' → Q v H'
theorem ok_one (T : Tx K mg) : FnOk P w K mg base CX0 2 T.A_one T.fd_one ["_law_well_here", "_law_some"] (spOf K) := by
  refine T.F_one.ok sc_one (fun vs H Q E h => ?_) (fun cdv A outer s H vs Q E hr h => ?_)
  · obtain ⟨d, b, n, xs, rfl, hbd, hS, hne, hlen, dr, hn, q⟩ := h
    rfl
  obtain ⟨d, b, n, xs, rfl, hbd, hS, hne, hlen, dr, hn, q⟩ := h
  refine ⟨_, (pss_one (ps_ret (pe_ix ix_list (pv 1) (pe_call (ok_draw T) (hr.mono (by decide)) (by rfl) T.g_draw T.F_draw.kp T.b_draw .nil pass0 (pa_cons (pv 0) (pa_cons (pe_callB call_len_seq (by rfl) T.z_len PySem.boot_len (pa_cons (pv 1) pa_nil)) pa_nil))) (fun _ _ => rfl)))), ?_⟩
  have hl : 0 < (xs.length : Int) := by
    cases xs with
    | nil => exact absurd rfl hne
    | cons x r => rw [List.length_cons]; omega
  refine ⟨_, rfl, _, rfl, _, rfl, b, xs, rfl, .inl hS, d, _, n, rfl, hl, log_tiny hl (by omega), dr, hn, fun H' r h0 h1 bt dr' => ?_⟩
  obtain ⟨j, rfl⟩ : ∃ j : Nat, r = (j : Int) := ⟨r.toNat, by omega⟩
  have hj : j < xs.length := by omega
  exact ⟨b, xs, _, _, rfl, rfl, but_seq bt hbd hS, atI_nat (List.getElem?_eq_getElem hj), q H' _ (List.getElem_mem hj) bt dr'⟩
def spWord : Sp := fun vs H Q _ => ∃ (d : Addr) (n : Nat), vs = [.ref d] ∧ Dr PT d n H ∧ n ≤ 100000 ∧
  ∀ (H' : Hp) (z : Str), nm (.str z) = true → But d H H' → Dr PT d (n + 10) H' → Q (.str z) H'
theorem ok_word (T : Tx K mg) : FnOk P w K mg base CX0 2 T.A_word T.fd_word ["_law_well_here"] (spWord) := by
  refine T.F_word.ok sc_word (fun vs H Q E h => ?_) (fun cdv A outer s H vs Q E hr h => ?_)
  · obtain ⟨d, n, rfl, dr, hn, q⟩ := h
    rfl
  obtain ⟨d, n, rfl, dr, hn, q⟩ := h
  refine ⟨_, (pss_one (ps_ret (pe_bm PySem.F.plainAttrs_str PySem.F.slot_str_join PySem.F.type_str_join mt_join pe_str (pa_cons (pe_lc (own := [("_law_k", 1)]) (g := gName 1) (tt := tYes) rfl sc_word.nd (pi_range1 (by rfl) T.z_range (pa_cons (pe_op op_add pe_int (pe_call (ok_draw T) (hr.mono (by decide)) (by rfl) T.g_draw T.F_draw.kp T.b_draw .nil pass0 (pa_cons (pv 0) (pa_cons pe_int pa_nil)))) pa_nil)) (blkOk_by (N := ["_law_well_here", "_law_k"]) (sc := defScope s_word) (by decide +kernel)) (fun _ _ _ _ _ => (pg_name (i := 1) sc_word.nd rfl (Or.inl rfl))) (fun _ _ _ _ _ => pts_nil) (fun _ _ _ _ _ => (pe_ix ix_str pe_str (pe_call (ok_draw T) (hr.mono (by decide)) (by rfl) T.g_draw T.F_draw.kp T.b_draw .nil pass0 (pa_cons (pv 0) (pa_cons pe_int pa_nil))) (fun _ _ => rfl)))) pa_nil)))), ?_⟩
  refine ⟨rfl, _, rfl, d, 8, n, rfl, by decide, log_tiny (by decide) (by decide), dr, by omega, fun H1 r h0 h1 b1 dr1 => ?_⟩
  refine ⟨_, _, rfl, rfl, _, rfl, by omega, by omega, fun D hD => lc_draw (d := d) (n := n + 1) (k := (1 + r).toNat) hD dr1 (by omega) lower ?_ ?_⟩
  · intro i H2 R C hi dr2 hR
    refine ⟨rfl, yesT ?_⟩
    refine ⟨_, rfl, d, 26, n + 1 + i, rfl, by decide, log_tiny (by decide) (by decide), dr2, by omega, fun H3 r2 g0 g1 b3 dr3 => ?_⟩
    obtain ⟨c, hc, hl⟩ := az_at g0 g1
    exact ⟨_, _, c, rfl, rfl, (by decide +kernel), hc, hR H3 c hl b3 dr3⟩
  · intro H' cs hl hp b2 dr2 e2
    refine ⟨_, D, cs.map (fun c => ⟨#[c]⟩), rfl, rfl, .inl (SqL.of (by rw [map_sg]; exact e2)), ?_, ?_⟩
    · rw [size_signs, List.length_map]
      show _ + _ * 0 ≤ _
      omega
    · refine q H' _ ?_ (b1.trans b2) (dr2.mono (by omega))
      have ez := join_text (y := "") rfl cs
      have lz := join_len (y := "") rfl cs
      generalize Txt.join ("" : Str) (cs.map fun c => (⟨#[c]⟩ : Str)) = z at ez lz
      show (decide (1 ≤ z.length) && decide (z.length ≤ 8) && z.cps.toList.all lower) = true
      rw [decide_eq_true (show 1 ≤ z.length by omega), decide_eq_true (show z.length ≤ 8 by omega), ez, Bool.true_and, Bool.true_and, List.all_eq_true]
      exact hp
def fourVals (u : Rl) : List V := [.int u.lo, .int u.hi, .int u.far, .bl u.shd]
def GoodU (u : Rl) : Prop := GoodRl u ∧ u.hi ≤ 100 ∧ u.far ≤ 100
theorem zero_of {v : V} {xs : List V} (P : Int → Prop) (h : v ∈ xs) (hx : ∀ x ∈ xs, ∃ k, x = .int k ∧ P k) : ∃ k, v = .int k ∧ P k := hx v h
def spRuleT (K : PySem.W.Frag) : Sp := fun vs H Q _ => ∃ (d : Addr) (n : Nat), vs = [.ref d] ∧ Dr PT d n H ∧ n ≤ 100000 ∧
  ∀ (H' : Hp) (t : Addr) (u : Rl), GoodU u → H' t = some (.tup (fourVals u)) → But d H H' → Dr PT d (n + 10) H' → Q (.ref t) H'
theorem ok_rule (T : Tx K mg) : FnOk P w K mg base CX0 3 T.A_rule T.fd_rule ["_law_well_here"] (spRuleT K) := by
  refine T.F_rule.ok sc_rule (fun vs H Q E h => ?_) (fun cdv A outer s H vs Q E hr h => ?_)
  · obtain ⟨d, n, rfl, dr, hn, q⟩ := h
    rfl
  obtain ⟨d, n, rfl, dr, hn, q⟩ := h
  refine ⟨_, (pss_cons (ps_set (i := 1) sc_rule.nd rfl (Or.inl rfl) (pe_call (ok_one T) (hr.mono (by decide)) (by rfl) T.g_one T.F_one.kp T.b_one .nil pass0 (pa_cons (pv 0) (pa_cons (pe_lst (pa_cons pe_int (pa_cons pe_int (pa_cons pe_int (pa_cons pe_int (pa_cons (pe_call (ok_draw T) (hr.mono (by decide)) (by rfl) T.g_draw T.F_draw.kp T.b_draw .nil pass0 (pa_cons (pv 0) (pa_cons pe_int pa_nil))) pa_nil)))))) pa_nil))))
      (pss_cons (ps_set (i := 2) sc_rule.nd rfl (Or.inl rfl) (pe_op op_add (pv 1) (pe_call (ok_one T) (hr.mono (by decide)) (by rfl) T.g_one T.F_one.kp T.b_one .nil pass0 (pa_cons (pv 0) (pa_cons (pe_lst (pa_cons pe_int (pa_cons pe_int (pa_cons pe_int (pa_cons pe_int (pa_cons (pe_call (ok_draw T) (hr.mono (by decide)) (by rfl) T.g_draw T.F_draw.kp T.b_draw .nil pass0 (pa_cons (pv 0) (pa_cons pe_int pa_nil))) pa_nil)))))) pa_nil)))))
      (pss_cons (ps_set (i := 3) sc_rule.nd rfl (Or.inl rfl) (pe_call (ok_one T) (hr.mono (by decide)) (by rfl) T.g_one T.F_one.kp T.b_one .nil pass0 (pa_cons (pv 0) (pa_cons (pe_lst (pa_cons pe_int (pa_cons pe_int (pa_cons pe_int (pa_cons pe_int (pa_cons (pe_call (ok_draw T) (hr.mono (by decide)) (by rfl) T.g_draw T.F_draw.kp T.b_draw .nil pass0 (pa_cons (pv 0) (pa_cons pe_int pa_nil))) pa_nil)))))) pa_nil))))
      (pss_one (ps_ret (pe_tup (pa_cons (pv 1) (pa_cons (pv 2) (pa_cons (pv 3) (pa_cons (pe_cmpR op_gt (pe_call (ok_draw T) (hr.mono (by decide)) (by rfl) T.g_draw T.F_draw.kp T.b_draw .nil pass0 (pa_cons (pv 0) (pa_cons pe_int pa_nil))) pe_int (nomark _)) pa_nil)))))))))), ?_⟩
  refine ⟨_, rfl, _, rfl, d, 40, n, rfl, by decide, log_tiny (by decide) (by decide), dr, by omega, fun H1 r1 a1 c1 b1 dr1 => ?_⟩
  refine ⟨(by show 5 ≤ sizeLine; decide), fun l1 hl1 => ?_⟩
  have nl1 := dr1.ne hl1
  refine ⟨d, l1, n + 1, _, rfl, nl1, SqL.of upd_same, by simp, by show 5 ≤ 1000; decide, dr1.upd nl1, by omega, fun H2 v hv b2 dr2 => ?_⟩
  obtain ⟨lo, rfl, hlo⟩ : ∃ k, v = .int k ∧ (0 ≤ k ∧ k < 40) := zero_of (fun k => 0 ≤ k ∧ k < 40) hv (by
    intro x hx
    simp only [List.mem_cons, List.not_mem_nil, or_false] at hx
    rcases hx with e | e | e | e | e <;> exact ⟨_, e, by omega⟩)
  refine ⟨_, rfl, _, rfl, _, rfl, d, 60, n + 2, rfl, by decide, log_tiny (by decide) (by decide), dr2, by omega, fun H3 r3 a3 c3 b3 dr3 => ?_⟩
  refine ⟨(by show 5 ≤ sizeLine; decide), fun l3 hl3 => ?_⟩
  have nl3 := dr3.ne hl3
  refine ⟨d, l3, n + 3, _, rfl, nl3, SqL.of upd_same, by simp, by show 5 ≤ 1000; decide, dr3.upd nl3, by omega, fun H4 v hv b4 dr4 => ?_⟩
  obtain ⟨up, rfl, hup⟩ : ∃ k, v = .int k ∧ (0 ≤ k ∧ k < 60) := zero_of (fun k => 0 ≤ k ∧ k < 60) hv (by
    intro x hx
    simp only [List.mem_cons, List.not_mem_nil, or_false] at hx
    rcases hx with e | e | e | e | e <;> exact ⟨_, e, by omega⟩)
  refine ⟨_, _, rfl, rfl, ?_⟩
  refine ⟨_, rfl, _, rfl, d, 30, n + 4, rfl, by decide, log_tiny (by decide) (by decide), dr4, by omega, fun H5 r5 a5 c5 b5 dr5 => ?_⟩
  refine ⟨(by show 5 ≤ sizeLine; decide), fun l5 hl5 => ?_⟩
  have nl5 := dr5.ne hl5
  refine ⟨d, l5, n + 5, _, rfl, nl5, SqL.of upd_same, by simp, by show 5 ≤ 1000; decide, dr5.upd nl5, by omega, fun H6 v hv b6 dr6 => ?_⟩
  obtain ⟨far, rfl, hfar⟩ : ∃ k, v = .int k ∧ (0 ≤ k ∧ k < 30) := zero_of (fun k => 0 ≤ k ∧ k < 30) hv (by
    intro x hx
    simp only [List.mem_cons, List.not_mem_nil, or_false] at hx
    rcases hx with e | e | e | e | e <;> exact ⟨_, e, by omega⟩)
  refine ⟨_, rfl, _, rfl, _, rfl, _, rfl, d, 3, n + 6, rfl, by decide, log_tiny (by decide) (by decide), dr6, by omega, fun H7 r7 a7 c7 b7 dr7 => ?_⟩
  refine ⟨_, _, rfl, rfl, (by show 4 ≤ sizeLine; decide), fun t ht => ?_⟩
  refine q _ t ⟨lo, lo + up, far, decide (0 < r7)⟩ ⟨⟨by show 0 ≤ lo; omega, by show lo ≤ lo + up; omega, by show 0 ≤ far; omega⟩, by show lo + up ≤ 100; omega, by show far ≤ 100; omega⟩ upd_same ?_ ((dr7.upd (dr7.ne ht)).mono (by omega))
  exact (b1.trans ((But.new hl1).trans b2)).trans ((b3.trans ((But.new hl3).trans b4)).trans ((b5.trans ((But.new hl5).trans b6)).trans (b7.trans (But.new ht))))
def spNear : Sp := fun vs H Q _ => ∃ (d : Addr) (lo hi : Int) (n : Nat), vs = [.ref d, .int lo, .int hi] ∧ lo ≤ hi ∧ hi - lo ≤ 1000 ∧ Dr PT d n H ∧ n ≤ 100000 ∧
  ∀ (H' : Hp) (r : Int), lo - 1 ≤ r → r ≤ hi + 1 → But d H H' → Dr PT d (n + 2) H' → Q (.int r) H'
theorem ok_near (T : Tx K mg) : FnOk P w K mg base CX0 3 T.A_near T.fd_near ["_law_well_here", "_law_low", "_law_top"] (spNear) := by
  refine T.F_near.ok sc_near (fun vs H Q E h => ?_) (fun cdv A outer s H vs Q E hr h => ?_)
  · obtain ⟨d, lo, hi, n, rfl, h1, h2, dr, hn, q⟩ := h
    rfl
  obtain ⟨d, lo, hi, n, rfl, h1, h2, dr, hn, q⟩ := h
  refine ⟨_, (pss_cons (ps_set (i := 3) sc_near.nd rfl (Or.inl rfl) (pe_op op_sub (pv 2) (pv 1)))
      (pss_one (ps_ret (pe_op op_add (pv 1) (pe_call (ok_one T) (hr.mono (by decide)) (by rfl) T.g_one T.F_one.kp T.b_one .nil pass0 (pa_cons (pv 0) (pa_cons (pe_lst (pa_cons pe_int (pa_cons (pv 3) (pa_cons (pe_call (ok_draw T) (hr.mono (by decide)) (by rfl) T.g_draw T.F_draw.kp T.b_draw .nil pass0 (pa_cons (pv 0) (pa_cons (pe_op op_add (pv 3) pe_int) pa_nil))) (pa_cons (pe_op op_add (pv 3) pe_int) (pa_cons (pe_un un_neg pe_int) pa_nil)))))) pa_nil))))))), ?_⟩
  refine ⟨_, rfl, _, rfl, _, _, rfl, rfl, ?_⟩
  refine ⟨_, rfl, _, rfl, _, rfl, _, rfl, _, rfl, _, _, rfl, rfl, d, _, n, rfl, (by show 0 < hi - lo + 1; omega), log_tiny (by show 0 < hi - lo + 1; omega) (by show hi - lo + 1 < _; omega), dr, by omega, fun H1 r1 a1 c1 b1 dr1 => ?_⟩
  refine ⟨_, rfl, _, _, rfl, rfl, _, rfl, (by show 5 ≤ sizeLine; decide), fun l1 hl1 => ?_⟩
  have nl1 := dr1.ne hl1
  refine ⟨d, l1, n + 1, _, rfl, nl1, SqL.of upd_same, by simp, by show 5 ≤ 1000; decide, dr1.upd nl1, by omega, fun H2 v hv b2 dr2 => ?_⟩
  obtain ⟨k, rfl, hk⟩ : ∃ k, v = .int k ∧ (-1 ≤ k ∧ k ≤ hi - lo + 1) := zero_of (fun k => -1 ≤ k ∧ k ≤ hi - lo + 1) hv (by
    intro x hx
    simp only [List.mem_cons, List.not_mem_nil, or_false] at hx
    rcases hx with e | e | e | e | e <;> exact ⟨_, e, by omega⟩)
  exact ⟨_, _, rfl, rfl, q _ _ (by omega) (by omega) (b1.trans ((But.new hl1).trans b2)) dr2⟩
end
end KB
namespace KB
open PySem PySem.Spec PyProof.Rows L2 KA
section
variable {P : Program} {w : World} {K : PySem.W.Frag} {mg : Str → Option Value} {base : Heap}
def spAcross (K : PySem.W.Frag) : Sp := fun vs H Q _ => ∃ (d t : Addr) (m : Int) (n : Nat) (u : Rl), vs = [.ref d, .int m, .ref t] ∧ 0 ≤ m ∧ m ≤ 60 ∧ H t = some (.tup (fourVals u)) ∧ GoodU u ∧ Dr PT d n H ∧ n ≤ 10000 ∧
  ∀ (H' : Hp) (p : Addr) (zs : List V), H p = none → p ≠ d → H' p = some (.lst zs) → zs.length ≤ 200 → (∀ v ∈ zs, ∃ x, v = .int x ∧ x ≤ 100000) → But d H H' → Dr PT d (n + 200) H' → Q (.ref p) H'
theorem map_last {pre : List Int} {x : Int} : atI ((pre ++ [x]).map V.int) (-1) = some (.int x) := by
  rw [List.map_append]
  exact atI_last _ _
theorem ok_across (T : Tx K mg) : FnOk P w K mg base CX0 4 T.A_across T.fd_across ["_law_well_here", "_law_places", "_law_rule_here"] (spAcross K) := by
  refine T.F_across.ok sc_across (fun vs H Q E h => ?_) (fun cdv A outer s H vs Q E hr h => ?_)
  · obtain ⟨d, t, m, n, u, rfl, hm0, hm1, ht, ⟨⟨g1, g2, g3⟩, g4, g5⟩, dr, hn, q⟩ := h
    rfl
  obtain ⟨d, t, m, n, u, rfl, hm0, hm1, ht, ⟨⟨g1, g2, g3⟩, g4, g5⟩, dr, hn, q⟩ := h
  refine ⟨_, (pss_cons (ps_set (i := 3) sc_across.nd rfl (Or.inl rfl) (pe_lst (pa_cons (pe_op op_add pe_int (pe_call (ok_draw T) (hr.mono (by decide)) (by rfl) T.g_draw T.F_draw.kp T.b_draw .nil pass0 (pa_cons (pv 0) (pa_cons pe_int pa_nil)))) pa_nil)))
      (pss_cons (ps_set (i := 4) sc_across.nd rfl (Or.inl rfl) (pe_lst pa_nil))
      (pss_cons (ps_for PassesOwn.never rfl (pi_range1 (by rfl) T.z_range (pa_cons (pe_op op_fdiv (pe_op op_add (pv 1) pe_int) pe_int) pa_nil)) (pg_name (i := 5) sc_across.nd rfl (Or.inl rfl))
        (pss_cons (ps_expr (pe_bm PySem.F.plainAttrs_list PySem.F.slot_list_append PySem.F.type_list_append mt_append (pv 4) (pa_cons (pe_op op_add (pe_ix ix_list (pv 3) (pe_un un_neg pe_int) (fun _ _ => rfl)) (pe_call (ok_near T) (hr.mono (by decide)) (by rfl) T.g_near T.F_near.kp T.b_near .nil pass0 (pa_cons (pv 0) (pa_cons (pe_op op_sub pe_int (pe_ix ix_tup (pv 2) pe_int (fun _ _ => rfl))) (pa_cons (pe_ix ix_tup (pv 2) pe_int (fun _ _ => rfl)) pa_nil))))) pa_nil)))
      (pss_one (ps_expr (pe_bm PySem.F.plainAttrs_list PySem.F.slot_list_append PySem.F.type_list_append mt_append (pv 3) (pa_cons (pe_op op_add (pe_ix ix_list (pv 3) (pe_un un_neg pe_int) (fun _ _ => rfl)) (pe_call (ok_near T) (hr.mono (by decide)) (by rfl) T.g_near T.F_near.kp T.b_near .nil pass0 (pa_cons (pv 0) (pa_cons (pe_ix ix_tup (pv 2) pe_int (fun _ _ => rfl)) (pa_cons (pe_ix ix_tup (pv 2) pe_int (fun _ _ => rfl)) pa_nil))))) pa_nil))))))
      (pss_cons (ps_set (i := 3) sc_across.nd rfl (Or.inl rfl) (pe_slice sl_list (pv 3) po_none (po_some (pe_op op_fdiv (pe_op op_add (pv 1) pe_int) pe_int))))
      (pss_one (ps_ret (pe_op op_cat (pv 3) (pe_revL (pe_slice sl_list (pv 4) po_none (po_some (pe_op op_fdiv (pv 1) pe_int))))))))))), ?_⟩
  have ntd : t ≠ d := by
    obtain ⟨_, _, _, e, _⟩ := dr
    exact fun z => by rw [z, e] at ht; cases ht
  refine ⟨_, rfl, d, 90, n, rfl, by decide, log_tiny (by decide) (by decide), dr, by omega, fun H1 r1 a1 c1 b1 dr1 => ?_⟩
  refine ⟨_, _, rfl, rfl, (by show 1 ≤ sizeLine; decide), fun l hl => ?_⟩
  have nl := dr1.ne hl
  have drl := dr1.upd (o := .lst [.int (400 + r1)]) nl
  refine ⟨Nat.zero_le _, fun rr hrr => ?_⟩
  have nr := drl.ne hrr
  have nlr : l ≠ rr := fun z => by rw [← z, upd_same] at hrr; cases hrr
  have hl0 : H l = none := b1.free nl hl
  have hr0 : H rr = none := (b1.trans (But.new hl)).free nr hrr
  refine ⟨_, rfl, _, _, rfl, rfl, _, _, rfl, rfl, ⟨by decide, by decide⟩, _, rfl, by omega, by omega, ?_⟩
  refine for_range (lo := 0) (n := ((m + 1) / 2).toNat) (fun i σ H' => ∃ (w5 : Option V) (pre rs : List Int) (x : Int), σ = [some (.ref d), some (.int m), some (.ref t), some (.ref l), some (.ref rr), w5] ∧ H' l = some (.lst ((pre ++ [x]).map V.int)) ∧ H' rr = some (.lst (rs.map V.int)) ∧ pre.length = i ∧ rs.length = i ∧ (∀ y ∈ pre ++ [x], y ≤ 500 + 200 * (i : Int)) ∧ (∀ y ∈ rs, y ≤ 1000 + 200 * (i : Int)) ∧ But d H H' ∧ Dr PT d (n + 1 + 4 * i) H')
    ⟨none, [], [], 400 + r1, rfl, ?_, upd_same, rfl, rfl, ?_, (fun _ h => nomatch h), (b1.trans (But.new hl)).trans (But.new hrr), drl.upd nr⟩ ?_ ?_
  · rw [upd_ne nlr]
    exact upd_same
  · intro y hy
    have : y = 400 + r1 := by simpa using hy
    omega
  · rintro i σ H2 hi ⟨w5, pre, rs, x, rfl, el, er, lp, lr, bp, br, b2, dr2⟩
    have hx : x ≤ 500 + 200 * (i : Int) := bp x (by simp)
    have ht2 := b2 _ _ ntd ht
    refine ⟨_, rfl, .inl ⟨rfl, _, SqL.of er⟩, _, rfl, 1, rfl, l, _, _, _, rfl, rfl, SqL.of el, map_last, ?_⟩
    refine ⟨_, rfl, _, rfl, t, _, _, _, rfl, rfl, .inl (.inl ht2), atI_nat (j := 2) rfl, _, _, rfl, rfl, _, rfl, t, _, _, _, rfl, rfl, .inl (.inl ht2), atI_nat (j := 2) rfl, ?_⟩
    refine ⟨d, _, _, n + 1 + 4 * i, rfl, (by show 0 - u.far ≤ u.far; omega), (by show u.far - (0 - u.far) ≤ 1000; omega), dr2, by omega, fun H3 r3 a3 c3 b3 dr3 => ?_⟩
    have el3 := b3 _ _ nl el
    have er3 := b3 _ _ nr er
    refine ⟨_, _, rfl, rfl, rr, _, _, rfl, rfl, er3, ?_, ?_⟩
    · rw [List.length_map, lr]
      exact Nat.lt_of_lt_of_le (show i < 100 by omega) (by decide)
    have el4 : (upd H3 rr (.lst (rs.map V.int ++ [.int (x + r3)]))) l = some (.lst ((pre ++ [x]).map V.int)) := by
      rw [upd_ne nlr]
      exact el3
    have ht4 : (upd H3 rr (.lst (rs.map V.int ++ [.int (x + r3)]))) t = some (.tup (fourVals u)) := by
      rw [upd_ne (fun z => by rw [← z, (b2.trans b3) _ _ ntd ht] at er3; cases er3)]
      exact (b2.trans b3) _ _ ntd ht
    have dr4 := dr3.upd (o := .lst (rs.map V.int ++ [.int (x + r3)])) nr
    refine ⟨_, rfl, .inl ⟨rfl, _, SqL.of el4⟩, _, rfl, 1, rfl, l, _, _, _, rfl, rfl, SqL.of el4, map_last, ?_⟩
    refine ⟨_, rfl, _, rfl, t, _, _, _, rfl, rfl, .inl (.inl ht4), atI_nat (j := 0) rfl, _, rfl, t, _, _, _, rfl, rfl, .inl (.inl ht4), atI_nat (j := 1) rfl, ?_⟩
    refine ⟨d, _, _, n + 1 + 4 * i + 2, rfl, g2, (by show u.hi - u.lo ≤ 1000; omega), dr4, by omega, fun H5 r5 a5 c5 b5 dr5 => ?_⟩
    have el5 := b5 _ _ nl el4
    have er5 := b5 _ _ nr upd_same
    refine ⟨_, _, rfl, rfl, l, _, _, rfl, rfl, el5, ?_, ?_⟩
    · rw [List.length_map, List.length_append, lp]
      exact Nat.lt_of_lt_of_le (show i + 1 < 100 by omega) (by decide)
    refine ⟨_, pre ++ [x], rs ++ [x + r3], x + r5, rfl, ?_, ?_, ?_, ?_, ?_, ?_, ?_, ?_⟩
    · rw [upd_same, List.map_append (l₂ := [x + r5])]
      rfl
    · rw [upd_ne nlr.symm, er5, List.map_append]
      rfl
    · rw [List.length_append, lp]
      rfl
    · rw [List.length_append, lr]
      rfl
    · intro y hy
      rcases List.mem_append.mp hy with h | h
      · have := bp y h
        omega
      · have : y = x + r5 := by simpa using h
        omega
    · intro y hy
      rcases List.mem_append.mp hy with h | h
      · have := br y h
        omega
      · have : y = x + r3 := by simpa using h
        omega
    · exact (((b2.trans b3).mut hr0).trans b5).mut hl0
    · exact (dr5.upd nl).mono (by omega)
  · rintro σ H2 ⟨w5, pre, rs, x, rfl, el, er, lp, lr, bp, br, b2, dr2⟩
    refine ⟨_, rfl, _, rfl, _, _, rfl, rfl, _, _, rfl, rfl, ⟨by decide, by decide⟩, _, rfl, l, _, rfl, SqL.of el, fun p hp => ?_⟩
    have np := dr2.ne hp
    have npr : rr ≠ p := ne_of_none er hp
    have dr3 := dr2.upd (o := .lst (cutV ((pre ++ [x]).map V.int) none (some ((m + 1) / 2)))) np
    refine ⟨_, rfl, _, rfl, _, rfl, _, _, rfl, rfl, ⟨by decide, by decide⟩, _, rfl, rr, _, rfl, SqL.of (same_upd hp _ _ er), fun p2 hp2 => ?_⟩
    have np2 := dr3.ne hp2
    have dr4 := dr3.upd (o := .lst (cutV (rs.map V.int) none (some (m / 2)))) np2
    refine ⟨p2, _, rfl, SqL.of upd_same, fun p3 hp3 => ?_⟩
    have np3 := dr4.ne hp3
    have dr5 := dr4.upd (o := .lst (cutV (rs.map V.int) none (some (m / 2))).reverse) np3
    have c1 := len_cut ((pre ++ [x]).map V.int) none (some ((m + 1) / 2))
    have c2 := len_cut (rs.map V.int) none (some (m / 2))
    rw [List.length_map, List.length_append, lp, List.length_singleton] at c1
    rw [List.length_map, lr] at c2
    have hmn : ((m + 1) / 2).toNat ≤ 31 := by omega
    refine ⟨p, p3, _, _, rfl, rfl, same_upd hp3 _ _ (same_upd hp2 _ _ upd_same), upd_same, sz _ (by rw [List.length_reverse]; omega), fun p4 hp4 => ?_⟩
    have np4 := dr5.ne hp4
    have b3 : But d H (upd (upd (upd H2 p (.lst (cutV ((pre ++ [x]).map V.int) none (some ((m + 1) / 2))))) p2 (.lst (cutV (rs.map V.int) none (some (m / 2))))) p3 (.lst (cutV (rs.map V.int) none (some (m / 2))).reverse)) := ((b2.trans (But.new hp)).trans (But.new hp2)).trans (But.new hp3)
    refine q _ p4 _ (b3.free np4 hp4) np4 upd_same ?_ ?_ (b3.trans (But.new hp4)) ((dr5.upd np4).mono (by omega))
    · rw [List.length_append, List.length_reverse]
      omega
    · intro v hv
      rcases List.mem_append.mp hv with h | h
      · obtain ⟨y, hy, rfl⟩ := List.mem_map.mp (mem_cut h)
        exact ⟨y, rfl, by have := bp y hy; omega⟩
      · obtain ⟨y, hy, rfl⟩ := List.mem_map.mp (mem_cut (List.mem_reverse.mp h))
        exact ⟨y, rfl, by have := br y hy; omega⟩
end
end KB
namespace KB
open PySem PySem.Spec PyProof.Rows L2 KA
section
variable {P : Program} {w : World} {K : PySem.W.Frag} {mg : Str → Option Value} {base : Heap}
/-- a row as a tuple, or None -/
def RowV (K : PySem.W.Frag) (H : Hp) (v : V) (o : Option Rw) : Prop := (v = .non ∧ o = none) ∨ ∃ p r, v = .ref p ∧ o = some r ∧ SqT K H p (rowVals r)
structure Rws (K : PySem.W.Frag) (H : Hp) (vs : List V) (rs : List (Option Rw)) : Prop where
  len : vs.length = rs.length
  at_ : ∀ (i : Nat) (v : V), vs[i]? = some v → ∃ o, rs[i]? = some o ∧ RowV K H v o
theorem RowV.same {K : PySem.W.Frag} {H H' : Hp} {v : V} {o : Option Rw} (s : NL H H') (h : RowV K H v o) : RowV K H' v o := by
  rcases h with h | ⟨p, r, h1, h2, h3⟩
  · exact .inl h
  · exact .inr ⟨p, r, h1, h2, nl_tup s h3⟩
theorem Rws.same {K : PySem.W.Frag} {H H' : Hp} {vs : List V} {rs : List (Option Rw)} (s : NL H H') (h : Rws K H vs rs) : Rws K H' vs rs :=
  ⟨h.len, fun i v hv => by
    obtain ⟨o, h1, h2⟩ := h.at_ i v hv
    exact ⟨o, h1, h2.same s⟩⟩
theorem Rws.get {K : PySem.W.Frag} {H : Hp} {vs : List V} {rs : List (Option Rw)} (h : Rws K H vs rs) {i : Nat} {o : Option Rw} (ho : rs[i]? = some o) : ∃ v, vs[i]? = some v ∧ RowV K H v o := by
  have hi : i < vs.length := by
    rw [h.len]
    exact (List.getElem?_eq_some_iff.mp ho).1
  obtain ⟨o', h1, h2⟩ := h.at_ i _ (List.getElem?_eq_getElem hi)
  have : o = o' := Option.some.inj (ho.symm.trans h1)
  subst this
  exact ⟨_, List.getElem?_eq_getElem hi, h2⟩
theorem Rws.row {K : PySem.W.Frag} {H : Hp} {vs : List V} {rs : List (Option Rw)} (h : Rws K H vs rs) {i : Nat} {r : Rw} (ho : rs[i]? = some (some r)) : ∃ p, vs[i]? = some (.ref p) ∧ SqT K H p (rowVals r) := by
  obtain ⟨v, hv, h | ⟨p, r', h1, h2, h3⟩⟩ := h.get ho
  · cases h.2
  · subst h1
    have : r = r' := Option.some.inj h2
    subst this
    exact ⟨p, hv, h3⟩
theorem Rws.push {K : PySem.W.Frag} {H : Hp} {vs : List V} {rs : List (Option Rw)} {v : V} {o : Option Rw} (h : Rws K H vs rs) (hv : RowV K H v o) : Rws K H (vs ++ [v]) (rs ++ [o]) := by
  refine ⟨by rw [List.length_append, List.length_append, h.len]; rfl, fun i w hw => ?_⟩
  by_cases hi : i < vs.length
  · rw [List.getElem?_append_left hi] at hw
    obtain ⟨o', h1, h2⟩ := h.at_ i w hw
    exact ⟨o', by rw [List.getElem?_append_left (by rw [← h.len]; exact hi)]; exact h1, h2⟩
  · rw [List.getElem?_append_right (by omega)] at hw
    have : i = vs.length := by
      have := (List.getElem?_eq_some_iff.mp hw).1
      rw [List.length_singleton] at this
      omega
    subst this
    rw [Nat.sub_self] at hw
    have : v = w := Option.some.inj hw
    subst this
    exact ⟨o, by rw [h.len, List.getElem?_append_right (Nat.le_refl _), Nat.sub_self]; rfl, hv⟩
theorem Rws.gap {K : PySem.W.Frag} {H : Hp} {vs : List V} {rs : List (Option Rw)} {v : V} {o : Option Rw} (h : Rws K H vs rs) : Rws K H ((vs ++ [v]).set vs.length .non) (rs ++ [none]) := by
  have : (vs ++ [v]).set vs.length .non = vs ++ [.non] := by
    rw [List.set_append_right _ _ (Nat.le_refl _), Nat.sub_self]
    rfl
  rw [this]
  exact h.push (.inl ⟨rfl, rfl⟩)
def AllGood (rs : List (Option Rw)) : Prop := ∀ r, some r ∈ rs → GoodRw r ∧ r.ac ≤ 100000
theorem good_int {a lo hi : Int} (h1 : lo ≤ a) (h2 : a ≤ hi) : whl (.int a) lo hi = true := by
  show (decide (lo ≤ a) && decide (a ≤ hi)) = true
  rw [decide_eq_true h1, decide_eq_true h2]
  rfl
def spRows (K : PySem.W.Frag) : Sp := fun vs H Q _ => ∃ (d t : Addr) (m : Int) (n : Nat) (u : Rl), vs = [.ref d, .int m, .ref t] ∧ 0 ≤ m ∧ m ≤ 60 ∧ H t = some (.tup (fourVals u)) ∧ GoodU u ∧ Dr PT d n H ∧ n ≤ 1000 ∧
  ∀ (H' : Hp) (p : Addr) (xs : List V) (rs : List (Option Rw)), H' p = some (.lst xs) → H p = none → p ≠ d → Rws K H' xs rs → AllGood rs → rs.length ≤ 200 → But d H H' → Dr PT d (n + 3000) H' → Q (.ref p) H'
/-- a look as a tuple -/
def LookT (H : Hp) (a : Addr) : Prop := ∃ (s f : Str) (b : Bool), H a = some (.tup [.str s, .str f, .bl b]) ∧ nm (.str s) = true ∧ nm (.str f) = true
theorem LookT.same {H H' : Hp} {a : Addr} (s : NL H H') (h : LookT H a) : LookT H' a := by
  obtain ⟨x, f, b, e, g⟩ := h
  exact ⟨x, f, b, s _ _ (fun _ z => by cases z) e, g⟩
theorem ok_rows (T : Tx K mg) : FnOk P w K mg base CX0 5 T.A_rows T.fd_rows ["_law_well_here", "_law_places", "_law_rule_here"] (spRows K) := by
  refine T.F_rows.ok sc_rows (fun vs H Q E h => ?_) (fun cdv A outer s H vs Q E hr h => ?_)
  · obtain ⟨d, t, m, n, u, rfl, hm0, hm1, ht, hU, dr, hn, q⟩ := h
    rfl
  obtain ⟨d, t, m, n, u, rfl, hm0, hm1, ht, hU, dr, hn, q⟩ := h
  refine ⟨_, (pss_cons (ps_set (i := 3) sc_rows.nd rfl (Or.inl rfl) (pe_tup (pa_cons (pe_call (ok_word T) (hr.mono (by decide)) (by rfl) T.g_word T.F_word.kp T.b_word .nil pass0 (pa_cons (pv 0) pa_nil)) (pa_cons (pe_call (ok_word T) (hr.mono (by decide)) (by rfl) T.g_word T.F_word.kp T.b_word .nil pass0 (pa_cons (pv 0) pa_nil)) (pa_cons (pe_cmpR op_eq (pe_call (ok_draw T) (hr.mono (by decide)) (by rfl) T.g_draw T.F_draw.kp T.b_draw .nil pass0 (pa_cons (pv 0) (pa_cons pe_int pa_nil))) pe_int (nomark _)) pa_nil)))))
      (pss_cons (ps_set (i := 4) sc_rows.nd rfl (Or.inl rfl) (pe_lst pa_nil))
      (pss_cons (ps_for PassesOwn.never rfl (pi_enum (by rfl) T.z_enumerate (pa_cons (pe_call (ok_across T) (hr.mono (by decide)) (by rfl) T.g_across T.F_across.kp T.b_across .nil pass0 (pa_cons (pv 0) (pa_cons (pv 1) (pa_cons (pv 2) pa_nil)))) pa_nil)) (pg_tup (by rfl) (pgs_cons (pg_name (i := 5) sc_rows.nd rfl (Or.inl rfl)) (pgs_cons (pg_name (i := 6) sc_rows.nd rfl (Or.inl rfl)) pgs_nil)))
        (pss_cons (ps_set (i := 7) sc_rows.nd rfl (Or.inl rfl) (pe_ix ix_list (pe_lst (pa_cons (pe_op op_add (pv 5) pe_int) (pa_cons (pe_op op_sub (pe_op op_pow pe_int pe_int) (pv 5)) (pa_cons (pe_op op_add pe_int (pe_call (ok_draw T) (hr.mono (by decide)) (by rfl) T.g_draw T.F_draw.kp T.b_draw .nil pass0 (pa_cons (pv 0) (pa_cons pe_int pa_nil)))) pa_nil)))) (pe_call (ok_one T) (hr.mono (by decide)) (by rfl) T.g_one T.F_one.kp T.b_one .nil pass0 (pa_cons (pv 0) (pa_cons (pe_lst (pa_cons pe_int (pa_cons pe_int (pa_cons pe_int (pa_cons pe_int (pa_cons pe_int (pa_cons pe_int (pa_cons pe_int (pa_cons pe_int (pa_cons pe_int pa_nil)))))))))) pa_nil))) (fun _ _ => rfl)))
      (pss_cons (ps_set (i := 8) sc_rows.nd rfl (Or.inl rfl) (pv 3))
      (pss_cutJ (ps_if (pt_cmpR op_eq (pe_call (ok_draw T) (hr.mono (by decide)) (by rfl) T.g_draw T.F_draw.kp T.b_draw .nil pass0 (pa_cons (pv 0) (pa_cons pe_int pa_nil))) pe_int (nomark _)) (pss_one (ps_set (i := 8) sc_rows.nd rfl (Or.inl rfl) (pe_call (ok_one T) (hr.mono (by decide)) (by rfl) T.g_one T.F_one.kp T.b_one .nil pass0 (pa_cons (pv 0) (pa_cons (pe_lst (pa_cons (pe_op op_catA (pe_tup (pa_cons pe_str pa_nil)) (pe_slice sl_tupA (pv 3) (po_some pe_int) po_none)) (pa_cons (pe_tup (pa_cons (pe_ix ix_tup (pv 3) pe_int (fun _ _ => rfl)) (pa_cons pe_str (pa_cons (pe_ix ix_tup (pv 3) pe_int (fun _ _ => rfl)) pa_nil)))) (pa_cons (pe_op op_catA (pe_slice sl_tupA (pv 3) po_none (po_some pe_int)) (pe_tup (pa_cons (pe_not (pe_ix ix_tup (pv 3) pe_int (fun _ _ => rfl))) pa_nil))) pa_nil)))) pa_nil))))) pss_nil)
      (pss_cons (ps_expr (pe_bm PySem.F.plainAttrs_list PySem.F.slot_list_append PySem.F.type_list_append mt_append (pv 4) (pa_cons (pe_op op_catA (pe_tup (pa_cons (pv 7) (pa_cons (pe_callB (call_max2 rfl) (by rfl) T.z_max (by decide +kernel) (pa_cons pe_int (pa_cons (pv 6) pa_nil))) (pa_cons (pe_op op_add pe_int (pe_call (ok_draw T) (hr.mono (by decide)) (by rfl) T.g_draw T.F_draw.kp T.b_draw .nil pass0 (pa_cons (pv 0) (pa_cons (pe_op op_pow pe_int pe_int) pa_nil)))) pa_nil)))) (pv 8)) pa_nil)))
      (pss_one (ps_if (pt_cmpR op_eq (pe_call (ok_draw T) (hr.mono (by decide)) (by rfl) T.g_draw T.F_draw.kp T.b_draw .nil pass0 (pa_cons (pv 0) (pa_cons pe_int pa_nil))) pe_int (nomark _)) (pss_one (ps_asg pe_non (pg_sub (pv 4) (pe_un un_neg pe_int) set_list))) pss_nil)))))))
      (pss_one (ps_ret (pv 4)))))), ?_⟩
  have ntd : t ≠ d := by
    obtain ⟨_, _, _, e, _⟩ := dr
    exact fun z => by rw [z, e] at ht; cases ht
  refine ⟨_, rfl, d, n, rfl, dr, by omega, fun H1 z1 g1 b1 dr1 => ?_⟩
  refine ⟨_, rfl, d, n + 10, rfl, dr1, by omega, fun H2 z2 g2 b2 dr2 => ?_⟩
  refine ⟨_, rfl, d, 2, n + 20, rfl, by decide, log_tiny (by decide) (by decide), dr2, by omega, fun H3 r3 _ _ b3 dr3 => ?_⟩
  refine ⟨rfl, (by show 3 ≤ sizeLine; decide), fun tl htl => ?_⟩
  have ntl := dr3.ne htl
  refine ⟨Nat.zero_le _, fun f hf => ?_⟩
  have drl := dr3.upd (o := .tup [.str z1, .str z2, .bl (decide (V.int r3 = V.int 0))]) ntl
  have nf := drl.ne hf
  have ntf : tl ≠ f := fun z => by rw [← z, upd_same] at hf; cases hf
  have dr4 := drl.upd (o := .lst []) nf
  have b4 : But d H (upd (upd H3 tl (.tup [.str z1, .str z2, .bl (decide (V.int r3 = V.int 0))])) f (.lst [])) := (((b1.trans b2).trans b3).trans (But.new htl)).trans (But.new hf)
  have hf0 : H f = none := ((((b1.trans b2).trans b3).trans (But.new htl))).free nf hf
  refine ⟨_, rfl, _, rfl, _, rfl, d, t, m, n + 21, u, rfl, hm0, hm1, b4 _ _ ntd ht, hU, dr4, by omega, fun H5 p zs hp np e5 lz bz b5 dr5 => ?_⟩
  have npf : p ≠ f := fun z => by rw [z, upd_same] at hp; cases hp
  refine ⟨p, zs, rfl, SqL.of e5, for_it (walk_enum (K := K) (a := p) (xs := zs)) (fun i σ H' => ∃ (w5 w6 w7 w8 : Option V) (acc : List V) (rs : List (Option Rw)), σ = [some (.ref d), some (.int m), some (.ref t), some (.ref tl), some (.ref f), w5, w6, w7, w8] ∧ H' f = some (.lst acc) ∧ Rws K H' acc rs ∧ AllGood rs ∧ rs.length = i ∧ H' p = some (.lst zs) ∧ LookT H' tl ∧ But d H H' ∧ Dr PT d (n + 221 + 10 * i) H')
    ⟨_, _, _, _, [], [], rfl, b5 _ _ nf upd_same, ⟨rfl, fun i v h => by simp at h⟩, (fun _ h => nomatch h), rfl, e5, ⟨z1, z2, _, b5 _ _ ntl (by rw [upd_ne ntf]; exact upd_same), g1, g2⟩, b4.trans b5, dr5.mono (by omega)⟩ (fun i σ H' _ h => ?_) ?_ ?_⟩
  · obtain ⟨_, _, _, _, _, _, _, _, _, _, _, e, _⟩ := h
    exact SqL.of e
  · rintro i x σ H6 H7 hi ⟨w5, w6, w7, w8, acc, rs, rfl, ef, hR, hG, lrs, ep, hL, b6, dr6⟩ ⟨T', x1, x2, rfl, nt, rfl, e1, e2⟩
    obtain rfl : V.int (i : Nat) = x1 := Option.some.inj e1
    obtain ⟨ac, rfl, hac⟩ := bz x2 (List.mem_of_getElem? e2)
    have nT := dr6.ne nt
    have s7 : Same H6 (upd H6 T' (.tup [.int (i : Nat), .int ac])) := same_upd nt
    have dr7 := dr6.same s7
    refine ⟨T', _, rfl, .inl (.inl upd_same), rfl, _, [.int ac], rfl, .int ac, [], rfl, rfl, ?_⟩
    -- number
    refine ⟨_, rfl, _, _, rfl, rfl, _, _, rfl, rfl, ⟨by decide, by decide, by decide⟩, _, rfl, _, _, rfl, rfl, _, rfl, d, 9, n + 221 + 10 * i, rfl, by decide, log_tiny (by decide) (by decide), dr7, by omega, fun H8 r8 a8 c8 b8 dr8 => ?_⟩
    refine ⟨_, _, rfl, rfl, (by show 3 ≤ sizeLine; decide), fun l1 hl1 => ?_⟩
    have nl1 := dr8.ne hl1
    have dr8' := dr8.upd (o := .lst [.int ((i : Nat) + 1), .int (10 ^ (9 : Int).toNat - (i : Nat)), .int (1 + r8)]) nl1
    refine ⟨_, rfl, (by show 9 ≤ sizeLine; decide), fun l2 hl2 => ?_⟩
    have nl2 := dr8'.ne hl2
    refine ⟨d, l2, n + 222 + 10 * i, _, rfl, nl2, SqL.of upd_same, by simp, by show 9 ≤ 1000; decide, (dr8'.upd nl2).mono (by omega), by omega, fun H9 v hv b9 dr9 => ?_⟩
    obtain ⟨j, rfl, hj⟩ : ∃ j : Int, v = .int j ∧ (j = 0 ∨ j = 1 ∨ j = 2) := zero_of (fun j => j = 0 ∨ j = 1 ∨ j = 2) hv (by
      intro x hx
      simp only [List.mem_cons, List.not_mem_nil, or_false] at hx
      rcases hx with e | e | e | e | e | e | e | e | e <;> exact ⟨_, e, by omega⟩)
    have e9 : (10 : Int) ^ (9 : Int).toNat = 1000000000 := by decide
    obtain ⟨num, hat, hn0, hn1⟩ : ∃ num : Int, atI [V.int ((i : Nat) + 1), .int (10 ^ (9 : Int).toNat - (i : Nat)), .int (1 + r8)] j = some (.int num) ∧ 1 ≤ num ∧ num ≤ 1000000000 := by
      rcases hj with rfl | rfl | rfl
      · exact ⟨_, rfl, by omega, by omega⟩
      · exact ⟨_, rfl, by rw [e9]; omega, by rw [e9]; omega⟩
      · exact ⟨_, rfl, by omega, by omega⟩
    have el1 := b9 _ _ nl1 (same_upd hl2 _ _ upd_same)
    refine ⟨l1, _, _, _, rfl, rfl, SqL.of el1, hat, ?_⟩
    have b9' : But d H6 H9 := (But.of s7).trans ((b8.trans (But.new hl1)).trans ((But.new hl2).trans b9))
    have nl9 : NL H6 H9 := dr_nl dr6 b9'
    have ef9 := b9' _ _ nf ef
    have hL9 := hL.same nl9
    have hR9 := hR.same nl9
    -- look
    refine ⟨_, rfl, ?_⟩
    refine ⟨fun σ' H' => ∃ la : Addr, σ' = [some (.ref d), some (.int m), some (.ref t), some (.ref tl), some (.ref f), some (.int (i : Nat)), some (.int ac), some (.int num), some (.ref la)] ∧ LookT H' la ∧ But d H9 H' ∧ Dr PT d (n + 225 + 10 * i) H', ?_, ?_⟩
    · refine ⟨_, rfl, d, 12, n + 223 + 10 * i, rfl, by decide, log_tiny (by decide) (by decide), dr9.mono (by omega), by omega, fun H10 r10 _ _ b10 dr10 => ?_⟩
      refine ⟨rfl, _, rfl, ite2 (fun _ => ?_) (fun _ => ?_)⟩
      · obtain ⟨s, fo, bb, eL, gs, gf⟩ := hL9
        have eL := b10 _ _ ntl eL
        refine ⟨_, rfl, (by show 1 ≤ sizeLine; decide), fun a1 ha1 => ?_⟩
        have n1 := dr10.ne ha1
        have eL1 := same_upd ha1 (o := .tup [.str "a"]) _ _ eL
        refine ⟨_, rfl, _, rfl, tl, _, rfl, .inl (.inl eL1), fun z => absurd z (by show ¬ (HT.sIx 3 0 (some 1) = 0 ∧ HT.sIx 3 3 none = 3); decide), fun _ a2 ha2 => ?_⟩
        have eL2 := same_upd ha2 (o := .tup [.str fo, .bl bb]) _ _ eL1
        refine ⟨a1, a2, _, _, rfl, rfl, .inl (.inl (same_upd ha2 _ _ upd_same)), .inl (.inl upd_same), (by show 3 ≤ sizeLine; decide), (fun z => nomatch z), (fun _ z => nomatch z), fun _ _ a3 ha3 => ?_⟩
        have eL3 := same_upd ha3 (o := .tup [.str "a", .str fo, .bl bb]) _ _ eL2
        refine ⟨_, rfl, tl, _, _, _, rfl, rfl, .inl (.inl eL3), atI_nat (j := 0) rfl, _, rfl, tl, _, _, _, rfl, rfl, .inl (.inl eL3), atI_nat (j := 2) rfl, (by show 3 ≤ sizeLine; decide), fun a4 ha4 => ?_⟩
        have eL4 := same_upd ha4 (o := .tup [.str s, .str "b", .bl bb]) _ _ eL3
        refine ⟨_, rfl, _, rfl, tl, _, rfl, .inl (.inl eL4), fun z => absurd z (by show ¬ (HT.sIx 3 0 none = 0 ∧ HT.sIx 3 3 (some 2) = 3); decide), fun _ a5 ha5 => ?_⟩
        have eL5 := same_upd ha5 (o := .tup [.str s, .str fo]) _ _ eL4
        refine ⟨_, rfl, tl, _, _, _, rfl, rfl, .inl (.inl eL5), atI_nat (j := 2) rfl, _, rfl, (by show 1 ≤ sizeLine; decide), fun a6 ha6 => ?_⟩
        refine ⟨a5, a6, _, _, rfl, rfl, .inl (.inl (same_upd ha6 _ _ upd_same)), .inl (.inl upd_same), (by show 3 ≤ sizeLine; decide), (fun z => nomatch z), (fun _ z => nomatch z), fun _ _ a7 ha7 => ?_⟩
        refine ⟨(by show 3 ≤ sizeLine; decide), fun l3 hl3 => ?_⟩
        have dL := (dr10.same ((same_upd ha1).trans ((same_upd ha2).trans ((same_upd ha3).trans ((same_upd ha4).trans ((same_upd ha5).trans ((same_upd ha6).trans (same_upd ha7)))))))).same (same_upd hl3 (o := .lst [.ref a3, .ref a4, .ref a7]))
        have nl3 : l3 ≠ d := (dr10.same ((same_upd ha1).trans ((same_upd ha2).trans ((same_upd ha3).trans ((same_upd ha4).trans ((same_upd ha5).trans ((same_upd ha6).trans (same_upd ha7)))))))).ne hl3
        refine ⟨d, l3, n + 224 + 10 * i, _, rfl, nl3, SqL.of upd_same, by simp, by show 3 ≤ 1000; decide, dL.mono (by omega), by omega, fun H11 v hv b11 dr11 => ?_⟩
        have nl11 := dr_nl dL b11
        have bb11 : But d H9 H11 := b10.trans ((But.of ((same_upd ha1).trans ((same_upd ha2).trans ((same_upd ha3).trans ((same_upd ha4).trans ((same_upd ha5).trans ((same_upd ha6).trans ((same_upd ha7).trans (same_upd hl3))))))))).trans b11)
        simp only [List.mem_cons, List.not_mem_nil, or_false] at hv
        rcases hv with rfl | rfl | rfl
        · refine ⟨a3, rfl, ⟨"a", fo, bb, nl11 _ _ (fun _ z => by cases z) (((same_upd ha4).trans ((same_upd ha5).trans ((same_upd ha6).trans ((same_upd ha7).trans (same_upd hl3))))) _ _ upd_same), by decide +kernel, gf⟩, bb11, dr11.mono (by omega)⟩
        · refine ⟨a4, rfl, ⟨s, "b", bb, nl11 _ _ (fun _ z => by cases z) (((same_upd ha5).trans ((same_upd ha6).trans ((same_upd ha7).trans (same_upd hl3)))) _ _ upd_same), gs, by decide +kernel⟩, bb11, dr11.mono (by omega)⟩
        · refine ⟨a7, rfl, ⟨s, fo, !bb, nl11 _ _ (fun _ z => by cases z) ((same_upd hl3) _ _ upd_same), gs, gf⟩, bb11, dr11.mono (by omega)⟩
      · exact ⟨tl, rfl, hL9.same (dr_nl dr9 b10), b10, dr10.mono (by omega)⟩
    · rintro σ' H10 ⟨la, rfl, ⟨s, fo, bb, eL, gs, gf⟩, b10, dr10⟩
      have ef10 := b10 _ _ nf ef9
      have nl10 : NL H6 H10 := nl9.trans (dr_nl dr9 b10)
      have bH10 : But d H H10 := b6.trans (b9'.trans b10)
      -- found.append((number, max(1, across), 1 + draw) + look)
      have e6 : (10 : Int) ^ (6 : Int).toNat = 1000000 := by decide
      refine ⟨_, rfl, .inl ⟨rfl, _, SqL.of ef10⟩, _, rfl, _, rfl, _, _, rfl, _, rfl, _, _, rfl, rfl, ⟨by decide, by decide, by decide⟩, d, _, n + 225 + 10 * i, rfl, by decide, log_tiny (by decide) (by decide), dr10, by omega, fun H11 r11 a11 c11 b11 dr11 => ?_⟩
      refine ⟨_, _, rfl, rfl, (by show 3 ≤ sizeLine; decide), fun t1 ht1 => ?_⟩
      have eL11 := b11 _ _ (fun z => by obtain ⟨_, _, _, z2, _⟩ := dr10; rw [z, z2] at eL; cases eL) eL
      refine ⟨_, rfl, t1, la, _, _, rfl, rfl, .inl (.inl upd_same), .inl (.inl (same_upd ht1 _ _ eL11)), (by show 6 ≤ sizeLine; decide), (fun z => nomatch z), (fun _ z => nomatch z), fun _ _ t2 ht2 => ?_⟩
      have S12 : Same H11 (upd (upd H11 t1 (.tup [.int num, .int (if ac > 1 then ac else 1), .int (1 + r11)])) t2 (.tup (rowVals ⟨num, if ac > 1 then ac else 1, 1 + r11, s, fo, bb⟩))) := (same_upd ht1).trans (same_upd ht2)
      have ef12 := S12 _ _ (b11 _ _ nf ef10)
      refine ⟨f, _, _, rfl, rfl, ef12, ?_, ?_⟩
      · rw [hR.len, lrs]
        exact Nat.lt_of_lt_of_le (show i < 1000 by omega) (by decide)
      have dr12 := (dr11.same S12)
      have dr13 := dr12.upd (o := .lst (acc ++ [.ref t2])) nf
      have hmx : (if ac > 1 then ac else 1 : Int) ≤ 1000000 ∧ 1 ≤ (if ac > 1 then ac else 1 : Int) := by
        split <;> omega
      have gR : GoodRw ⟨num, if ac > 1 then ac else 1, 1 + r11, s, fo, bb⟩ := ⟨good_int hn0 hn1, good_int hmx.2 hmx.1, good_int (a := 1 + r11) (by omega) (by rw [e6] at c11; omega), gs, gf⟩
      have nl12 := (nl10.trans (dr_nl dr10 b11)).trans (NL.of S12)
      have nl13 := nl12.trans (NL.at_ (o := .lst (acc ++ [.ref t2])) ef12)
      have ep13 : (upd (upd (upd H11 t1 (.tup [.int num, .int (if ac > 1 then ac else 1), .int (1 + r11)])) t2 (.tup (rowVals ⟨num, if ac > 1 then ac else 1, 1 + r11, s, fo, bb⟩))) f (.lst (acc ++ [.ref t2]))) p = some (.lst zs) := (upd_ne npf).trans (S12 _ _ (b11 _ _ np (b10 _ _ np (b9' _ _ np ep))))
      have b13 := ((bH10.trans b11).trans (But.of S12)).mut (o := .lst (acc ++ [.ref t2])) hf0
      have tR : RowV K (upd (upd (upd H11 t1 (.tup [.int num, .int (if ac > 1 then ac else 1), .int (1 + r11)])) t2 (.tup (rowVals ⟨num, if ac > 1 then ac else 1, 1 + r11, s, fo, bb⟩))) f (.lst (acc ++ [.ref t2]))) (.ref t2) (some ⟨num, if ac > 1 then ac else 1, 1 + r11, s, fo, bb⟩) := .inr ⟨t2, _, rfl, rfl, .inl (.inl ((NL.at_ (o := .lst (acc ++ [.ref t2])) ef12) _ _ (fun _ z => by cases z) (upd_same (H := upd H11 t1 (.tup [.int num, .int (if ac > 1 then ac else 1), .int (1 + r11)])))))⟩
      -- if draw(well, 9) == 0: found[-1] = None
      refine ⟨_, rfl, d, 9, n + 226 + 10 * i, rfl, by decide, log_tiny (by decide) (by decide), dr13.mono (by omega), by omega, fun H14 r14 _ _ b14 dr14 => ?_⟩
      have nl14 := nl13.trans (dr_nl dr13 b14)
      have ef14 := b14 _ _ nf upd_same
      refine ⟨rfl, _, rfl, ite2 (fun _ => ?_) (fun _ => ?_)⟩
      · have hix : ixN (acc ++ [V.ref t2]).length (-1) = some acc.length := by
          unfold ixN
          rw [if_neg (by decide), if_pos (by rw [List.length_append, List.length_singleton]; omega), List.length_append, List.length_singleton]
          congr 1
          omega
        refine ⟨_, rfl, 1, rfl, f, _, _, _, rfl, rfl, ef14, hix, ?_⟩
        refine ⟨_, _, _, _, _, rs ++ [none], rfl, upd_same, ?_, ?_, ?_, ?_, ?_, ?_, ?_⟩
        · exact ((hR.same nl14).same (NL.at_ ef14)).gap (o := none)
        · intro r hr
          rcases List.mem_append.mp hr with h | h
          · exact hG r h
          · simp at h
        · rw [List.length_append, lrs]
          rfl
        · exact (upd_ne npf).trans (b14 _ _ np ep13)
        · exact (hL.same nl14).same (NL.at_ ef14)
        · exact (b13.trans b14).mut hf0
        · exact (dr14.upd nf).mono (by omega)
      · refine ⟨_, _, _, _, _, rs ++ [some ⟨num, if ac > 1 then ac else 1, 1 + r11, s, fo, bb⟩], rfl, ef14, ?_, ?_, ?_, ?_, ?_, ?_, ?_⟩
        · exact (hR.same nl14).push (tR.same (dr_nl dr13 b14))
        · intro r hr
          rcases List.mem_append.mp hr with h | h
          · exact hG r h
          · have := Option.some.inj (List.mem_singleton.mp h)
            rw [this]
            exact ⟨gR, by show (if ac > 1 then ac else 1 : Int) ≤ 100000; split <;> omega⟩
        · rw [List.length_append, lrs]
          rfl
        · exact b14 _ _ np ep13
        · exact hL.same nl14
        · exact b13.trans b14
        · exact dr14.mono (by omega)
  · rintro σ H6 ⟨w5, w6, w7, w8, acc, rs, rfl, ef, hR, hG, lrs, ep, hL, b6, dr6⟩
    exact ⟨_, rfl, q H6 f acc rs ef hf0 nf hR hG (by omega) b6 (dr6.mono (by omega))⟩
def spBeadOf (K : PySem.W.Frag) (C : Addr) : Sp := fun vs H Q _ => ∃ (v : V) (o : Option Rw), vs = [v] ∧ RowV K H v o ∧ (∀ r, o = some r → GoodRw r) ∧ ∀ (H' : Hp) (x : V), Same H H' → BV C H' x o → Q x H'
theorem ok_bead (T : Tx K mg) : FnOk P w K mg base CX0 6 T.A_bead T.fd_bead ["_law_row"] (spBeadOf K T.C_Bead) := by
  refine T.F_bead.ok sc_bead (fun vs H Q E h => ?_) (fun cdv A outer s H vs Q E hr h => ?_)
  · obtain ⟨v, o, rfl, hv, hg, q⟩ := h
    rfl
  obtain ⟨v, o, rfl, hv, hg, q⟩ := h
  refine ⟨_, (pss_cons (ps_if (pt_cmpR op_isN (pv 0) pe_non (nomark _)) (pss_one (ps_ret pe_non)) pss_nil)
      (pss_one (ps_ret (pe_make T.mk_Bead (ok_Bead_init T) (hr.mono (by decide)) (by rfl) T.g_Bead T.b_Bead_init .nil pass0 (pa_cons (pe_ix ix_tup (pv 0) pe_int (fun _ _ => rfl)) (pa_cons (pe_ix ix_tup (pv 0) pe_int (fun _ _ => rfl)) (pa_cons (pe_ix ix_tup (pv 0) pe_int (fun _ _ => rfl)) (pa_cons (pe_ix ix_tup (pv 0) pe_int (fun _ _ => rfl)) (pa_cons (pe_ix ix_tup (pv 0) pe_int (fun _ _ => rfl)) (pa_cons (pe_ix ix_tup (pv 0) pe_int (fun _ _ => rfl)) pa_nil)))))))))), ?_⟩
  refine ⟨_, rfl, rfl, _, rfl, ?_⟩
  rcases hv with ⟨rfl, rfl⟩ | ⟨p, r, rfl, rfl, hp⟩
  · exact iteT (q H _ (Same.refl H) (.inl ⟨rfl, rfl⟩))
  · refine iteF ?_
    refine ⟨_, rfl, p, _, _, _, rfl, rfl, hp, atI_nat (j := 0) rfl, _, rfl, p, _, _, _, rfl, rfl, hp, atI_nat (j := 1) rfl, _, rfl, p, _, _, _, rfl, rfl, hp, atI_nat (j := 2) rfl, _, rfl, p, _, _, _, rfl, rfl, hp, atI_nat (j := 3) rfl, _, rfl, p, _, _, _, rfl, rfl, hp, atI_nat (j := 4) rfl, _, rfl, p, _, _, _, rfl, rfl, hp, atI_nat (j := 5) rfl, ?_⟩
    intro x dx nx ndx nex
    refine ⟨x, dx, r, rfl, upd_same, hg r rfl, fun H1 hB k => ⟨rfl, ?_⟩⟩
    refine q H1 _ (fun b o e => k b o ?_ (ne_of_none e nx)) (.inr ⟨x, r, rfl, rfl, hB⟩)
    rw [upd_ne (ne_of_none e nx), upd_ne (ne_of_none e ndx)]
    exact e
end
end KB
namespace KB
open PySem PySem.Spec PyProof.Rows L2 KA
section
variable {P : Program} {w : World} {K : PySem.W.Frag} {mg : Str → Option Value} {base : Heap}
/-- all but the numbers is alike -/
def likeRw (r p : Rw) : Bool := decide (r.ac = p.ac) && (decide (r.we = p.we) && (decide (r.sh = p.sh) && (decide (r.fo = p.fo) && decide (r.dr = p.dr))))
theorem like_refl (r : Rw) : likeRw r r = true := by
  unfold likeRw
  simp
theorem dec_int (a b : Int) : decide (V.int a = V.int b) = decide (a = b) := by
  rw [decide_eq_decide]
  exact ⟨fun e => by injection e, fun e => by rw [e]⟩
def RB (C : Addr) : Addr → V → Bool → Hp → Prop := fun a y b H => ∃ r, BeadAt C H a r ∧ ((∃ p r', y = .ref p ∧ BeadAt C H p r' ∧ b = likeRw r r') ∨ (y = .non ∧ b = false))
theorem ok_Bead_eq (T : Tx K mg) : FnOk P w K mg base CX0 1 T.A_Bead_eq T.fd_Bead_eq ["self", "other"] (spEqO (RB T.C_Bead)) := by
  refine T.F_Bead_eq.ok sc_Bead_eq (fun vs H Q E h => ?_) (fun cdv A outer s H vs Q E hr h => ?_)
  · obtain ⟨p, y, b, rfl, ⟨r, ⟨dx, hp⟩, hy⟩, q⟩ := h
    rfl
  obtain ⟨p, y, b, rfl, ⟨r, ⟨dx, hp⟩, hy⟩, q⟩ := h
  refine ⟨_, (pss_one (ps_ret (pe_and (pe_callB call_isi (by rfl) T.z_isinstance (by decide +kernel) (pa_cons (pv 1) (pa_cons (pe_glob (v := .ref T.C_Bead) (by rfl) T.g_Bead rfl) pa_nil))) (pe_and (pe_cmpR op_eq (pe_fld (pv 0) rfl) (pe_fld (pv 1) rfl) (nomark _)) (pe_and (pe_cmpR op_eq (pe_fld (pv 0) rfl) (pe_fld (pv 1) rfl) (nomark _)) (pe_and (pe_cmpR op_eq (pe_fld (pv 0) rfl) (pe_fld (pv 1) rfl) (nomark _)) (pe_and (pe_cmpR op_eq (pe_fld (pv 0) rfl) (pe_fld (pv 1) rfl) (nomark _)) (pe_one (pe_cmpR op_eq (pe_fld (pv 0) rfl) (pe_fld (pv 1) rfl) (nomark _)))))))))), ?_⟩
  have q := q H Ext.rfl'
  rcases hy with ⟨p', r', rfl, ⟨dx', hp'⟩, rfl⟩ | ⟨rfl, rfl⟩
  · refine ⟨_, rfl, .ref p', .ref T.C_Bead, .ref T.C_Bead, .ref T.C_Bead, true, rfl, .own _, T.ic_Bead.ty T.cl_Bead hp', T.i_Bead, _, rfl, iteT ?_⟩
    have e : likeRw r r' = (decide (r.ac = r'.ac) && (decide (r.we = r'.we) && (decide (r.sh = r'.sh) && (decide (r.fo = r'.fo) && decide (r.dr = r'.dr))))) := rfl
    refine ⟨_, rfl, p, _, dx, _, _, rfl, hp, T.cl_Bead, T.n_Bead_across, bf_across r, _, rfl, p', _, dx', _, _, rfl, hp', T.cl_Bead, T.n_Bead_across, bf_across r', rfl, _, rfl, ?_⟩
    rw [dec_int]
    refine ite2 (fun h1 => ?_) (fun h1 => ?_)
    · rw [h1, Bool.true_and] at e
      refine ⟨_, rfl, p, _, dx, _, _, rfl, hp, T.cl_Bead, T.n_Bead_weight, bf_weight r, _, rfl, p', _, dx', _, _, rfl, hp', T.cl_Bead, T.n_Bead_weight, bf_weight r', rfl, _, rfl, ?_⟩
      rw [dec_int]
      refine ite2 (fun h2 => ?_) (fun h2 => ?_)
      · rw [h2, Bool.true_and] at e
        refine ⟨_, rfl, p, _, dx, _, _, rfl, hp, T.cl_Bead, T.n_Bead_shade, bf_shade r, _, rfl, p', _, dx', _, _, rfl, hp', T.cl_Bead, T.n_Bead_shade, bf_shade r', rfl, _, rfl, ?_⟩
        rw [dec_str]
        refine ite2 (fun h3 => ?_) (fun h3 => ?_)
        · rw [h3, Bool.true_and] at e
          refine ⟨_, rfl, p, _, dx, _, _, rfl, hp, T.cl_Bead, T.n_Bead_form, bf_form r, _, rfl, p', _, dx', _, _, rfl, hp', T.cl_Bead, T.n_Bead_form, bf_form r', rfl, _, rfl, ?_⟩
          rw [dec_str]
          refine ite2 (fun h4 => ?_) (fun h4 => ?_)
          · rw [h4, Bool.true_and] at e
            refine ⟨_, rfl, p, _, dx, _, _, rfl, hp, T.cl_Bead, T.n_Bead_drilled, bf_drilled r, _, rfl, p', _, dx', _, _, rfl, hp', T.cl_Bead, T.n_Bead_drilled, bf_drilled r', rfl, ?_⟩
            rw [dec_bl, ← e]
            exact q
          · rw [Bool.not_eq_true] at h4
            rw [h4] at e
            rw [e] at q
            exact q
        · rw [Bool.not_eq_true] at h3
          rw [h3] at e
          rw [e] at q
          exact q
      · rw [Bool.not_eq_true] at h2
        rw [h2] at e
        rw [e] at q
        exact q
    · rw [Bool.not_eq_true] at h1
      rw [h1] at e
      rw [e] at q
      exact q
  · exact ⟨_, rfl, .non, .ref T.C_Bead, .type "NoneType", .ref T.C_Bead, false, rfl, .own _, .base .non, T.no_Bead, _, rfl, iteF q⟩
def spREq (C : Addr) : Sp := fun vs H Q _ => ∃ (a b : Addr) (u : Rl), vs = [.ref a, .ref b] ∧ RuleAt C H a u ∧ RuleAt C H b u ∧ Q (.bl true) H
theorem ok_Rule_eq (T : Tx K mg) : FnOk P w K mg base CX0 1 T.A_Rule_eq T.fd_Rule_eq ["self", "other"] (spREq T.C_Rule) := by
  refine T.F_Rule_eq.ok sc_Rule_eq (fun vs H Q E h => ?_) (fun cdv A outer s H vs Q E hr h => ?_)
  · obtain ⟨a, b, u, rfl, ⟨dx, ha⟩, ⟨dy, hb⟩, q⟩ := h
    rfl
  obtain ⟨a, b, u, rfl, ⟨dx, ha⟩, ⟨dy, hb⟩, q⟩ := h
  refine ⟨_, (pss_one (ps_ret (pe_and (pe_callB call_isi (by rfl) T.z_isinstance (by decide +kernel) (pa_cons (pv 1) (pa_cons (pe_glob (v := .ref T.C_Rule) (by rfl) T.g_Rule rfl) pa_nil))) (pe_and (pe_cmpR op_eq (pe_fld (pv 0) rfl) (pe_fld (pv 1) rfl) (nomark _)) (pe_and (pe_cmpR op_eq (pe_fld (pv 0) rfl) (pe_fld (pv 1) rfl) (nomark _)) (pe_and (pe_cmpR op_eq (pe_fld (pv 0) rfl) (pe_fld (pv 1) rfl) (nomark _)) (pe_one (pe_cmpR op_eq (pe_fld (pv 0) rfl) (pe_fld (pv 1) rfl) (nomark _))))))))), ?_⟩
  refine ⟨_, rfl, .ref b, .ref T.C_Rule, .ref T.C_Rule, .ref T.C_Rule, true, rfl, .own _, T.ic_Rule.ty T.cl_Rule hb, T.i_Rule, _, rfl, iteT ?_⟩
  refine ⟨_, rfl, a, _, dx, _, _, rfl, ha, T.cl_Rule, T.n_Rule_least, uf_least u, _, rfl, b, _, dy, _, _, rfl, hb, T.cl_Rule, T.n_Rule_least, uf_least u, rfl, _, rfl, ?_⟩
  rw [decide_eq_true rfl]
  refine iteT ⟨_, rfl, a, _, dx, _, _, rfl, ha, T.cl_Rule, T.n_Rule_most, uf_most u, _, rfl, b, _, dy, _, _, rfl, hb, T.cl_Rule, T.n_Rule_most, uf_most u, rfl, _, rfl, ?_⟩
  rw [decide_eq_true rfl]
  refine iteT ⟨_, rfl, a, _, dx, _, _, rfl, ha, T.cl_Rule, T.n_Rule_match, uf_match u, _, rfl, b, _, dy, _, _, rfl, hb, T.cl_Rule, T.n_Rule_match, uf_match u, rfl, _, rfl, ?_⟩
  rw [decide_eq_true rfl]
  refine iteT ⟨_, rfl, a, _, dx, _, _, rfl, ha, T.cl_Rule, T.n_Rule_shades, uf_shades u, _, rfl, b, _, dy, _, _, rfl, hb, T.cl_Rule, T.n_Rule_shades, uf_shades u, rfl, ?_⟩
  rw [decide_eq_true rfl]
  exact q
/-- a string: its row at t, its rule at m -/
def sf (t m : Addr) : List (Str × V) := putF "rule" (.ref m) (putF "held" (.ref t) [])
theorem sf_held (t m : Addr) : (sf t m).lookup ("held" : Str) = some (.ref t) := by
  unfold sf
  rw [lookup_putF, if_neg (by decide +kernel), lookup_putF, if_pos rfl]
theorem sf_rule (t m : Addr) : (sf t m).lookup ("rule" : Str) = some (.ref m) := by
  unfold sf
  rw [lookup_putF, if_pos rfl]
def StrAt (C : Addr) (H : Hp) (s t m : Addr) : Prop := ∃ dx, H s = some (.ins C dx (sf t m))
def spString (K : PySem.W.Frag) (CB CR C : Addr) : Sp := fun vs H Q _ => ∃ (s dx b m : Addr) (xs : List V) (rs : List (Option Rw)) (u : Rl), vs = [.ref s, .ref b, .ref m] ∧ H s = some (.ins C dx []) ∧ SqL K H b xs ∧ Bds CB H xs rs ∧ RuleAt CR H m u ∧ rs.length ≤ 1000 ∧ bar rs u = none ∧
  ∀ (H' : Hp) (t : Addr), StrAt C H' s t m → H' t = some (.tup xs) → (∀ b o, H b = some o → b ≠ s → H' b = some o) → Q .non H'
theorem ok_String_init (T : Tx K mg) : FnOk P w K mg base CX0 4 T.A_String_init T.fd_String_init ["self", "beads", "rule"] (spString K T.C_Bead T.C_Rule T.C_String) := by
  refine T.F_String_init.ok sc_String_init (fun vs H Q E h => ?_) (fun cdv A outer s H vs Q E hr h => ?_)
  · obtain ⟨s, dx, b, m, xs, rs, u, rfl, hs, hS, hB, hM, hl, hbar, q⟩ := h
    rfl
  obtain ⟨s, dx, b, m, xs, rs, u, rfl, hs, hS, hB, hM, hl, hbar, q⟩ := h
  refine ⟨_, (pss_cons (ps_set (i := 3) sc_String_init.nd rfl (Or.inl rfl) (pe_call (ok_barred T) (hr.mono (by decide)) (by rfl) T.g_barred T.F_barred.kp T.b_barred .nil pass0 (pa_cons (pv 1) (pa_cons (pv 2) pa_nil))))
      (pss_cons (ps_if (pt_cmpR op_notN (pv 3) pe_non (nomark _)) (pss_one ps_never) pss_nil)
      (pss_cons (ps_fld (pv 0) (pe_callTy call_tuple_of (by rfl) T.z_tuple (by decide +kernel) (pa_cons (pv 1) pa_nil)) rfl)
      (pss_one (ps_fld (pv 0) (pv 2) rfl))))), ?_⟩
  refine ⟨_, rfl, _, rfl, b, m, xs, rs, u, rfl, hS, hB, hM, hl, fun H1 v s1 hv => ?_⟩
  rw [hbar] at hv
  have hv : v = .non := hv
  subst hv
  refine ⟨_, rfl, rfl, _, rfl, iteF ?_⟩
  refine ⟨_, rfl, b, xs, rfl, .inl ⟨s1.seq hS, fun t ht => ?_⟩⟩
  have z := same_upd ht (o := .tup xs)
  have nts : t ≠ s := fun e => by
    have := s1 _ _ hs
    rw [← e, ht] at this
    cases this
  refine ⟨_, rfl, s, _, dx, _, rfl, z _ _ (s1 _ _ hs), T.cl_String, T.n_String_held, by decide, ?_⟩
  refine ⟨_, rfl, _, rfl, s, _, dx, _, rfl, upd_same, T.cl_String, T.n_String_rule, Nat.lt_of_le_of_lt (few few0) (by decide), ?_⟩
  refine q _ t ⟨dx, upd_same⟩ ?_ fun b o e hb => ?_
  · rw [upd_ne nts, upd_ne nts]
    exact upd_same
  · rw [upd_ne hb, upd_ne hb]
    exact z _ _ (s1 _ _ e)
def spSBeads (K : PySem.W.Frag) (C : Addr) : Sp := fun vs H Q _ => ∃ (s t m : Addr) (xs : List V), vs = [.ref s] ∧ StrAt C H s t m ∧ H t = some (.tup xs) ∧ ∀ l, H l = none → Q (.ref l) (upd H l (.lst xs))
theorem ok_String_beads (T : Tx K mg) : FnOk P w K mg base CX0 1 T.A_String_beads T.fd_String_beads ["self"] (spSBeads K T.C_String) := by
  refine T.F_String_beads.ok sc_String_beads (fun vs H Q E h => ?_) (fun cdv A outer s H vs Q E hr h => ?_)
  · obtain ⟨s, t, m, xs, rfl, ⟨dx, hs⟩, ht, q⟩ := h
    rfl
  obtain ⟨s, t, m, xs, rfl, ⟨dx, hs⟩, ht, q⟩ := h
  refine ⟨_, (pss_one (ps_ret (pe_callTy call_list_of (by rfl) T.z_list (by decide +kernel) (pa_cons (pe_fld (pv 0) rfl) pa_nil)))), ?_⟩
  exact ⟨_, rfl, s, _, dx, _, _, rfl, hs, T.cl_String, T.n_String_held, sf_held t m, t, xs, rfl, .inr (.inl (.inl ht)), fun l hl => q l hl⟩
def spTurned (K : PySem.W.Frag) (CB CR C : Addr) : Sp := fun vs H Q _ => ∃ (s t m : Addr) (xs : List V) (rs : List (Option Rw)) (u : Rl), vs = [.ref s] ∧ StrAt C H s t m ∧ H t = some (.tup xs) ∧ Bds CB H xs rs ∧ RuleAt CR H m u ∧ rs.length ≤ 1000 ∧ bar rs.reverse u = none ∧
  ∀ (H' : Hp) (s' t' : Addr), Same H H' → StrAt C H' s' t' m → H' t' = some (.tup xs.reverse) → Q (.ref s') H'
theorem Bds.rev {C : Addr} {H : Hp} {vs : List V} {rs : List (Option Rw)} (h : Bds C H vs rs) : Bds C H vs.reverse rs.reverse := by
  refine ⟨by rw [List.length_reverse, List.length_reverse]; exact h.len, ?_⟩
  intro i v hv
  have hi : i < vs.length := by
    have := (List.getElem?_eq_some_iff.mp hv).1
    rwa [List.length_reverse] at this
  rw [List.getElem?_reverse hi] at hv
  obtain ⟨o, h1, h2⟩ := h.at_ _ v hv
  refine ⟨o, ?_, h2⟩
  rw [List.getElem?_reverse (by rw [← h.len]; exact hi), ← h.len]
  exact h1
theorem ok_String_turned (T : Tx K mg) : FnOk P w K mg base CX0 6 T.A_String_turned T.fd_String_turned ["self"] (spTurned K T.C_Bead T.C_Rule T.C_String) := by
  refine T.F_String_turned.ok sc_String_turned (fun vs H Q E h => ?_) (fun cdv A outer s H vs Q E hr h => ?_)
  · obtain ⟨s, t, m, xs, rs, u, rfl, ⟨dx, hs⟩, ht, hB, hM, hl, hbar, q⟩ := h
    rfl
  obtain ⟨s, t, m, xs, rs, u, rfl, ⟨dx, hs⟩, ht, hB, hM, hl, hbar, q⟩ := h
  refine ⟨_, (pss_one (ps_ret (pe_make T.mk_String (ok_String_init T) (hr.mono (by decide)) (by rfl) T.g_String T.b_String_init .nil pass0 (pa_cons (pe_callTy call_list_of (by rfl) T.z_list (by decide +kernel) (pa_cons (pe_revT (pe_fld (pv 0) rfl)) pa_nil)) (pa_cons (pe_fld (pv 0) rfl) pa_nil))))), ?_⟩
  refine ⟨_, rfl, s, _, dx, _, _, rfl, hs, T.cl_String, T.n_String_held, sf_held t m, t, xs, rfl, .inl (.inl ht), fun t2 ht2 => ?_⟩
  have z1 := same_upd ht2 (o := .tup xs.reverse)
  refine ⟨t2, _, rfl, .inr (.inl (.inl upd_same)), fun l hl' => ?_⟩
  have z2 := same_upd hl' (o := .lst xs.reverse)
  have z12 := z1.trans z2
  refine ⟨_, rfl, s, _, dx, _, _, rfl, z12 _ _ hs, T.cl_String, T.n_String_rule, sf_rule t m, ?_⟩
  intro x dx2 h1 h2 h3
  have z3 : Same (upd (upd H t2 (.tup xs.reverse)) l (.lst xs.reverse)) (upd (upd (upd (upd H t2 (.tup xs.reverse)) l (.lst xs.reverse)) dx2 (.own x)) x (.ins T.C_String dx2 [])) := fun b o e => by
    rw [upd_ne (ne_of_none e h1), upd_ne (ne_of_none e h2)]
    exact e
  obtain ⟨dm, hM'⟩ := hM
  refine ⟨x, dx2, l, m, xs.reverse, rs.reverse, u, rfl, upd_same, SqL.of (z3 _ _ upd_same), (hB.same (NL.of (z12.trans z3))).rev, ⟨dm, (z12.trans z3) _ _ hM'⟩, by rw [List.length_reverse]; exact hl, hbar, fun H' t3 hs3 ht3 k => ⟨rfl, q H' x t3 (fun b o e => k b o ((z12.trans z3) _ _ e) ?_) hs3 ht3⟩⟩
  exact ne_of_none (z12 _ _ e) h1
def DHeld (K : PySem.W.Frag) (C : Addr) : BEq2 := fun x y b H => BOwn K C (RB C) x y b H ∨ BFlat x y b H
theorem rb_mon {C : Addr} : ∀ a y b H H', Ext H H' → RB C a y b H → RB C a y b H' := fun a y b H H' e h => by
  obtain ⟨r, ⟨dx, ha⟩, hy⟩ := h
  refine ⟨r, ⟨dx, e _ _ ha⟩, ?_⟩
  rcases hy with ⟨p, r', h1, ⟨dy, h2⟩, h3⟩ | h
  · exact .inl ⟨p, r', h1, ⟨dy, e _ _ h2⟩, h3⟩
  · exact .inr h
theorem monB_held {K : PySem.W.Frag} {C : Addr} : MonB (DHeld K C) := (monB_own rb_mon).or monB_flat
theorem eqB_held {X : Cx} (T : Tx X.K X.mg) : EqB X 1 (DHeld X.K T.C_Bead) :=
  (eqB_own (E := E0) (ok_Bead_eq (P := X.prog) (w := X.w) (base := X.base) T) T.m_Bead_eq.at_ T.m_Bead_eq.fn T.b_Bead_eq pass0 T.sn_Bead).or (eqB_flat.mono (Nat.zero_le _))
/-- two places of rows, side by side -/
def sameO (o o' : Option Rw) : Bool := match o, o' with
  | none, none => true
  | some r, some r' => likeRw r r'
  | _, _ => false
theorem sameO_refl (o : Option Rw) : sameO o o = true := by
  cases o with
  | none => rfl
  | some r => exact like_refl r
theorem held_at {K : PySem.W.Frag} {mg : Str → Option Value} (T : Tx K mg) {H : Hp} {x y : V} {o o' : Option Rw} (hx : BV T.C_Bead H x o) (hy : BV T.C_Bead H y o') : ∃ b, DHeld K T.C_Bead x y b H ∧ (x = y → b = true) := by
  rcases hx with ⟨rfl, rfl⟩ | ⟨p, r, rfl, rfl, hp⟩
  · rcases hy with ⟨rfl, rfl⟩ | ⟨p', r', rfl, rfl, hp'⟩
    · exact ⟨true, .inr ⟨rfl, rfl, rfl⟩, fun _ => rfl⟩
    · obtain ⟨dx, h⟩ := id hp'
      exact ⟨false, .inl (.inr ⟨p', dx, _, rfl, rfl, h, r', hp', .inr ⟨rfl, rfl⟩⟩), fun e => by cases e⟩
  · obtain ⟨dx, h⟩ := id hp
    rcases hy with ⟨rfl, rfl⟩ | ⟨p', r', rfl, rfl, hp'⟩
    · exact ⟨false, .inl (.inl ⟨p, dx, _, _, rfl, h, .base .non, T.nf_Bead, ⟨r, hp, .inr ⟨rfl, rfl⟩⟩, fun e => by cases e⟩), fun e => by cases e⟩
    · obtain ⟨dx', h'⟩ := id hp'
      have same : V.ref p' = V.ref p → likeRw r r' = true := fun e => by
        injection e with e
        subst e
        have e2 := Option.some.inj (h.symm.trans h')
        injection e2 with _ _ e3
        have a1 := bf_across r
        have a2 := bf_weight r
        have a3 := bf_shade r
        have a4 := bf_form r
        have a5 := bf_drilled r
        rw [e3] at a1 a2 a3 a4 a5
        rw [bf_across] at a1
        rw [bf_weight] at a2
        rw [bf_shade] at a3
        rw [bf_form] at a4
        rw [bf_drilled] at a5
        injection a1 with a1
        injection a1 with a1
        injection a2 with a2
        injection a2 with a2
        injection a3 with a3
        injection a3 with a3
        injection a4 with a4
        injection a4 with a4
        injection a5 with a5
        injection a5 with a5
        unfold likeRw
        rw [a1, a2, a3, a4, a5]
        simp
      exact ⟨likeRw r r', .inl (.inl ⟨p, dx, _, _, rfl, h, T.ic_Bead.ty T.cl_Bead h', by simp [PySem.W.notFirst], ⟨r, hp, .inl ⟨p', r', rfl, hp', rfl⟩⟩, same⟩), fun e => same e.symm⟩
open Classical in
theorem held_tup {K : PySem.W.Frag} {mg : Str → Option Value} (T : Tx K mg) {H : Hp} {t t' : Addr} {xs ys : List V} {rs ss : List (Option Rw)} (ht : H t = some (.tup xs)) (ht' : H t' = some (.tup ys)) (hx : Bds T.C_Bead H xs rs) (hy : Bds T.C_Bead H ys ss) : ∃ b, BTup K (DHeld K T.C_Bead) (.ref t) (.ref t') b H ∧ (xs = ys → b = true) := by
  have key : ∀ i : Nat, ∃ b, ∀ x y, xs[i]? = some x → ys[i]? = some y → DHeld K T.C_Bead x y b H ∧ (x = y → b = true) := fun i => by
    by_cases h : ∃ x y, xs[i]? = some x ∧ ys[i]? = some y
    · obtain ⟨x, y, h1, h2⟩ := h
      obtain ⟨o, _, bx⟩ := hx.at_ i x h1
      obtain ⟨o', _, b_y⟩ := hy.at_ i y h2
      obtain ⟨b, hb⟩ := held_at T bx b_y
      refine ⟨b, fun x' y' e1 e2 => ?_⟩
      have : x = x' := Option.some.inj (h1.symm.trans e1)
      subst this
      have : y = y' := Option.some.inj (h2.symm.trans e2)
      subst this
      exact hb
    · exact ⟨true, fun x y h1 h2 => absurd ⟨x, y, h1, h2⟩ h⟩
  have hf := fun i => Classical.choose_spec (key i)
  refine ⟨_, ⟨t, t', xs, ys, fun i => Classical.choose (key i), rfl, rfl, .inl (.inl ht), .inl (.inl ht'), fun i x y h1 h2 => (hf i x y h1 h2).1, rfl⟩, fun e => ?_⟩
  subst e
  rw [decide_eq_true rfl, Bool.true_and]
  exact allF_true fun j hj => (hf j _ _ (List.getElem?_eq_getElem hj) (List.getElem?_eq_getElem hj)).2 rfl
def spSEq (K : PySem.W.Frag) (CB CR C : Addr) : Sp := fun vs H Q _ => ∃ (s1 s2 t1 t2 m : Addr) (xs ys : List V) (rs ss : List (Option Rw)) (u : Rl), vs = [.ref s1, .ref s2] ∧ StrAt C H s1 t1 m ∧ StrAt C H s2 t2 m ∧ RuleAt CR H m u ∧ H t1 = some (.tup xs) ∧ H t2 = some (.tup ys) ∧ Bds CB H xs rs ∧ Bds CB H ys ss ∧ (xs = ys ∨ xs = ys.reverse) ∧
  ∀ H', Same H H' → Q (.bl true) H'
theorem ok_String_eq (T : Tx K mg) : FnOk P w K mg base CX0 4 T.A_String_eq T.fd_String_eq ["self", "other"] (spSEq K T.C_Bead T.C_Rule T.C_String) := by
  refine T.F_String_eq.ok sc_String_eq (fun vs H Q E h => ?_) (fun cdv A outer s H vs Q E hr h => ?_)
  · obtain ⟨s1, s2, t1, t2, m, xs, ys, rs, ss, u, rfl, ⟨d1, h1⟩, ⟨d2, h2⟩, ⟨dm, hm⟩, ht1, ht2, hx, hy, hxy, q⟩ := h
    rfl
  obtain ⟨s1, s2, t1, t2, m, xs, ys, rs, ss, u, rfl, ⟨d1, h1⟩, ⟨d2, h2⟩, ⟨dm, hm⟩, ht1, ht2, hx, hy, hxy, q⟩ := h
  refine ⟨_, (pss_one (ps_ret (pe_and (pe_callB call_isi (by rfl) T.z_isinstance (by decide +kernel) (pa_cons (pv 1) (pa_cons (pe_glob (v := .ref T.C_String) (by rfl) T.g_String rfl) pa_nil))) (pe_and (pe_cmpR (op_own (E := E0) (ok_Rule_eq T) T.m_Rule_eq.at_ T.m_Rule_eq.fn T.b_Rule_eq pass0 (hr.mono (by decide))) (pe_fld (pv 0) rfl) (pe_fld (pv 1) rfl) (nomark _)) (pe_one (pe_or (pe_cmpR (op_eqB (rcB_tup false monB_held (eqB_held T)) (hr.mono (by decide))) (pe_fld (pv 0) rfl) (pe_fld (pv 1) rfl) (nomark _)) (pe_one (pe_cmpR (op_eqB (rcB_tup false monB_held (eqB_held T)) (hr.mono (by decide))) (pe_fld (pv 0) rfl) (pe_revT (pe_fld (pv 1) rfl)) (nomark _))))))))), ?_⟩
  refine ⟨_, rfl, .ref s2, .ref T.C_String, .ref T.C_String, .ref T.C_String, true, rfl, .own _, T.ic_String.ty T.cl_String h2, T.i_String, _, rfl, iteT ?_⟩
  refine ⟨_, rfl, s1, _, d1, _, _, rfl, h1, T.cl_String, T.n_String_rule, sf_rule t1 m, _, rfl, s2, _, d2, _, _, rfl, h2, T.cl_String, T.n_String_rule, sf_rule t2 m, m, dm, _, .ref T.C_Rule, rfl, hm, T.ic_Rule.ty T.cl_Rule hm, by simp [PySem.W.notFirst], m, m, u, rfl, ⟨dm, hm⟩, ⟨dm, hm⟩, ⟨_, rfl⟩, _, rfl, iteT ?_⟩
  obtain ⟨b, hb, hb2⟩ := held_tup T ht1 ht2 hx hy
  refine ⟨_, rfl, s1, _, d1, _, _, rfl, h1, T.cl_String, T.n_String_held, sf_held t1 m, _, rfl, s2, _, d2, _, _, rfl, h2, T.cl_String, T.n_String_held, sf_held t2 m, b, hb, fun H1 e1 => ⟨_, rfl, ite2 (fun _ => q H1 e1) (fun hno => ?_)⟩⟩
  rw [Bool.false_xor] at hno
  have hrev : xs = ys.reverse := hxy.resolve_left fun e => hno (hb2 e)
  refine ⟨_, rfl, s1, _, d1, _, _, rfl, e1 _ _ h1, T.cl_String, T.n_String_held, sf_held t1 m, _, rfl, s2, _, d2, _, _, rfl, e1 _ _ h2, T.cl_String, T.n_String_held, sf_held t2 m, t2, ys, rfl, .inl (.inl (e1 _ _ ht2)), fun t3 ht3 => ?_⟩
  have z := same_upd ht3 (o := .tup ys.reverse)
  have z2 : Same H _ := Same.trans e1 z
  obtain ⟨b', hb', hb2'⟩ := held_tup T (z2 _ _ ht1) upd_same (hx.same (NL.of z2)) (hy.same (NL.of z2)).rev
  refine ⟨b', hb', fun H3 e3 => ?_⟩
  rw [hb2' hrev]
  exact q H3 (z2.trans e3)
end
end KB
namespace KB
open PySem PySem.Spec PyProof.Rows L2 KA
/-! ### a row is let by just where each two of its beads are -/
/-- the bead r at i, ahead of s at j, bars it -/
def Bad (n : Nat) (u : Rl) (i j : Nat) (r s : Rw) : Prop := r.num = s.num ∨ (j = i + 1 ∧ 2 * j ≠ n ∧ stepBad u (if n < 2 * j then -(s.ac - r.ac) else s.ac - r.ac) = true) ∨ (i + j + 1 = n ∧ (u.far < apart s.ac r.ac ∨ (u.shd && !look s r) = true))
theorem twice_iff {rs : List (Option Rw)} {j : Nat} {n : Int} : twice rs j n = true ↔ ∃ i r, i < j ∧ rs[i]? = some (some r) ∧ r.num = n := by
  unfold twice
  rw [List.any_eq_true]
  constructor
  · rintro ⟨o, ho, h⟩
    cases o with
    | none => cases h
    | some r =>
      obtain ⟨i, hi⟩ := List.mem_iff_getElem?.mp ho
      have hij : i < j := by
        have := (List.getElem?_eq_some_iff.mp hi).1
        rw [List.length_take] at this
        omega
      rw [List.getElem?_take_of_lt hij] at hi
      exact ⟨i, r, hij, hi, of_decide_eq_true h⟩
  · rintro ⟨i, r, hij, hi, e⟩
    refine ⟨some r, List.mem_iff_getElem?.mpr ⟨i, ?_⟩, decide_eq_true e⟩
    rw [List.getElem?_take_of_lt hij]
    exact hi
theorem step_iff {rs : List (Option Rw)} {u : Rl} {j : Nat} {s : Rw} : stepBars rs u j s = true ↔ ∃ i r, j = i + 1 ∧ 2 * j ≠ rs.length ∧ rs[i]? = some (some r) ∧ stepBad u (if rs.length < 2 * j then -(s.ac - r.ac) else s.ac - r.ac) = true := by
  unfold stepBars
  constructor
  · intro h
    by_cases h0 : j = 0 ∨ 2 * j = rs.length
    · rw [if_pos h0] at h
      cases h
    · rw [if_neg h0] at h
      cases e : rs[j - 1]? with
      | none => rw [e] at h; cases h
      | some o =>
        cases o with
        | none => rw [e] at h; cases h
        | some r =>
          rw [e] at h
          exact ⟨j - 1, r, by omega, by omega, e, h⟩
  · rintro ⟨i, r, rfl, h1, h2, h3⟩
    rw [if_neg (by omega), show i + 1 - 1 = i from rfl, h2]
    exact h3
theorem partner_iff {rs : List (Option Rw)} {j : Nat} {p : Rw} (hj : j < rs.length) : partner rs j = some p ↔ ∃ i, i < j ∧ i + j + 1 = rs.length ∧ rs[i]? = some (some p) := by
  unfold partner
  constructor
  · intro h
    by_cases h0 : 2 * j < rs.length
    · rw [if_pos h0] at h
      cases h
    · rw [if_neg h0] at h
      cases e : rs[rs.length - 1 - j]? with
      | none => rw [e] at h; cases h
      | some o =>
        cases o with
        | none => rw [e] at h; cases h
        | some r =>
          rw [e] at h
          have : r = p := Option.some.inj h
          subst this
          exact ⟨rs.length - 1 - j, by omega, by omega, e⟩
  · rintro ⟨i, h1, h2, h3⟩
    rw [if_neg (by omega), show rs.length - 1 - j = i by omega, h3]
theorem reason_iff {rs : List (Option Rw)} {u : Rl} {j : Nat} {s : Rw} (hj : j < rs.length) : reason rs u j s = .non ↔ ∀ i r, i < j → rs[i]? = some (some r) → ¬ Bad rs.length u i j r s := by
  unfold reason
  constructor
  · intro h i r hij hi hb
    by_cases h1 : twice rs j s.num = true
    · rw [if_pos h1] at h
      cases h
    · rw [if_neg h1] at h
      by_cases h2 : stepBars rs u j s = true
      · rw [if_pos h2] at h
        cases h
      · rw [if_neg h2] at h
        rcases hb with hb | ⟨hb1, hb2, hb3⟩ | ⟨hb1, hb2⟩
        · exact h1 (twice_iff.mpr ⟨i, r, hij, hi, hb⟩)
        · exact h2 (step_iff.mpr ⟨i, r, hb1, hb2, hi, hb3⟩)
        · have hp : partner rs j = some r := (partner_iff hj).mpr ⟨i, hij, hb1, hi⟩
          rw [hp] at h
          have h : (if u.far < apart s.ac r.ac then V.str "match" else if (u.shd && !look s r) = true then .str "shade" else .non) = .non := h
          by_cases h3 : u.far < apart s.ac r.ac
          · rw [if_pos h3] at h
            cases h
          · rw [if_neg h3] at h
            rcases hb2 with hb2 | hb2
            · exact h3 hb2
            · rw [if_pos hb2] at h
              cases h
  · intro h
    have h1 : ¬ twice rs j s.num = true := fun z => by
      obtain ⟨i, r, a, b, c⟩ := twice_iff.mp z
      exact h i r a b (.inl c)
    have h2 : ¬ stepBars rs u j s = true := fun z => by
      obtain ⟨i, r, a, b, c, e⟩ := step_iff.mp z
      exact h i r (by omega) c (.inr (.inl ⟨a, b, e⟩))
    rw [if_neg h1, if_neg h2]
    cases hp : partner rs j with
    | none => rfl
    | some p =>
      obtain ⟨i, a, b, c⟩ := (partner_iff hj).mp hp
      show (if u.far < apart s.ac p.ac then V.str "match" else if (u.shd && !look s p) = true then .str "shade" else .non) = .non
      rw [if_neg (fun z => h i p a c (.inr (.inr ⟨b, .inl z⟩))), if_neg (fun z => h i p a c (.inr (.inr ⟨b, .inr z⟩)))]
theorem barFrom_iff {rs : List (Option Rw)} {u : Rl} : ∀ k i, i + k = rs.length → (barFrom rs u k i = none ↔ ∀ j s, i ≤ j → rs[j]? = some (some s) → reason rs u j s = .non)
  | 0, i, h => by
    constructor
    · intro _ j s hj e
      have := (List.getElem?_eq_some_iff.mp e).1
      omega
    · intro _
      rfl
  | k + 1, i, h => by
    have ih := barFrom_iff (rs := rs) (u := u) k (i + 1) (by omega)
    obtain ⟨o, ho⟩ : ∃ o, rs[i]? = some o := ⟨_, List.getElem?_eq_getElem (by omega)⟩
    cases o with
    | none =>
      rw [barFrom_gap ho, ih]
      constructor
      · intro h j s hj e
        by_cases z : j = i
        · subst z
          rw [ho] at e
          cases e
        · exact h j s (by omega) e
      · exact fun h j s hj e => h j s (by omega) e
    | some r =>
      by_cases hr : reason rs u i r = .non
      · rw [barFrom_ok ho hr, ih]
        constructor
        · intro h j s hj e
          by_cases z : j = i
          · subst z
            rw [ho] at e
            have : r = s := Option.some.inj (Option.some.inj e)
            subst this
            exact hr
          · exact h j s (by omega) e
        · exact fun h j s hj e => h j s (by omega) e
      · rw [barFrom_bad ho hr]
        constructor
        · intro h
          cases h
        · intro h
          exact absurd (h i r (Nat.le_refl _) ho) hr
/-- THE CHARACTER: let by just where no two of its beads bar -/
theorem let_iff {rs : List (Option Rw)} {u : Rl} : bar rs u = none ↔ ∀ i j r s, i < j → rs[i]? = some (some r) → rs[j]? = some (some s) → ¬ Bad rs.length u i j r s := by
  unfold bar
  rw [barFrom_iff rs.length 0 (by omega)]
  constructor
  · intro h i j r s hij hi hj
    exact (reason_iff (List.getElem?_eq_some_iff.mp hj).1).mp (h j s (Nat.zero_le _) hj) i r hij hi
  · intro h j s _ hj
    exact (reason_iff (List.getElem?_eq_some_iff.mp hj).1).mpr fun i r hij hi => h i j r s hij hi hj
theorem apart_comm (a b : Int) : apart a b = apart b a := by
  unfold apart
  split <;> split <;> omega
theorem look_comm (r s : Rw) : look r s = look s r := by
  unfold look
  rw [decide_eq_decide.mpr (eq_comm (a := r.sh)), decide_eq_decide.mpr (eq_comm (a := r.fo)), decide_eq_decide.mpr (eq_comm (a := r.dr))]
theorem bad_turn {n : Nat} {u : Rl} {i j : Nat} {r s : Rw} (hij : i < j) (hj : j < n) (h : Bad n u i j r s) : Bad n u (n - 1 - j) (n - 1 - i) s r := by
  rcases h with h | ⟨h1, h2, h3⟩ | ⟨h1, h2⟩
  · exact .inl h.symm
  · refine .inr (.inl ⟨by omega, by omega, ?_⟩)
    by_cases hn : n < 2 * j
    · rw [if_pos hn] at h3
      rw [if_neg (by omega), show r.ac - s.ac = -(s.ac - r.ac) by omega]
      exact h3
    · rw [if_neg hn] at h3
      rw [if_pos (by omega), show -(r.ac - s.ac) = s.ac - r.ac by omega]
      exact h3
  · refine .inr (.inr ⟨by omega, ?_⟩)
    rw [apart_comm, look_comm]
    exact h2
/-- what is let by is let by turned about -/
theorem let_turn {rs : List (Option Rw)} {u : Rl} (h : bar rs u = none) : bar rs.reverse u = none := by
  rw [let_iff] at h ⊢
  intro i j r s hij hi hj hb
  rw [List.length_reverse] at hb
  have hjl : j < rs.length := by
    have := (List.getElem?_eq_some_iff.mp hj).1
    rwa [List.length_reverse] at this
  rw [List.getElem?_reverse (by omega)] at hi
  rw [List.getElem?_reverse hjl] at hj
  exact h _ _ s r (by omega) hj hi (bad_turn hij hjl hb)
theorem turn_iff (rs : List (Option Rw)) (u : Rl) : (bar rs.reverse u).isNone = (bar rs u).isNone := by
  rw [Bool.eq_iff_iff, Option.isNone_iff_eq_none, Option.isNone_iff_eq_none]
  exact ⟨fun h => by have := let_turn h; rwa [List.reverse_reverse] at this, let_turn⟩
/-- what is told of rows that are renamed alike -/
structure Alike (f : Rw → Rw) : Prop where
  num : ∀ r s, (f r).num = (f s).num ↔ r.num = s.num
  ac : ∀ r s, (f r).ac - (f s).ac = r.ac - s.ac
  lk : ∀ r s, look (f r) (f s) = look r s
def ren (f : Rw → Rw) (rs : List (Option Rw)) : List (Option Rw) := rs.map (Option.map f)
theorem ren_len (f : Rw → Rw) (rs : List (Option Rw)) : (ren f rs).length = rs.length := List.length_map _
theorem ren_at (f : Rw → Rw) (rs : List (Option Rw)) (i : Nat) : (ren f rs)[i]? = rs[i]?.map (Option.map f) := List.getElem?_map
theorem twice_ren {f : Rw → Rw} (h : Alike f) (rs : List (Option Rw)) (i : Nat) (r : Rw) : twice (ren f rs) i (f r).num = twice rs i r.num := by
  unfold twice ren
  rw [← List.map_take, List.any_map]
  congr 1
  funext o
  cases o with
  | none => rfl
  | some s => exact decide_eq_decide.mpr (h.num s r)
theorem step_ren {f : Rw → Rw} (h : Alike f) (rs : List (Option Rw)) (u : Rl) (i : Nat) (r : Rw) : stepBars (ren f rs) u i (f r) = stepBars rs u i r := by
  unfold stepBars
  rw [ren_len, ren_at]
  cases rs[i - 1]? with
  | none => rfl
  | some o =>
    cases o with
    | none => rfl
    | some q =>
      show (if _ then false else stepBad u (if _ then -((f r).ac - (f q).ac) else (f r).ac - (f q).ac)) = _
      rw [h.ac]
theorem partner_ren {f : Rw → Rw} (rs : List (Option Rw)) (i : Nat) : partner (ren f rs) i = (partner rs i).map f := by
  unfold partner
  rw [ren_len, ren_at]
  split
  · rfl
  · cases rs[rs.length - 1 - i]? with
    | none => rfl
    | some o =>
      cases o with
      | none => rfl
      | some q => rfl
theorem reason_ren {f : Rw → Rw} (h : Alike f) (rs : List (Option Rw)) (u : Rl) (i : Nat) (r : Rw) : reason (ren f rs) u i (f r) = reason rs u i r := by
  unfold reason
  rw [twice_ren h, step_ren h, partner_ren]
  cases partner rs i with
  | none => rfl
  | some p =>
    show (if _ then _ else if _ then _ else if u.far < apart (f r).ac (f p).ac then _ else if (u.shd && !look (f r) (f p)) = true then _ else _) = _
    have e : apart (f r).ac (f p).ac = apart r.ac p.ac := by
      unfold apart
      rw [h.ac]
    rw [e, h.lk]
theorem barFrom_ren {f : Rw → Rw} (h : Alike f) (rs : List (Option Rw)) (u : Rl) : ∀ k i, barFrom (ren f rs) u k i = barFrom rs u k i
  | 0, _ => rfl
  | k + 1, i => by
    unfold barFrom
    rw [ren_at, barFrom_ren h rs u k (i + 1)]
    cases rs[i]? with
    | none => rfl
    | some o =>
      cases o with
      | none => rfl
      | some r =>
        show (if reason (ren f rs) u i (f r) = .non then _ else some (i, reason (ren f rs) u i (f r))) = _
        rw [reason_ren h]
theorem bar_ren {f : Rw → Rw} (h : Alike f) (rs : List (Option Rw)) (u : Rl) : bar (ren f rs) u = bar rs u := by
  unfold bar
  rw [ren_len, barFrom_ren h]
section
variable {P : Program} {w : World} {K : PySem.W.Frag} {mg : Str → Option Value} {base : Heap}
/-- [row and .. for row in rows] -/
theorem rows_comp {K : PySem.W.Frag} {a : Addr} {xs : List V} {rs : List (Option Rw)} {H : Hp} {D : Addr} {c : Nat} (hD : H D = none) (hS : SqL K H a xs) (hR : Rws K H xs rs) (hl : xs.length ≤ 10000) (f : Rw → Rw)
    {te : TE} {vs : List Nat} {σ : L2.St} {Qd : Hp → Prop} (hw : ∀ v, wipe ((wipe σ vs).set c (some v)) vs = wipe σ vs) (hc : ∀ v, ((wipe σ vs).set c (some v))[c]? = some (some v))
    (turn : ∀ (p : Addr) (r : Rw) (H2 : Hp) (R : V → Hp → Prop), some r ∈ rs → Same H H2 → SqT K H2 p (rowVals r) → (∀ q H3, Same H2 H3 → H3 q = some (.tup (rowVals (f r))) → R (.ref q) H3) → te ((wipe σ vs).set c (some (.ref p))) H2 R)
    (fin : ∀ H' acc, Same H H' → H' D = some (.lst acc) → Rws K H' acc (ren f rs) → Qd H') :
    ∃ W : Nat → Nat → Hp → Prop, (∃ m, W 0 m (upd H D (.lst []))) ∧ ∀ i m H, W i m H →
      ((Itl K a).stop i H ∧ Qd H) ∨ ((Itl K a).go i H ∧ ∃ Nx : Hp → Prop, (∀ H', Nx H' → ∃ m', m' < m ∧ W (i + 1) m' H') ∧ ∀ x H', (Itl K a).yld i H x H' → gName c x (wipe σ vs) H' fun σ2 H2 => wipe σ2 vs = wipe σ vs ∧ tYes σ2 H2 fun b H3 =>
        if b = true then tAndW K (tVar c) te σ2 H3 fun y H4 => ∃ acc, H4 D = some (.lst acc) ∧ acc.length < sizeLine ∧ Nx (upd H4 D (.lst (acc ++ [y]))) else Nx H3) := by
  refine lc_gen hD hS hl (fun j v H' => ∃ o, rs[j]? = some o ∧ RowV K H' v (o.map f)) (fun j v H1 H2 s h => ?_) ?_ ?_
  · obtain ⟨o, h1, h2⟩ := h
    exact ⟨o, h1, h2.same s⟩
  · intro i x H2 R C hi s2 hRv
    obtain ⟨o, ho, hv⟩ := hR.at_ i x hi
    refine ⟨hw x, yesT ⟨x, hc x, ?_⟩⟩
    rcases hv with ⟨rfl, rfl⟩ | ⟨p, r, rfl, rfl, hp⟩
    · exact ⟨false, .inl rfl, iteF (hRv _ _ (Same.refl _) ⟨none, ho, .inl ⟨rfl, rfl⟩⟩)⟩
    · have hp2 : SqT K H2 p (rowVals r) := SqT.ext hp s2
      refine ⟨true, .inl (.inr (.inl ⟨_, hp2, rfl⟩)), iteT ?_⟩
      exact turn p r H2 R (List.mem_of_getElem? ho) s2 hp2 fun q H3 s3 e3 => hRv _ _ s3 ⟨some r, ho, .inr ⟨q, f r, rfl, rfl, .inl (.inl e3)⟩⟩
  · intro H' acc s e l g
    refine fin H' acc s e ⟨by rw [ren_len, l, hR.len], fun i v hv => ?_⟩
    obtain ⟨o, h1, h2⟩ := g i v hv
    exact ⟨o.map f, by rw [ren_at, h1]; rfl, h2⟩
def cutRw (r : Rw) : Rw := { r with sh := cutS r.sh none (some 7), fo := cutS r.fo none (some 7) }
def spCut (K : PySem.W.Frag) : Sp := fun vs H Q _ => ∃ (a : Addr) (xs : List V) (rs : List (Option Rw)), vs = [.ref a] ∧ SqL K H a xs ∧ Rws K H xs rs ∧ AllGood rs ∧ rs.length ≤ 1000 ∧
  ∀ (H' : Hp) (D : Addr) (acc : List V), H D = none → Same H H' → H' D = some (.lst acc) → Rws K H' acc (ren cutRw rs) → Q (.ref D) H'
theorem ok_word_cut (T : Tx K mg) : FnOk P w K mg base CX0 1 T.A_word_cut T.fd_word_cut ["_law_rows_here"] (spCut K) := by
  refine T.F_word_cut.ok sc_word_cut (fun vs H Q E h => ?_) (fun cdv A outer s H vs Q E hr h => ?_)
  · obtain ⟨a, xs, rs, rfl, hS, hR, hG, hl, q⟩ := h
    rfl
  obtain ⟨a, xs, rs, rfl, hS, hR, hG, hl, q⟩ := h
  refine ⟨_, (pss_one (ps_ret (pe_lc (own := [("_law_row", 1)]) (g := gName 1) (tt := tYes) rfl sc_word_cut.nd (pi_list (pv 0)) (blkOk_by (N := ["_law_rows_here", "_law_row"]) (sc := defScope s_word_cut) (by decide +kernel)) (fun _ _ _ _ _ => (pg_name (i := 1) sc_word_cut.nd rfl (Or.inl rfl))) (fun _ _ _ _ _ => pts_nil) (fun _ _ _ _ _ => (pe_andW (K' := K) rfl (pv 1) (pe_one (pe_op (op_catAK (K' := K) rfl) (pe_slice (sl_tupAK (K' := K) rfl) (pv 1) po_none (po_some pe_int)) (pe_tup (pa_cons (pe_slice sl_str (pe_ix (ix_tupK (K' := K) rfl) (pv 1) pe_int (fun _ _ => rfl)) po_none (po_some pe_int)) (pa_cons (pe_slice sl_str (pe_ix (ix_tupK (K' := K) rfl) (pv 1) pe_int (fun _ _ => rfl)) po_none (po_some pe_int)) (pa_cons (pe_ix (ix_tupK (K' := K) rfl) (pv 1) pe_int (fun _ _ => rfl)) pa_nil))))))))))), ?_⟩
  have hlx := hR.len
  refine ⟨_, rfl, a, rfl, ⟨_, hS⟩, fun D hD => rows_comp (K := K) (a := a) hD hS hR (by omega) cutRw (fun _ => rfl) (fun _ => rfl) ?_ ?_⟩
  · intro p r H2 R hm s2 hp hRv
    have g := (hG r hm).1
    have l1 : r.sh.length ≤ sizeLine := Nat.le_trans (short_name g.2.2.2.1) (by decide)
    have l2 : r.fo.length ≤ sizeLine := Nat.le_trans (short_name g.2.2.2.2) (by decide)
    refine ⟨_, rfl, _, rfl, p, _, rfl, hp, (fun z => absurd z.2 (by show ¬ HT.sIx 6 6 (some 3) = 6; decide)), fun _ q1 hq1 => ?_⟩
    have z1 := same_upd hq1 (o := .tup [.int r.num, .int r.ac, .int r.we])
    have hp1 := SqT.ext hp z1
    refine ⟨_, rfl, p, _, _, _, rfl, rfl, hp1, atI_nat (j := 3) rfl, _, rfl, _, rfl, l1, ?_⟩
    refine ⟨_, rfl, p, _, _, _, rfl, rfl, hp1, atI_nat (j := 4) rfl, _, rfl, _, rfl, l2, ?_⟩
    refine ⟨_, rfl, p, _, _, _, rfl, rfl, hp1, atI_nat (j := 5) rfl, (by show 3 ≤ sizeLine; decide), fun q2 hq2 => ?_⟩
    have z2 := same_upd hq2 (o := .tup [.str (cutS r.sh none (some 7)), .str (cutS r.fo none (some 7)), .bl r.dr])
    refine ⟨q1, q2, [.int r.num, .int r.ac, .int r.we], _, rfl, rfl, .inl (.inl (z2 _ _ upd_same)), .inl (.inl upd_same), (by show 3 + 3 ≤ sizeLine; decide), (fun e => by cases e), (fun _ e => by cases e), fun _ _ q3 hq3 => ?_⟩
    exact hRv q3 _ ((z1.trans z2).trans (same_upd hq3)) upd_same
  · intro H' acc s e h
    exact q H' D acc hD s e h
def otherRw (r : Rw) : Rw := { r with num := 1000000000 - r.num }
def widerRw (c : Int) (r : Rw) : Rw := { r with ac := r.ac + c }
def calledRw (r : Rw) : Rw := { r with sh := r.sh ++ "q", fo := ("q" : Str) ++ r.fo }
def heavierRw (c : Int) (r : Rw) : Rw := { r with we := (r.we + c) % 1000000 + 1 }
theorem str_tail {a b c : Str} : a ++ c = b ++ c ↔ a = b := by
  constructor
  · intro e
    have := congrArg TL.tl e
    rw [TL.tl_append, TL.tl_append] at this
    exact TL.ext_tl (List.append_cancel_right this)
  · rintro rfl
    rfl
theorem str_head {a b c : Str} : c ++ a = c ++ b ↔ a = b := by
  constructor
  · intro e
    have := congrArg TL.tl e
    rw [TL.tl_append, TL.tl_append] at this
    exact TL.ext_tl (List.append_cancel_left this)
  · rintro rfl
    rfl
theorem alike_other : Alike otherRw := ⟨fun r s => by show 1000000000 - r.num = 1000000000 - s.num ↔ _; omega, fun r s => rfl, fun r s => rfl⟩
theorem alike_wider (c : Int) : Alike (widerRw c) := ⟨fun r s => Iff.rfl, fun r s => by show r.ac + c - (s.ac + c) = _; omega, fun r s => rfl⟩
theorem alike_heavier (c : Int) : Alike (heavierRw c) := ⟨fun r s => Iff.rfl, fun r s => rfl, fun r s => rfl⟩
theorem alike_called : Alike calledRw := ⟨fun r s => Iff.rfl, fun r s => rfl, fun r s => by
  show (decide (r.sh ++ "q" = s.sh ++ "q") && (decide (("q" : Str) ++ r.fo = ("q" : Str) ++ s.fo) && decide (r.dr = s.dr))) = _
  rw [decide_eq_decide.mpr str_tail, decide_eq_decide.mpr str_head]
  rfl⟩
/-- rows whose words are at most seven letters, whose numbers are small -/
def Small25 (rs : List (Option Rw)) : Prop := ∀ r, some r ∈ rs → GoodRw r ∧ r.ac ≤ 100000 ∧ r.num ≤ 2000000 ∧ r.sh.length ≤ 7 ∧ r.fo.length ≤ 7
def spRenamed (K : PySem.W.Frag) : Sp := fun vs H Q _ => ∃ (d a : Addr) (n : Nat) (xs : List V) (rs : List (Option Rw)), vs = [.ref d, .ref a] ∧ a ≠ d ∧ H a = some (.lst xs) ∧ Rws K H xs rs ∧ Small25 rs ∧ rs.length ≤ 1000 ∧ Dr PT d n H ∧ n ≤ 100000 ∧
  ∀ (H' : Hp) (l : Addr) (a1 a2 a3 a4 : Addr) (y1 y2 y3 y4 : List V) (c : Int), 0 ≤ c → c < 1000000 → H' l = some (.lst [.ref a1, .ref a2, .ref a3, .ref a4]) → H' a1 = some (.lst y1) → H' a2 = some (.lst y2) → H' a3 = some (.lst y3) → H' a4 = some (.lst y4) →
    Rws K H' y1 (ren (widerRw (c % 500000)) rs) → Rws K H' y2 (ren (heavierRw c) rs) → Rws K H' y3 (ren otherRw rs) → Rws K H' y4 (ren calledRw rs) → But d H H' → Dr PT d (n + 1) H' → Q (.ref l) H'
theorem ok_renamed (T : Tx K mg) : FnOk P w K mg base CX0 2 T.A_renamed T.fd_renamed ["_law_well_here", "_law_rows_here"] (spRenamed K) := by
  refine T.F_renamed.ok sc_renamed (fun vs H Q E h => ?_) (fun cdv A outer s H vs Q E hr h => ?_)
  · obtain ⟨d, a, n, xs, rs, rfl, had, ha, hR, hG, hl, dr, hn, q⟩ := h
    rfl
  obtain ⟨d, a, n, xs, rs, rfl, had, ha, hR, hG, hl, dr, hn, q⟩ := h
  refine ⟨_, (pss_cons (ps_set (i := 2) sc_renamed.nd rfl (Or.inr rfl) (pe_call (ok_draw T) (hr.mono (by decide)) (by rfl) T.g_draw T.F_draw.kp T.b_draw .nil pass0 (pa_cons (pv 0) (pa_cons (pe_op op_pow pe_int pe_int) pa_nil))))
      (pss_cons (ps_setLc (i := 3) (own := [("_law_row", 7)]) (g := gName 7) (tt := tYes) rfl sc_renamed.nd rfl rfl (sw_true rfl rfl rfl (by decide +kernel)) (pi_list (pv 1)) (blkOk_by (N := ["_law_well_here", "_law_rows_here", "_law_shift", "_law_other", "_law_wider", "_law_called", "_law_heavier", "_law_row"]) (sc := defScope s_renamed) (by decide +kernel)) (fun _ _ _ _ _ => (pg_name (i := 7) sc_renamed.nd rfl (Or.inl rfl))) (fun _ _ _ _ _ => pts_nil) (fun _ _ _ _ _ => (pe_andW (K' := K) rfl (pv 7) (pe_one (pe_op (op_catAK (K' := K) rfl) (pe_tup (pa_cons (pe_op op_sub (pe_op op_pow pe_int pe_int) (pe_ix (ix_tupK (K' := K) rfl) (pv 7) pe_int (fun _ _ => rfl))) pa_nil)) (pe_slice (sl_tupAK (K' := K) rfl) (pv 7) (po_some pe_int) po_none))))))
      (pss_cons (ps_setLc (i := 4) (own := [("_law_row", 7)]) (g := gName 7) (tt := tYes) rfl sc_renamed.nd rfl rfl (sw_true rfl rfl rfl (by decide +kernel)) (pi_list (pv 1)) (blkOk_by (N := ["_law_well_here", "_law_rows_here", "_law_shift", "_law_other", "_law_wider", "_law_called", "_law_heavier", "_law_row"]) (sc := defScope s_renamed) (by decide +kernel)) (fun _ _ _ _ _ => (pg_name (i := 7) sc_renamed.nd rfl (Or.inl rfl))) (fun _ _ _ _ _ => pts_nil) (fun _ _ _ _ _ => (pe_andW (K' := K) rfl (pv 7) (pe_one (pe_op (op_catAK (K' := K) rfl) (pe_tup (pa_cons (pe_ix (ix_tupK (K' := K) rfl) (pv 7) pe_int (fun _ _ => rfl)) (pa_cons (pe_op op_add (pe_ix (ix_tupK (K' := K) rfl) (pv 7) pe_int (fun _ _ => rfl)) (pe_op op_mod (pv 2) pe_int)) pa_nil))) (pe_slice (sl_tupAK (K' := K) rfl) (pv 7) (po_some pe_int) po_none))))))
      (pss_cons (ps_setLc (i := 5) (own := [("_law_row", 7)]) (g := gName 7) (tt := tYes) rfl sc_renamed.nd rfl rfl (sw_true rfl rfl rfl (by decide +kernel)) (pi_list (pv 1)) (blkOk_by (N := ["_law_well_here", "_law_rows_here", "_law_shift", "_law_other", "_law_wider", "_law_called", "_law_heavier", "_law_row"]) (sc := defScope s_renamed) (by decide +kernel)) (fun _ _ _ _ _ => (pg_name (i := 7) sc_renamed.nd rfl (Or.inl rfl))) (fun _ _ _ _ _ => pts_nil) (fun _ _ _ _ _ => (pe_andW (K' := K) rfl (pv 7) (pe_one (pe_op (op_catAK (K' := K) rfl) (pe_slice (sl_tupAK (K' := K) rfl) (pv 7) po_none (po_some pe_int)) (pe_tup (pa_cons (pe_op op_add_str (pe_ix (ix_tupK (K' := K) rfl) (pv 7) pe_int (fun _ _ => rfl)) pe_str) (pa_cons (pe_op op_add_str pe_str (pe_ix (ix_tupK (K' := K) rfl) (pv 7) pe_int (fun _ _ => rfl))) (pa_cons (pe_ix (ix_tupK (K' := K) rfl) (pv 7) pe_int (fun _ _ => rfl)) pa_nil)))))))))
      (pss_cons (ps_setLc (i := 6) (own := [("_law_row", 7)]) (g := gName 7) (tt := tYes) rfl sc_renamed.nd rfl rfl (sw_true rfl rfl rfl (by decide +kernel)) (pi_list (pv 1)) (blkOk_by (N := ["_law_well_here", "_law_rows_here", "_law_shift", "_law_other", "_law_wider", "_law_called", "_law_heavier", "_law_row"]) (sc := defScope s_renamed) (by decide +kernel)) (fun _ _ _ _ _ => (pg_name (i := 7) sc_renamed.nd rfl (Or.inl rfl))) (fun _ _ _ _ _ => pts_nil) (fun _ _ _ _ _ => (pe_andW (K' := K) rfl (pv 7) (pe_one (pe_op (op_catAK (K' := K) rfl) (pe_op (op_catAK (K' := K) rfl) (pe_slice (sl_tupAK (K' := K) rfl) (pv 7) po_none (po_some pe_int)) (pe_tup (pa_cons (pe_op op_add (pe_op op_mod (pe_op op_add (pe_ix (ix_tupK (K' := K) rfl) (pv 7) pe_int (fun _ _ => rfl)) (pv 2)) (pe_op op_pow pe_int pe_int)) pe_int) pa_nil))) (pe_slice (sl_tupAK (K' := K) rfl) (pv 7) (po_some pe_int) po_none))))))
      (pss_one (ps_ret (pe_lst (pa_cons (pv 4) (pa_cons (pv 6) (pa_cons (pv 3) (pa_cons (pv 5) pa_nil)))))))))))), ?_⟩
  have hlx := hR.len
  refine ⟨_, rfl, _, _, rfl, rfl, ⟨by decide, by decide, by decide⟩, d, _, n, rfl, by decide, log_small (by decide) (by decide), dr, by omega, fun H1 c a1 c1 b1 dr1 => ?_⟩
  have e6 : (10 : Int) ^ (6 : Int).toNat = 1000000 := by decide
  rw [e6] at c1
  have ha1 := b1 _ _ had ha
  have hR1 := hR.same (dr_nl dr b1)
  refine ⟨_, rfl, a, rfl, ⟨_, SqL.of ha1⟩, fun D1 hD1 => rows_comp (K := K) (a := a) hD1 (SqL.of ha1) hR1 (by omega) otherRw (fun _ => rfl) (fun _ => rfl) ?_ ?_⟩
  · intro p r H2 R hm s2 hp hRv
    refine ⟨_, _, rfl, rfl, ⟨by decide, by decide, by decide⟩, _, rfl, p, _, _, _, rfl, rfl, hp, atI_nat (j := 0) rfl, _, _, rfl, rfl, (by show 1 ≤ sizeLine; decide), fun q1 hq1 => ?_⟩
    have z1 := same_upd hq1 (o := .tup [.int (10 ^ (9 : Int).toNat - r.num)])
    refine ⟨_, rfl, _, rfl, p, _, rfl, SqT.ext hp z1, (fun z => absurd z.1 (by show ¬ HT.sIx 6 0 (some 1) = 0; decide)), fun _ q2 hq2 => ?_⟩
    have z2 := same_upd hq2 (o := .tup [.int r.ac, .int r.we, .str r.sh, .str r.fo, .bl r.dr])
    refine ⟨q1, q2, [.int (10 ^ (9 : Int).toNat - r.num)], [.int r.ac, .int r.we, .str r.sh, .str r.fo, .bl r.dr], rfl, rfl, .inl (.inl (z2 _ _ upd_same)), .inl (.inl upd_same), (by show 1 + 5 ≤ sizeLine; decide), (fun e => by cases e), (fun _ e => by cases e), fun _ _ q3 hq3 => ?_⟩
    refine hRv q3 _ ((z1.trans z2).trans (same_upd hq3)) (upd_same.trans ?_)
    have e9 : (10 : Int) ^ (9 : Int).toNat = 1000000000 := by decide
    show some (HO.tup [V.int (10 ^ (9 : Int).toNat - r.num), .int r.ac, .int r.we, .str r.sh, .str r.fo, .bl r.dr]) = _
    rw [e9]
    rfl
  · intro H2 y3 s2 e2 k2
    refine ⟨_, rfl, a, rfl, ⟨_, SqL.of (s2 _ _ ha1)⟩, fun D2 hD2 => rows_comp (K := K) (a := a) hD2 (SqL.of (s2 _ _ ha1)) (hR1.same (NL.of s2)) (by omega) (widerRw (c % 500000)) (fun _ => rfl) (fun _ => rfl) ?_ ?_⟩
    · intro p r H3 R hm s3 hp hRv
      refine ⟨_, rfl, p, _, _, _, rfl, rfl, hp, atI_nat (j := 0) rfl, _, rfl, p, _, _, _, rfl, rfl, hp, atI_nat (j := 1) rfl, _, rfl, _, _, rfl, rfl, (by show (0 : Int) < 500000; decide), _, _, rfl, rfl, (by show 2 ≤ sizeLine; decide), fun q1 hq1 => ?_⟩
      have z1 := same_upd hq1 (o := .tup [.int r.num, .int (r.ac + c % 500000)])
      refine ⟨_, rfl, _, rfl, p, _, rfl, SqT.ext hp z1, (fun z => absurd z.1 (by show ¬ HT.sIx 6 0 (some 2) = 0; decide)), fun _ q2 hq2 => ?_⟩
      have z2 := same_upd hq2 (o := .tup [.int r.we, .str r.sh, .str r.fo, .bl r.dr])
      refine ⟨q1, q2, [.int r.num, .int (r.ac + c % 500000)], [.int r.we, .str r.sh, .str r.fo, .bl r.dr], rfl, rfl, .inl (.inl (z2 _ _ upd_same)), .inl (.inl upd_same), (by show 2 + 4 ≤ sizeLine; decide), (fun e => by cases e), (fun _ e => by cases e), fun _ _ q3 hq3 => ?_⟩
      exact hRv q3 _ ((z1.trans z2).trans (same_upd hq3)) upd_same
    · intro H3 y1 s3 e3 k3
      have s23 := s2.trans s3
      refine ⟨_, rfl, a, rfl, ⟨_, SqL.of (s23 _ _ ha1)⟩, fun D3 hD3 => rows_comp (K := K) (a := a) hD3 (SqL.of (s23 _ _ ha1)) (hR1.same (NL.of s23)) (by omega) calledRw (fun _ => rfl) (fun _ => rfl) ?_ ?_⟩
      · intro p r H4 R hm s4 hp hRv
        obtain ⟨g, _, _, l1, l2⟩ := hG r hm
        refine ⟨_, rfl, _, rfl, p, _, rfl, hp, (fun z => absurd z.2 (by show ¬ HT.sIx 6 6 (some 3) = 6; decide)), fun _ q1 hq1 => ?_⟩
        have z1 := same_upd hq1 (o := .tup [.int r.num, .int r.ac, .int r.we])
        have hp1 := SqT.ext hp z1
        have fit : ∀ n : Nat, n ≤ 20 → n ≤ sizeLine := fun n h => Nat.le_trans h (by decide)
        refine ⟨_, rfl, p, _, _, _, rfl, rfl, hp1, atI_nat (j := 3) rfl, _, _, rfl, rfl, fit _ (by show r.sh.length + 1 ≤ 20; omega), ?_⟩
        refine ⟨_, rfl, p, _, _, _, rfl, rfl, hp1, atI_nat (j := 4) rfl, _, _, rfl, rfl, fit _ (by show 1 + r.fo.length ≤ 20; omega), ?_⟩
        refine ⟨_, rfl, p, _, _, _, rfl, rfl, hp1, atI_nat (j := 5) rfl, (by show 3 ≤ sizeLine; decide), fun q2 hq2 => ?_⟩
        have z2 := same_upd hq2 (o := .tup [.str (r.sh ++ "q"), .str (("q" : Str) ++ r.fo), .bl r.dr])
        refine ⟨q1, q2, [.int r.num, .int r.ac, .int r.we], _, rfl, rfl, .inl (.inl (z2 _ _ upd_same)), .inl (.inl upd_same), (by show 3 + 3 ≤ sizeLine; decide), (fun e => by cases e), (fun _ e => by cases e), fun _ _ q3 hq3 => ?_⟩
        exact hRv q3 _ ((z1.trans z2).trans (same_upd hq3)) upd_same
      · intro H4 y4 s4 e4 k4
        have s24 := s23.trans s4
        refine ⟨_, rfl, a, rfl, ⟨_, SqL.of (s24 _ _ ha1)⟩, fun D4 hD4 => rows_comp (K := K) (a := a) hD4 (SqL.of (s24 _ _ ha1)) (hR1.same (NL.of s24)) (by omega) (heavierRw c) (fun _ => rfl) (fun _ => rfl) ?_ ?_⟩
        · intro p r H5 R hm s5 hp hRv
          refine ⟨_, rfl, _, rfl, p, _, rfl, hp, (fun z => absurd z.2 (by show ¬ HT.sIx 6 6 (some 2) = 6; decide)), fun _ q1 hq1 => ?_⟩
          have z1 := same_upd hq1 (o := .tup [.int r.num, .int r.ac])
          have hp1 := SqT.ext hp z1
          refine ⟨_, rfl, p, _, _, _, rfl, rfl, hp1, atI_nat (j := 2) rfl, _, rfl, _, _, rfl, rfl, _, _, rfl, rfl, ⟨by decide, by decide, by decide⟩, _, _, rfl, rfl, (by show (0 : Int) < 10 ^ (6 : Int).toNat; decide), _, _, rfl, rfl, (by show 1 ≤ sizeLine; decide), fun q2 hq2 => ?_⟩
          have z2 := same_upd hq2 (o := .tup [.int ((r.we + c) % 10 ^ (6 : Int).toNat + 1)])
          refine ⟨q1, q2, [.int r.num, .int r.ac], [.int ((r.we + c) % 10 ^ (6 : Int).toNat + 1)], rfl, rfl, .inl (.inl (z2 _ _ upd_same)), .inl (.inl upd_same), (by show 2 + 1 ≤ sizeLine; decide), (fun e => by cases e), (fun _ e => by cases e), fun _ _ q3 hq3 => ?_⟩
          have z3 := same_upd hq3 (o := .tup ([.int r.num, .int r.ac] ++ [.int ((r.we + c) % 10 ^ (6 : Int).toNat + 1)]))
          have z13 := (z1.trans z2).trans z3
          refine ⟨_, rfl, _, rfl, p, _, rfl, SqT.ext hp z13, (fun z => absurd z.1 (by show ¬ HT.sIx 6 0 (some 3) = 0; decide)), fun _ q4 hq4 => ?_⟩
          have z4 := same_upd hq4 (o := .tup [.str r.sh, .str r.fo, .bl r.dr])
          refine ⟨q3, q4, [.int r.num, .int r.ac, .int ((r.we + c) % 10 ^ (6 : Int).toNat + 1)], [.str r.sh, .str r.fo, .bl r.dr], rfl, rfl, .inl (.inl (z4 _ _ upd_same)), .inl (.inl upd_same), (by show 3 + 3 ≤ sizeLine; decide), (fun e => by cases e), (fun _ e => by cases e), fun _ _ q5 hq5 => ?_⟩
          refine hRv q5 _ ((z13.trans z4).trans (same_upd hq5)) (upd_same.trans ?_)
          show some (HO.tup [V.int r.num, .int r.ac, .int ((r.we + c) % 10 ^ (6 : Int).toNat + 1), .str r.sh, .str r.fo, .bl r.dr]) = _
          rw [e6]
          rfl
        · intro H5 y2 s5 e5 k5
          have s25 := s24.trans s5
          refine ⟨_, rfl, _, rfl, _, rfl, _, rfl, (by show 4 ≤ sizeLine; decide), fun l hl => ?_⟩
          have z := same_upd hl (o := .lst [.ref D2, .ref D4, .ref D1, .ref D3])
          have nl := (dr1.same s25).ne hl
          exact q _ l D2 D4 D1 D3 y1 y2 y3 y4 c a1 c1 upd_same (z _ _ (s5 _ _ (s4 _ _ e3))) (z _ _ e5) (z _ _ (s5 _ _ (s4 _ _ (s3 _ _ e2)))) (z _ _ (s5 _ _ e4))
            (k3.same (NL.of ((s4.trans s5).trans z))) (k5.same (NL.of z)) (k2.same (NL.of (((s3.trans s4).trans s5).trans z))) (k4.same (NL.of (s5.trans z))) (b1.trans (But.of (s25.trans z))) ((dr1.same s25).upd nl)
end
end KB
namespace KB
open PySem PySem.Spec PyProof.Rows L2 KA
section
variable {P : Program} {w : World} {K : PySem.W.Frag} {mg : Str → Option Value} {base : Heap}
def spClean (K : PySem.W.Frag) : Sp := fun vs H Q _ => ∃ (d t : Addr) (m : Int) (n : Nat) (u : Rl), vs = [.ref d, .int m, .ref t] ∧ 0 ≤ m ∧ m ≤ 60 ∧ H t = some (.tup (fourVals u)) ∧ GoodU u ∧ Dr PT d n H ∧ n ≤ 20000 ∧
  ∀ (H' : Hp) (p : Addr) (xs : List V) (rs : List (Option Rw)), H' p = some (.lst xs) → H p = none → p ≠ d → Rws K H' xs rs → AllGood rs → rs.length ≤ 200 → But d H H' → Dr PT d (n + 3000) H' → Q (.ref p) H'
theorem ok_clean (T : Tx K mg) : FnOk P w K mg base CX0 3 T.A_clean T.fd_clean ["_law_well_here", "_law_places", "_law_four"] (spClean K) := by
  refine T.F_clean.ok sc_clean (fun vs H Q E h => ?_) (fun cdv A outer s H vs Q E hr h => ?_)
  · obtain ⟨d, t, m, n, u, rfl, hm0, hm1, ht, hU, dr, hn, q⟩ := h
    rfl
  obtain ⟨d, t, m, n, u, rfl, hm0, hm1, ht, hU, dr, hn, q⟩ := h
  refine ⟨_, (pss_cons (ps_set (i := 3) sc_clean.nd rfl (Or.inl rfl) (pe_tup (pa_cons (pe_call (ok_word T) (hr.mono (by decide)) (by rfl) T.g_word T.F_word.kp T.b_word .nil pass0 (pa_cons (pv 0) pa_nil)) (pa_cons (pe_call (ok_word T) (hr.mono (by decide)) (by rfl) T.g_word T.F_word.kp T.b_word .nil pass0 (pa_cons (pv 0) pa_nil)) (pa_cons (pe_cmpR op_eq (pe_call (ok_draw T) (hr.mono (by decide)) (by rfl) T.g_draw T.F_draw.kp T.b_draw .nil pass0 (pa_cons (pv 0) (pa_cons pe_int pa_nil))) pe_int (nomark _)) pa_nil)))))
      (pss_cons (ps_set (i := 4) sc_clean.nd rfl (Or.inl rfl) (pe_lst pa_nil))
      (pss_cons (ps_for PassesOwn.never rfl (pi_range1 (by rfl) T.z_range (pa_cons (pv 1) pa_nil)) (pg_name (i := 5) sc_clean.nd rfl (Or.inl rfl))
        (pss_cons (ps_set (i := 6) sc_clean.nd rfl (Or.inl rfl) (pe_op op_add pe_int (pe_op op_mul (pe_callB (call_min2 rfl) (by rfl) T.z_min (by decide +kernel) (pa_cons (pv 5) (pa_cons (pe_op op_sub (pe_op op_sub (pv 1) pe_int) (pv 5)) pa_nil))) (pe_ix ix_tup (pv 2) pe_int (fun _ _ => rfl)))))
      (pss_cons (ps_expr (pe_bm PySem.F.plainAttrs_list PySem.F.slot_list_append PySem.F.type_list_append mt_append (pv 4) (pa_cons (pe_op op_catA (pe_tup (pa_cons (pe_op op_add (pe_op op_add (pe_op op_mul pe_int (pv 5)) pe_int) (pe_call (ok_draw T) (hr.mono (by decide)) (by rfl) T.g_draw T.F_draw.kp T.b_draw .nil pass0 (pa_cons (pv 0) (pa_cons pe_int pa_nil)))) (pa_cons (pv 6) (pa_cons (pe_op op_add pe_int (pe_call (ok_draw T) (hr.mono (by decide)) (by rfl) T.g_draw T.F_draw.kp T.b_draw .nil pass0 (pa_cons (pv 0) (pa_cons (pe_op op_pow pe_int pe_int) pa_nil)))) pa_nil)))) (pv 3)) pa_nil)))
      (pss_one (ps_if (pt_cmpR op_eq (pe_call (ok_draw T) (hr.mono (by decide)) (by rfl) T.g_draw T.F_draw.kp T.b_draw .nil pass0 (pa_cons (pv 0) (pa_cons pe_int pa_nil))) pe_int (nomark _)) (pss_one (ps_asg pe_non (pg_sub (pv 4) (pe_un un_neg pe_int) set_list))) pss_nil)))))
      (pss_one (ps_ret (pv 4)))))), ?_⟩
  have ntd : t ≠ d := by
    obtain ⟨_, _, _, e, _⟩ := dr
    exact fun z => by rw [z, e] at ht; cases ht
  obtain ⟨⟨u1, u2, u3⟩, u4, u5⟩ := hU
  refine ⟨_, rfl, d, n, rfl, dr, by omega, fun H1 z1 g1 b1 dr1 => ?_⟩
  refine ⟨_, rfl, d, n + 10, rfl, dr1, by omega, fun H2 z2 g2 b2 dr2 => ?_⟩
  refine ⟨_, rfl, d, 2, n + 20, rfl, by decide, log_tiny (by decide) (by decide), dr2, by omega, fun H3 r3 _ _ b3 dr3 => ?_⟩
  refine ⟨rfl, (by show 3 ≤ sizeLine; decide), fun tl htl => ?_⟩
  have ntl := dr3.ne htl
  refine ⟨Nat.zero_le _, fun f hf => ?_⟩
  have drl := dr3.upd (o := .tup [.str z1, .str z2, .bl (decide (V.int r3 = V.int 0))]) ntl
  have nf := drl.ne hf
  have ntf : tl ≠ f := fun z => by rw [← z, upd_same] at hf; cases hf
  have dr4 := drl.upd (o := .lst []) nf
  have b13 : But d H (upd H3 tl (.tup [.str z1, .str z2, .bl (decide (V.int r3 = V.int 0))])) := ((b1.trans b2).trans b3).trans (But.new htl)
  have b4 : But d H (upd (upd H3 tl (.tup [.str z1, .str z2, .bl (decide (V.int r3 = V.int 0))])) f (.lst [])) := b13.trans (But.new hf)
  have hf0 : H f = none := b13.free nf hf
  refine ⟨_, rfl, _, rfl, by omega, by omega, ?_⟩
  refine for_range (lo := 0) (n := m.toNat) (fun i σ H' => ∃ (w5 w6 : Option V) (acc : List V) (rs : List (Option Rw)), σ = [some (.ref d), some (.int m), some (.ref t), some (.ref tl), some (.ref f), w5, w6] ∧ H' f = some (.lst acc) ∧ Rws K H' acc rs ∧ AllGood rs ∧ rs.length = i ∧ LookT H' tl ∧ H' t = some (.tup (fourVals u)) ∧ But d H H' ∧ Dr PT d (n + 221 + 10 * i) H')
    ⟨_, _, [], [], rfl, upd_same, ⟨rfl, fun i v h => by simp at h⟩, (fun _ h => nomatch h), rfl, ⟨z1, z2, _, by rw [upd_ne ntf]; exact upd_same, g1, g2⟩, b4 _ _ ntd ht, b4, dr4.mono (by omega)⟩ ?_ ?_
  · rintro i σ H6 hi ⟨w5, w6, acc, rs, rfl, ef, hR, hG, lrs, hL, et, b6, dr6⟩
    have hi : (i : Int) < m := by omega
    have e64 : (2 : Int) ^ 64 = 18446744073709551616 := by decide
    refine ⟨_, rfl, _, rfl, _, _, rfl, rfl, _, rfl, _, _, rfl, rfl, _, _, rfl, _, rfl, t, _, _, _, rfl, rfl, .inl (.inl et), atI_nat (j := 0) rfl, _, _, rfl, rfl, .inr ⟨by rw [e64]; omega, by rw [e64]; omega⟩, _, _, rfl, rfl, ?_⟩
    obtain ⟨mn, hmn⟩ : ∃ mn : Int, mn = (if m - 1 - (0 + (i : Int)) < 0 + (i : Int) then m - 1 - (0 + (i : Int)) else 0 + (i : Int)) := ⟨_, rfl⟩
    have hmn0 : 0 ≤ mn := by rw [hmn]; split <;> omega
    have hmn1 : mn ≤ 60 := by rw [hmn]; split <;> omega
    rw [← hmn]
    have hp0 : 0 ≤ mn * u.lo := Int.mul_nonneg hmn0 u1
    have hp1 : mn * u.lo ≤ 60 * 100 := Int.mul_le_mul hmn1 (by omega) u1 (by decide)
    dsimp only
    generalize hac : 400 + mn * u.lo = ac
    have hac0 : 1 ≤ ac := by omega
    have hac1 : ac ≤ 100000 := by omega
    refine ⟨_, rfl, .inl ⟨rfl, _, SqL.of ef⟩, _, rfl, _, _, rfl, rfl, .inl ⟨by decide, by decide⟩, _, _, rfl, rfl, _, rfl, d, 9, _, rfl, by decide, log_tiny (by decide) (by decide), dr6, by omega, fun H7 r7 a7 c7 b7 dr7 => ⟨_, _, rfl, rfl, ?_⟩⟩
    refine ⟨_, rfl, _, rfl, _, _, rfl, rfl, ⟨by decide, by decide, by decide⟩, d, _, _, rfl, by decide, log_tiny (by decide) (by decide), dr7, by omega, fun H8 r8 a8 c8 b8 dr8 => ⟨_, _, rfl, rfl, (by show 3 ≤ sizeLine; decide), fun t1 ht1 => ?_⟩⟩
    have e6 : (10 : Int) ^ (6 : Int).toNat = 1000000 := by decide
    rw [e6] at c8
    have b68 := b7.trans b8
    obtain ⟨s, fo, bb, eL, gs, gf⟩ := id hL
    have eL8 := b68 _ _ ntl eL
    refine ⟨_, rfl, t1, tl, _, _, rfl, rfl, .inl (.inl upd_same), .inl (.inl (same_upd ht1 _ _ eL8)), (by show 6 ≤ sizeLine; decide), (fun z => nomatch z), (fun _ z => nomatch z), fun _ _ t2 ht2 => ?_⟩
    obtain ⟨num, hnum⟩ : ∃ num : Int, num = 10 * (0 + (i : Int)) + 1 + r7 := ⟨_, rfl⟩
    have S12 : Same H8 (upd (upd H8 t1 (.tup [.int (10 * (0 + (i : Int)) + 1 + r7), .int ac, .int (1 + r8)])) t2 (.tup (rowVals ⟨10 * (0 + (i : Int)) + 1 + r7, ac, 1 + r8, s, fo, bb⟩))) := (same_upd ht1).trans (same_upd ht2)
    have ef12 := S12 _ _ (b68 _ _ nf ef)
    refine ⟨f, _, _, rfl, rfl, ef12, ?_, ?_⟩
    · rw [hR.len, lrs]
      exact Nat.lt_of_lt_of_le (show i < 1000 by omega) (by decide)
    have dr12 := dr8.same S12
    have dr13 := dr12.upd (o := .lst (acc ++ [.ref t2])) nf
    have gR : GoodRw ⟨10 * (0 + (i : Int)) + 1 + r7, ac, 1 + r8, s, fo, bb⟩ := ⟨good_int (a := 10 * (0 + (i : Int)) + 1 + r7) (by omega) (by omega), good_int (a := ac) hac0 (by omega), good_int (a := 1 + r8) (by omega) (by omega), gs, gf⟩
    have nl12 : NL H6 _ := (dr_nl dr6 b68).trans (NL.of S12)
    have nl13 := nl12.trans (NL.at_ (o := .lst (acc ++ [.ref t2])) ef12)
    have bH13 := ((b6.trans b68).trans (But.of S12)).mut (o := .lst (acc ++ [.ref t2])) hf0
    have ntf2 : t ≠ f := fun z => by rw [z, ef] at et; cases et
    have et13 : (upd (upd (upd H8 t1 (.tup [.int (10 * (0 + (i : Int)) + 1 + r7), .int ac, .int (1 + r8)])) t2 (.tup (rowVals ⟨10 * (0 + (i : Int)) + 1 + r7, ac, 1 + r8, s, fo, bb⟩))) f (.lst (acc ++ [.ref t2]))) t = some (.tup (fourVals u)) := (upd_ne ntf2).trans (S12 _ _ (b68 _ _ ntd et))
    have tR : RowV K (upd (upd (upd H8 t1 (.tup [.int (10 * (0 + (i : Int)) + 1 + r7), .int ac, .int (1 + r8)])) t2 (.tup (rowVals ⟨10 * (0 + (i : Int)) + 1 + r7, ac, 1 + r8, s, fo, bb⟩))) f (.lst (acc ++ [.ref t2]))) (.ref t2) (some ⟨10 * (0 + (i : Int)) + 1 + r7, ac, 1 + r8, s, fo, bb⟩) := .inr ⟨t2, _, rfl, rfl, .inl (.inl ((NL.at_ (o := .lst (acc ++ [.ref t2])) ef12) _ _ (fun _ z => by cases z) (upd_same (H := upd H8 t1 (.tup [.int (10 * (0 + (i : Int)) + 1 + r7), .int ac, .int (1 + r8)])))))⟩
    refine ⟨_, rfl, d, 12, _, rfl, by decide, log_tiny (by decide) (by decide), dr13, by omega, fun H14 r14 _ _ b14 dr14 => ?_⟩
    have nl14 := nl13.trans (dr_nl dr13 b14)
    have ef14 := b14 _ _ nf upd_same
    refine ⟨rfl, _, rfl, ite2 (fun _ => ?_) (fun _ => ?_)⟩
    · have hix : ixN (acc ++ [V.ref t2]).length (-1) = some acc.length := by
        unfold ixN
        rw [if_neg (by decide), if_pos (by rw [List.length_append, List.length_singleton]; omega), List.length_append, List.length_singleton]
        congr 1
        omega
      refine ⟨_, rfl, 1, rfl, f, _, _, _, rfl, rfl, ef14, hix, ?_⟩
      refine ⟨_, _, _, rs ++ [none], rfl, upd_same, ?_, ?_, ?_, ?_, ?_, ?_, ?_⟩
      · exact ((hR.same nl14).same (NL.at_ ef14)).gap (o := none)
      · intro r hr
        rcases List.mem_append.mp hr with h | h
        · exact hG r h
        · simp at h
      · rw [List.length_append, lrs]
        rfl
      · exact (hL.same nl14).same (NL.at_ ef14)
      · exact (upd_ne ntf2).trans (b14 _ _ ntd et13)
      · exact (bH13.trans b14).mut hf0
      · exact (dr14.upd nf).mono (by omega)
    · refine ⟨_, _, _, rs ++ [some ⟨10 * (0 + (i : Int)) + 1 + r7, ac, 1 + r8, s, fo, bb⟩], rfl, ef14, ?_, ?_, ?_, ?_, ?_, ?_, ?_⟩
      · exact (hR.same nl14).push (tR.same (dr_nl dr13 b14))
      · intro r hr
        rcases List.mem_append.mp hr with h | h
        · exact hG r h
        · have := Option.some.inj (List.mem_singleton.mp h)
          rw [this]
          exact ⟨gR, hac1⟩
      · rw [List.length_append, lrs]
        rfl
      · exact hL.same nl14
      · exact b14 _ _ ntd et13
      · exact bH13.trans b14
      · exact dr14.mono (by omega)
  · rintro σ H6 ⟨w5, w6, acc, rs, rfl, ef, hR, hG, lrs, hL, et, b6, dr6⟩
    exact ⟨_, rfl, q H6 f acc rs ef hf0 nf hR hG (by omega) b6 (dr6.mono (by omega))⟩
end
end KB
namespace KB
open PySem PySem.Spec PyProof.Rows L2 KA
theorem sh_name {z : Str} (h : nm (.str z) = true) : PyData.canLay0 (.str z) = true := by
  have nmE : nm (.str z) = (decide (1 ≤ z.length) && decide (z.length ≤ 8) && z.cps.toList.all lower) := rfl
  rw [nmE] at h
  simp only [Bool.and_eq_true] at h
  show z.cps.all (· < 0x110000) = true
  rw [← Array.all_toList, List.all_eq_true]
  intro c hc
  have := lower_lt (List.all_eq_true.mp h.2 c hc)
  exact decide_eq_true (by omega)
theorem reason_str (rs : List (Option Rw)) (u : Rl) (i : Nat) (r : Rw) : reason rs u i r = .non ∨ ∃ s, reason rs u i r = .str s ∧ PyData.canLay0 (.str s) = true := by
  unfold reason
  split
  · exact .inr ⟨_, rfl, by decide +kernel⟩
  · split
    · exact .inr ⟨_, rfl, by decide +kernel⟩
    · split
      · exact .inl rfl
      · split
        · exact .inr ⟨_, rfl, by decide +kernel⟩
        · split
          · exact .inr ⟨_, rfl, by decide +kernel⟩
          · exact .inl rfl
theorem barFrom_str {rs : List (Option Rw)} {u : Rl} : ∀ {k i : Nat} {j : Nat} {x : V}, barFrom rs u k i = some (j, x) → ∃ s, x = .str s ∧ PyData.canLay0 (.str s) = true
  | 0, _, _, _, h => nomatch h
  | k + 1, i, j, x, h => by
    cases e : rs[i]? with
    | none =>
      have h : (match rs[i]? with | some (some r) => _ | _ => barFrom rs u k (i + 1)) = some (j, x) := h
      rw [e] at h
      exact barFrom_str h
    | some o =>
      cases o with
      | none =>
        rw [barFrom_gap e] at h
        exact barFrom_str h
      | some r =>
        by_cases hr : reason rs u i r = .non
        · rw [barFrom_ok e hr] at h
          exact barFrom_str h
        · rw [barFrom_bad e hr] at h
          have h := Option.some.inj h
          have h2 : reason rs u i r = x := congrArg Prod.snd h
          rcases reason_str rs u i r with z | ⟨s, es, hs⟩
          · exact absurd z hr
          · exact ⟨s, by rw [← h2]; exact es, hs⟩
/-- what barred tells, as data -/
def outD (o : Option (Nat × V)) : PyData := match o with
  | some (i, .str s) => .tuple [.int i, .str s]
  | _ => .none
theorem out_dp {K : PySem.W.Frag} {H : Hp} {rs : List (Option Rw)} {u : Rl} {v : V} (h : OutV H (bar rs u) v) : Dp K H v (outD (bar rs u)) ∧ SeqAt.shaped (outD (bar rs u)) = true := by
  cases e : bar rs u with
  | none =>
    rw [e] at h
    have h : v = .non := h
    subst h
    exact ⟨.non, rfl⟩
  | some z =>
    obtain ⟨i, x⟩ := z
    obtain ⟨s, rfl, hs⟩ := barFrom_str e
    rw [e] at h
    obtain ⟨t, rfl, ht⟩ := (show ∃ t, v = .ref t ∧ H t = some (.tup [.int i, .str s]) from h)
    refine ⟨.tup (.inl (.inl ht)) (.cons (.int _) (.cons (.str _) .nil)), ?_⟩
    show (PyData.canLay0 (.tuple [.int i, .str s]) && decide (PyData.depth (.tuple [.int i, .str s]) ≤ 64)) = true
    have : PyData.canLay0 (.tuple [.int i, .str s]) = true := by
      show (true && (PyData.canLay0 (.str s) && true)) = true
      rw [hs]
      rfl
    rw [this]
    rfl
theorem OutV.same {H H' : Hp} {o : Option (Nat × V)} {v : V} (s : NL H H') (h : OutV H o v) : OutV H' o v := by
  cases o with
  | none => exact h
  | some z =>
    obtain ⟨t, e, ht⟩ := h
    exact ⟨t, e, s _ _ (fun _ z => by cases z) ht⟩
theorem out_none {H : Hp} {o : Option (Nat × V)} {v : V} (h : OutV H o v) : decide (v = .non) = o.isNone := by
  cases o with
  | none => exact decide_eq_true h
  | some z =>
    obtain ⟨t, e, _⟩ := h
    rw [e]
    rfl
theorem nmE (z : Str) : nm (.str z) = (decide (1 ≤ z.length) && decide (z.length ≤ 8) && z.cps.toList.all lower) := rfl
theorem nm_of {z : Str} (h1 : 1 ≤ z.length) (h2 : z.length ≤ 8) (h3 : ∀ c ∈ z.cps.toList, lower c = true) : nm (.str z) = true := by
  rw [nmE, decide_eq_true h1, decide_eq_true h2, List.all_eq_true.mpr h3]
  rfl
theorem nm_is {z : Str} (h : nm (.str z) = true) : 1 ≤ z.length ∧ z.length ≤ 8 ∧ ∀ c ∈ z.cps.toList, lower c = true := by
  rw [nmE] at h
  simp only [Bool.and_eq_true, decide_eq_true_eq] at h
  exact ⟨h.1.1, h.1.2, List.all_eq_true.mp h.2⟩
theorem nm_cut {z : Str} (h : nm (.str z) = true) : nm (.str (cutS z none (some 7))) = true ∧ (cutS z none (some 7)).length ≤ 7 := by
  obtain ⟨h1, h2, h3⟩ := nm_is h
  have e : (cutS z none (some 7)).cps.toList = z.cps.toList.take (min 7 z.length) := by
    show ((z.cps.toList.drop (HT.sIx z.length 0 none)).take (HT.sIx z.length z.length (some ((7 : Nat) : Int)) - HT.sIx z.length 0 none)).toArray.toList = _
    rw [HT.sIx_nat]
    rfl
  have l : (cutS z none (some 7)).length = min 7 z.length := by
    show (cutS z none (some 7)).cps.size = _
    rw [← Array.length_toList, e, List.length_take, Array.length_toList]
    show min (min 7 z.length) z.length = _
    omega
  exact ⟨nm_of (by omega) (by omega) fun c hc => h3 c (List.mem_of_mem_take (by rw [e] at hc; exact hc)), by omega⟩
theorem len_app (x y : Str) : (x ++ y).length = x.length + y.length := Str.length_append x y
theorem nm_app {x y : Str} (hx : ∀ c ∈ x.cps.toList, lower c = true) (hy : ∀ c ∈ y.cps.toList, lower c = true) (h1 : 1 ≤ x.length + y.length) (h2 : x.length + y.length ≤ 8) : nm (.str (x ++ y)) = true := by
  refine nm_of (by rw [len_app]; exact h1) (by rw [len_app]; exact h2) fun c hc => ?_
  have hc : c ∈ TL.tl (x ++ y) := hc
  rw [TL.tl_append] at hc
  rcases List.mem_append.mp hc with h | h
  · exact hx c h
  · exact hy c h
def Cut25 (rs : List (Option Rw)) : Prop := ∀ r, some r ∈ rs → GoodRw r ∧ r.ac ≤ 100000 ∧ r.sh.length ≤ 7 ∧ r.fo.length ≤ 7
theorem ren_mem {f : Rw → Rw} {rs : List (Option Rw)} {r : Rw} (h : some r ∈ ren f rs) : ∃ r', some r' ∈ rs ∧ r = f r' := by
  obtain ⟨o, ho, e⟩ := List.mem_map.mp h
  cases o with
  | none => cases e
  | some r' => exact ⟨r', ho, (Option.some.inj e).symm⟩
theorem cut_good {rs : List (Option Rw)} (h : AllGood rs) : Cut25 (ren cutRw rs) := fun r hr => by
  obtain ⟨r', h', rfl⟩ := ren_mem hr
  obtain ⟨⟨g1, g2, g3, g4, g5⟩, ga⟩ := h r' h'
  exact ⟨⟨g1, g2, g3, (nm_cut g4).1, (nm_cut g5).1⟩, ga, (nm_cut g4).2, (nm_cut g5).2⟩
def numRw (r : Rw) : Rw := { r with num := r.num % 1000000 * 2 + 2 }
theorem whl_is {a lo hi : Int} (h : whl (.int a) lo hi = true) : lo ≤ a ∧ a ≤ hi := by
  have h : (decide (lo ≤ a) && decide (a ≤ hi)) = true := h
  simp only [Bool.and_eq_true, decide_eq_true_eq] at h
  exact h
theorem num_good {rs : List (Option Rw)} (h : Cut25 rs) : Small25 (ren numRw rs) ∧ ∀ r, some r ∈ ren numRw rs → 2 ≤ r.num := by
  refine ⟨fun r hr => ?_, fun r hr => ?_⟩
  · obtain ⟨r', h', rfl⟩ := ren_mem hr
    obtain ⟨⟨g1, g2, g3, g4, g5⟩, ga, gb, gc⟩ := h r' h'
    have h0 := Int.emod_nonneg r'.num (show (1000000 : Int) ≠ 0 by decide)
    have h1 := Int.emod_lt_of_pos r'.num (show (0 : Int) < 1000000 by decide)
    exact ⟨⟨good_int (a := r'.num % 1000000 * 2 + 2) (by omega) (by omega), g2, g3, g4, g5⟩, ga, by show r'.num % 1000000 * 2 + 2 ≤ 2000000; omega, gb, gc⟩
  · obtain ⟨r', h', rfl⟩ := ren_mem hr
    have h0 := Int.emod_nonneg r'.num (show (1000000 : Int) ≠ 0 by decide)
    show 2 ≤ r'.num % 1000000 * 2 + 2
    omega
def OkAll (rs : List (Option Rw)) : Prop := ∀ r, some r ∈ rs → GoodRw r
theorem ok_wider {rs : List (Option Rw)} (h : Small25 rs) {c : Int} (h0 : 0 ≤ c) (h1 : c < 500000) : OkAll (ren (widerRw c) rs) := fun r hr => by
  obtain ⟨r', h', rfl⟩ := ren_mem hr
  obtain ⟨⟨g1, g2, g3, g4, g5⟩, ga, _⟩ := h r' h'
  have := whl_is g2
  exact ⟨g1, good_int (a := r'.ac + c) (by omega) (by omega), g3, g4, g5⟩
theorem ok_heavier {rs : List (Option Rw)} (h : Small25 rs) {c : Int} : OkAll (ren (heavierRw c) rs) := fun r hr => by
  obtain ⟨r', h', rfl⟩ := ren_mem hr
  obtain ⟨⟨g1, g2, g3, g4, g5⟩, ga, _⟩ := h r' h'
  have h0 := Int.emod_nonneg (r'.we + c) (show (1000000 : Int) ≠ 0 by decide)
  have h1 := Int.emod_lt_of_pos (r'.we + c) (show (0 : Int) < 1000000 by decide)
  exact ⟨g1, g2, good_int (a := (r'.we + c) % 1000000 + 1) (by omega) (by omega), g4, g5⟩
theorem ok_other {rs : List (Option Rw)} (h : Small25 rs) : OkAll (ren otherRw rs) := fun r hr => by
  obtain ⟨r', h', rfl⟩ := ren_mem hr
  obtain ⟨⟨g1, g2, g3, g4, g5⟩, ga, gn, _⟩ := h r' h'
  have := whl_is g1
  exact ⟨good_int (a := 1000000000 - r'.num) (by omega) (by omega), g2, g3, g4, g5⟩
theorem q_low : ∀ c ∈ ("q" : Str).cps.toList, lower c = true := by decide +kernel
theorem ok_called {rs : List (Option Rw)} (h : Small25 rs) : OkAll (ren calledRw rs) := fun r hr => by
  obtain ⟨r', h', rfl⟩ := ren_mem hr
  obtain ⟨⟨g1, g2, g3, g4, g5⟩, ga, _, gb, gc⟩ := h r' h'
  have lq : ("q" : Str).length = 1 := by decide +kernel
  exact ⟨g1, g2, g3, nm_app (nm_is g4).2.2 q_low (by omega) (by omega), nm_app q_low (nm_is g5).2.2 (by omega) (by omega)⟩
def rowD (o : Option Rw) : PyData := match o with
  | some r => .tuple [.int r.num, .int r.ac, .int r.we, .str r.sh, .str r.fo, .bool r.dr]
  | none => .none
theorem RowV.dp {K : PySem.W.Frag} {H : Hp} {v : V} {o : Option Rw} (h : RowV K H v o) : Dp K H v (rowD o) := by
  rcases h with ⟨rfl, rfl⟩ | ⟨p, r, rfl, rfl, hp⟩
  · exact .non
  · exact .tup hp (.cons (.int _) (.cons (.int _) (.cons (.int _) (.cons (.str _) (.cons (.str _) (.cons (.bl _) .nil))))))
theorem dpAll_of {K : PySem.W.Frag} {H : Hp} : ∀ {vs : List V} {rs : List (Option Rw)}, vs.length = rs.length → (∀ (j : Nat) (v : V), vs[j]? = some v → ∃ o, rs[j]? = some o ∧ RowV K H v o) → DpAll K H vs (rs.map rowD)
  | [], [], _, _ => .nil
  | [], _ :: _, l, _ => by simp at l
  | _ :: _, [], l, _ => by simp at l
  | v :: vs, o :: rs, l, h => by
    refine .cons ?_ (dpAll_of (by simpa using l) fun j x hx => ?_)
    · obtain ⟨o', e, hv⟩ := h 0 v rfl
      have : o = o' := Option.some.inj e
      subst this
      exact hv.dp
    · obtain ⟨o', e, hv⟩ := h (j + 1) x hx
      exact ⟨o', e, hv⟩
theorem Rws.dp {K : PySem.W.Frag} {H : Hp} {vs : List V} {rs : List (Option Rw)} (h : Rws K H vs rs) : DpAll K H vs (rs.map rowD) := dpAll_of h.len h.at_
theorem Rws.rev {K : PySem.W.Frag} {H : Hp} {vs : List V} {rs : List (Option Rw)} (h : Rws K H vs rs) : Rws K H vs.reverse rs.reverse := by
  refine ⟨by rw [List.length_reverse, List.length_reverse]; exact h.len, ?_⟩
  intro i v hv
  have hi : i < vs.length := by
    have := (List.getElem?_eq_some_iff.mp hv).1
    rwa [List.length_reverse] at this
  rw [List.getElem?_reverse hi] at hv
  obtain ⟨o, h1, h2⟩ := h.at_ _ v hv
  refine ⟨o, ?_, h2⟩
  rw [List.getElem?_reverse (by rw [← h.len]; exact hi), ← h.len]
  exact h1
theorem rowD_ok {o : Option Rw} (h : ∀ r, o = some r → GoodRw r) : PyData.canLay0 (rowD o) = true ∧ PyData.depth (rowD o) ≤ 1 := by
  cases o with
  | none => exact ⟨rfl, by decide⟩
  | some r =>
    have g := h r rfl
    constructor
    · show (true && (true && (true && (PyData.canLay0 (.str r.sh) && (PyData.canLay0 (.str r.fo) && (true && true)))))) = true
      rw [sh_name g.2.2.2.1, sh_name g.2.2.2.2]
      rfl
    · exact Nat.le_refl _
theorem rowsD_ok : ∀ {rs : List (Option Rw)}, OkAll rs → PyData.canLayAll0 (rs.map rowD) = true ∧ PyData.depthAll (rs.map rowD) ≤ 1
  | [], _ => ⟨rfl, by decide⟩
  | o :: rs, h => by
    obtain ⟨a, b⟩ := rowsD_ok (rs := rs) fun r hr => h r (List.mem_cons_of_mem _ hr)
    obtain ⟨c, d⟩ := rowD_ok (o := o) fun r hr => h r (by rw [hr]; exact List.mem_cons_self ..)
    constructor
    · show (PyData.canLay0 (rowD o) && PyData.canLayAll0 (rs.map rowD)) = true
      rw [a, c]
      rfl
    · show max (PyData.depth (rowD o)) (PyData.depthAll (rs.map rowD)) ≤ 1
      omega
theorem rowsD_shaped {rs : List (Option Rw)} (h : OkAll rs) : SeqAt.shaped (.list (rs.map rowD)) = true := by
  obtain ⟨a, b⟩ := rowsD_ok h
  show (PyData.canLayAll0 (rs.map rowD) && decide (PyData.depthAll (rs.map rowD) + 1 ≤ 64)) = true
  rw [a, decide_eq_true (by omega)]
  rfl
section
variable {P : Program} {w : World} {K : PySem.W.Frag} {mg : Str → Option Value} {base : Heap}
theorem sf_no (t m : Addr) {x : Str} (h1 : ¬ x = "rule") (h2 : ¬ x = "held") : (sf t m).lookup x = none := by
  unfold sf
  rw [lookup_putF, if_neg h1, lookup_putF, if_neg h2]
  rfl
/-- [bead and bead.row() for bead in beads] -/
theorem told_comp {K : PySem.W.Frag} {mg : Str → Option Value} (T : Tx K mg) {a : Addr} {xs : List V} {rs : List (Option Rw)} {H : Hp} {D : Addr} {c : Nat} (hD : H D = none) (hS : SqL K H a xs) (hB : Bds T.C_Bead H xs rs) (hl : xs.length ≤ 10000)
    {vs : List Nat} {σ : L2.St} {Qd : Hp → Prop} (hw : ∀ v, wipe ((wipe σ vs).set c (some v)) vs = wipe σ vs) (hc : ∀ v, ((wipe σ vs).set c (some v))[c]? = some (some v))
    (fin : ∀ H' acc, Same H H' → H' D = some (.lst acc) → Rws K H' acc rs → Qd H') :
    ∃ W : Nat → Nat → Hp → Prop, (∃ m, W 0 m (upd H D (.lst []))) ∧ ∀ i m H, W i m H →
      ((Itl K a).stop i H ∧ Qd H) ∨ ((Itl K a).go i H ∧ ∃ Nx : Hp → Prop, (∀ H', Nx H' → ∃ m', m' < m ∧ W (i + 1) m' H') ∧ ∀ x H', (Itl K a).yld i H x H' → gName c x (wipe σ vs) H' fun σ2 H2 => wipe σ2 vs = wipe σ vs ∧ tYes σ2 H2 fun b H3 =>
        if b = true then tAndW K (tVar c) (tMeth T.C_Bead "row" (spRow T.C_Bead) [] E0 (tVar c) tNil) σ2 H3 fun y H4 => ∃ acc, H4 D = some (.lst acc) ∧ acc.length < sizeLine ∧ Nx (upd H4 D (.lst (acc ++ [y]))) else Nx H3) := by
  refine lc_gen hD hS hl (fun j v H' => ∃ o, rs[j]? = some o ∧ RowV K H' v o) (fun j v H1 H2 s h => ?_) ?_ ?_
  · obtain ⟨o, h1, h2⟩ := h
    exact ⟨o, h1, h2.same s⟩
  · intro i x H2 R C hi s2 hRv
    obtain ⟨o, ho, hv⟩ := hB.at_ i x hi
    refine ⟨hw x, yesT ⟨x, hc x, ?_⟩⟩
    rcases hv.same (NL.of s2) with ⟨rfl, rfl⟩ | ⟨p, r, rfl, rfl, dp, hp⟩
    · exact ⟨false, .inl rfl, iteF (hRv _ _ (Same.refl _) ⟨none, ho, .inl ⟨rfl, rfl⟩⟩)⟩
    · refine ⟨true, .inr ⟨p, T.C_Bead, dp, _, rfl, hp, T.bb_Bead, T.bl_Bead, rfl⟩, iteT ?_⟩
      refine ⟨_, hc _, p, dp, _, rfl, hp, bf_no r (by decide +kernel) (by decide +kernel) (by decide +kernel) (by decide +kernel) (by decide +kernel) (by decide +kernel), p, r, rfl, ⟨dp, hp⟩, fun t' ht' => ?_⟩
      exact hRv _ _ (same_upd ht') ⟨some r, ho, .inr ⟨t', r, rfl, rfl, .inl (.inl upd_same)⟩⟩
  · intro H' acc s e l g
    exact fin H' acc s e ⟨by rw [l, hB.len], g⟩
def spLaw (K : PySem.W.Frag) : Sp := fun vs H Q _ => ∃ (a : Addr) (ns : List Int), vs = [.ref a] ∧ SqL K H a (ns.map V.int) ∧ ns.length ≤ 63 ∧ ∀ H', Q (.bl true) H'
theorem ok_law {f : Addr} {fd : FuncData} (T : Tx K mg) (F : Fun K "law" "law" s_law f fd) : FnOk P w K mg base CX0 13 f fd ["_law_script"] (spLaw K) := by
  refine F.ok sc_law (fun vs H Q E h => ?_) (fun cdv A outer s H vs Q E hr h => ?_)
  · obtain ⟨a, ns, rfl, hS, hlen, q⟩ := h
    rfl
  obtain ⟨a, ns, rfl, hS, hlen, q⟩ := h
  refine ⟨_, (pss_cons (ps_for PassesOwn.never rfl (pi_list (pe_op op_cat (pe_lst (pa_cons (pe_call (ok_cell_at T) (hr.mono (by decide)) (by rfl) T.g_cell_at T.F_cell_at.kp T.b_cell_at .nil pass0 (pa_cons (pv 0) (pa_cons pe_int pa_nil))) pa_nil)) (pe_slice sl_list (pv 0) (po_some pe_int) (po_some pe_int)))) (pg_name (i := 1) sc_law.nd rfl (Or.inl rfl))
        (pss_cons (ps_set (i := 2) sc_law.nd rfl (Or.inl rfl) (pe_call (ok_well T) (hr.mono (by decide)) (by rfl) T.g_well T.F_well.kp T.b_well .nil pass0 (pa_cons (pv 1) pa_nil)))
      (pss_cons (ps_set (i := 3) sc_law.nd rfl (Or.inl rfl) (pe_call (ok_rule T) (hr.mono (by decide)) (by rfl) T.g_rule T.F_rule.kp T.b_rule .nil pass0 (pa_cons (pv 2) pa_nil)))
      (pss_cons (ps_set (i := 4) sc_law.nd rfl (Or.inl rfl) (pe_make T.mk_Rule (ok_Rule_init T) (hr.mono (by decide)) (by rfl) T.g_Rule T.b_Rule_init .nil pass0 (pa_cons (pe_ix ix_tup (pv 3) pe_int (fun _ _ => rfl)) (pa_cons (pe_ix ix_tup (pv 3) pe_int (fun _ _ => rfl)) (pa_cons (pe_ix ix_tup (pv 3) pe_int (fun _ _ => rfl)) (pa_cons (pe_ix ix_tup (pv 3) pe_int (fun _ _ => rfl)) pa_nil))))))
      (pss_cons (ps_set (i := 5) sc_law.nd rfl (Or.inl rfl) (pe_call (ok_word_cut T) (hr.mono (by decide)) (by rfl) T.g_word_cut T.F_word_cut.kp T.b_word_cut .nil pass0 (pa_cons (pe_call (ok_rows T) (hr.mono (by decide)) (by rfl) T.g_rows T.F_rows.kp T.b_rows .nil pass0 (pa_cons (pv 2) (pa_cons (pe_call (ok_draw T) (hr.mono (by decide)) (by rfl) T.g_draw T.F_draw.kp T.b_draw .nil pass0 (pa_cons (pv 2) (pa_cons pe_int pa_nil))) (pa_cons (pv 3) pa_nil)))) pa_nil)))
      (pss_cutJ (ps_if (pt_cmpR op_eq (pe_call (ok_draw T) (hr.mono (by decide)) (by rfl) T.g_draw T.F_draw.kp T.b_draw .nil pass0 (pa_cons (pv 2) (pa_cons pe_int pa_nil))) pe_int (nomark _)) (pss_one (ps_set (i := 5) sc_law.nd rfl (Or.inl rfl) (pe_call (ok_word_cut T) (hr.mono (by decide)) (by rfl) T.g_word_cut T.F_word_cut.kp T.b_word_cut .nil pass0 (pa_cons (pe_call (ok_clean T) (hr.mono (by decide)) (by rfl) T.g_clean T.F_clean.kp T.b_clean .nil pass0 (pa_cons (pv 2) (pa_cons (pe_call (ok_one T) (hr.mono (by decide)) (by rfl) T.g_one T.F_one.kp T.b_one .nil pass0 (pa_cons (pv 2) (pa_cons (pe_lst (pa_cons pe_int (pa_cons (pe_call (ok_draw T) (hr.mono (by decide)) (by rfl) T.g_draw T.F_draw.kp T.b_draw .nil pass0 (pa_cons (pv 2) (pa_cons pe_int pa_nil))) pa_nil))) pa_nil))) (pa_cons (pv 3) pa_nil)))) pa_nil)))) pss_nil)
      (pss_cons (ps_setLc (i := 5) (own := [("_law_row", 11)]) (g := gName 11) (tt := tYes) rfl sc_law.nd rfl rfl (sw_true rfl rfl rfl (by decide +kernel)) (pi_list (pv 5)) (blkOk_by (N := ["_law_script", "_law_cell", "_law_well_here", "_law_four", "_law_rule_here", "_law_rows_here", "_law_beads", "_law_due", "_law_others", "_law_string", "_law_turned", "_law_row", "_law_bead_here"]) (sc := defScope s_law) (by decide +kernel)) (fun _ _ _ _ _ => (pg_name (i := 11) sc_law.nd rfl (Or.inl rfl))) (fun _ _ _ _ _ => pts_nil) (fun _ _ _ _ _ => (pe_andW (K' := K) rfl (pv 11) (pe_one (pe_op (op_catAK (K' := K) rfl) (pe_tup (pa_cons (pe_op op_add (pe_op op_mul (pe_op op_mod (pe_ix (ix_tupK (K' := K) rfl) (pv 11) pe_int (fun _ _ => rfl)) (pe_op op_pow pe_int pe_int)) pe_int) pe_int) pa_nil)) (pe_slice (sl_tupAK (K' := K) rfl) (pv 11) (po_some pe_int) po_none))))))
      (pss_cons (ps_setLc (i := 6) (own := [("_law_row", 11)]) (g := gName 11) (tt := tYes) rfl sc_law.nd rfl rfl (sw_true rfl rfl rfl (by decide +kernel)) (pi_list (pv 5)) (blkOk_by (N := ["_law_script", "_law_cell", "_law_well_here", "_law_four", "_law_rule_here", "_law_rows_here", "_law_beads", "_law_due", "_law_others", "_law_string", "_law_turned", "_law_row", "_law_bead_here"]) (sc := defScope s_law) (by decide +kernel)) (fun _ _ _ _ _ => (pg_name (i := 11) sc_law.nd rfl (Or.inl rfl))) (fun _ _ _ _ _ => pts_nil) (fun _ _ _ _ _ => (pe_call (ok_bead T) (hr.mono (by decide)) (by rfl) T.g_bead T.F_bead.kp T.b_bead .nil pass0 (pa_cons (pv 11) pa_nil))))
      (pss_cons (ps_set (i := 7) sc_law.nd rfl (Or.inl rfl) (pe_call (ok_barred T) (hr.mono (by decide)) (by rfl) T.g_barred T.F_barred.kp T.b_barred .nil pass0 (pa_cons (pv 6) (pa_cons (pv 4) pa_nil))))
      (pss_cons (ps_if (pt_cmpR op_ne (pe_cmpR op_isN (pv 7) pe_non (nomark _)) (pe_cmpR op_isN (pe_call (ok_barred T) (hr.mono (by decide)) (by rfl) T.g_barred T.F_barred.kp T.b_barred .nil pass0 (pa_cons (pe_revL (pv 6)) (pa_cons (pv 4) pa_nil))) pe_non (nomark _)) (nomark _)) (pss_one (ps_ret pe_bl)) pss_nil)
      (pss_cons (ps_for PassesOwn.never rfl (pi_list (pe_call (ok_renamed T) (hr.mono (by decide)) (by rfl) T.g_renamed T.F_renamed.kp T.b_renamed .nil pass0 (pa_cons (pv 2) (pa_cons (pv 5) pa_nil)))) (pg_name (i := 8) sc_law.nd rfl (Or.inl rfl))
        (pss_one (ps_if (pt_cmpR (op_neD hr.units) (pe_call (ok_barred T) (hr.mono (by decide)) (by rfl) T.g_barred T.F_barred.kp T.b_barred .nil pass0 (pa_cons (pe_lc (own := [("_law_row", 11)]) (g := gName 11) (tt := tYes) rfl sc_law.nd (pi_list (pv 8)) (blkOk_by (N := ["_law_script", "_law_cell", "_law_well_here", "_law_four", "_law_rule_here", "_law_rows_here", "_law_beads", "_law_due", "_law_others", "_law_string", "_law_turned", "_law_row", "_law_bead_here"]) (sc := defScope s_law) (by decide +kernel)) (fun _ _ _ _ _ => (pg_name (i := 11) sc_law.nd rfl (Or.inl rfl))) (fun _ _ _ _ _ => pts_nil) (fun _ _ _ _ _ => (pe_call (ok_bead T) (hr.mono (by decide)) (by rfl) T.g_bead T.F_bead.kp T.b_bead .nil pass0 (pa_cons (pv 11) pa_nil)))) (pa_cons (pv 4) pa_nil))) (pv 7) (nomark _)) (pss_one (ps_ret pe_bl)) pss_nil)))
      (pss_one (ps_if (pt_cmpR op_isN (pv 7) pe_non (nomark _)) (pss_cons (ps_set (i := 9) sc_law.nd rfl (Or.inl rfl) (pe_make T.mk_String (ok_String_init T) (hr.mono (by decide)) (by rfl) T.g_String T.b_String_init .nil pass0 (pa_cons (pv 6) (pa_cons (pv 4) pa_nil))))
      (pss_cons (ps_set (i := 10) sc_law.nd rfl (Or.inl rfl) (pe_meth0 (pv 9) T.cl_String T.m_String_turned (ok_String_turned T) (hr.mono (by decide)) T.b_String_turned .nil pass0))
      (pss_cons (ps_if (PW.pt (pw_or (pt_not (pt_cmpR (op_own (E := E0) (ok_String_eq T) T.m_String_eq.at_ T.m_String_eq.fn T.b_String_eq pass0 (hr.mono (by decide))) (pv 10) (pv 9) (nomark _))) (pw_or1 (pt_not (pt_cmpR (op_own (E := E0) (ok_String_eq T) T.m_String_eq.at_ T.m_String_eq.fn T.b_String_eq pass0 (hr.mono (by decide))) (pe_meth0 (pv 10) T.cl_String T.m_String_turned (ok_String_turned T) (hr.mono (by decide)) T.b_String_turned .nil pass0) (pv 9) (nomark _)))))) (pss_one (ps_ret pe_bl)) pss_nil)
      (pss_cons (ps_if (pt_cmpR (op_neD hr.units) (pe_lc (own := [("_law_bead_here", 12)]) (g := gName 12) (tt := tYes) rfl sc_law.nd (pi_list (pe_meth0 (pv 10) T.cl_String T.m_String_beads (ok_String_beads T) (hr.mono (by decide)) T.b_String_beads .nil pass0)) (blkOk_by (N := ["_law_script", "_law_cell", "_law_well_here", "_law_four", "_law_rule_here", "_law_rows_here", "_law_beads", "_law_due", "_law_others", "_law_string", "_law_turned", "_law_row", "_law_bead_here"]) (sc := defScope s_law) (by decide +kernel)) (fun _ _ _ _ _ => (pg_name (i := 12) sc_law.nd rfl (Or.inl rfl))) (fun _ _ _ _ _ => pts_nil) (fun _ _ _ _ _ => (pe_andW (K' := K) rfl (pv 12) (pe_one (pe_meth0 (pv 12) T.cl_Bead T.m_Bead_row (ok_Bead_row T) (hr.mono (by decide)) T.b_Bead_row .nil pass0))))) (pe_revL (pv 5)) (nomark _)) (pss_one (ps_ret pe_bl)) pss_nil)
      (pss_one (ps_if (pt_cmpR (op_neD hr.units) (pe_lc (own := [("_law_bead_here", 12)]) (g := gName 12) (tt := tYes) rfl sc_law.nd (pi_list (pe_meth0 (pe_meth0 (pv 10) T.cl_String T.m_String_turned (ok_String_turned T) (hr.mono (by decide)) T.b_String_turned .nil pass0) T.cl_String T.m_String_beads (ok_String_beads T) (hr.mono (by decide)) T.b_String_beads .nil pass0)) (blkOk_by (N := ["_law_script", "_law_cell", "_law_well_here", "_law_four", "_law_rule_here", "_law_rows_here", "_law_beads", "_law_due", "_law_others", "_law_string", "_law_turned", "_law_row", "_law_bead_here"]) (sc := defScope s_law) (by decide +kernel)) (fun _ _ _ _ _ => (pg_name (i := 12) sc_law.nd rfl (Or.inl rfl))) (fun _ _ _ _ _ => pts_nil) (fun _ _ _ _ _ => (pe_andW (K' := K) rfl (pv 12) (pe_one (pe_meth0 (pv 12) T.cl_Bead T.m_Bead_row (ok_Bead_row T) (hr.mono (by decide)) T.b_Bead_row .nil pass0))))) (pv 5) (nomark _)) (pss_one (ps_ret pe_bl)) pss_nil)))))) pss_nil)))))))))))))
      (pss_one (ps_ret pe_bl))), ?_⟩
  refine ⟨_, rfl, a, ns, rfl, hS, (by show 1 ≤ sizeLine; decide), fun p hp => ?_⟩
  have s1 : Same H (upd H p (.lst [.int (ns.headD 0)])) := same_upd hp
  refine ⟨_, rfl, _, rfl, _, rfl, a, _, rfl, s1.seq hS, fun p2 hp2 => ?_⟩
  have s2 : Same (upd H p (.lst [.int (ns.headD 0)])) (upd (upd H p (.lst [.int (ns.headD 0)])) p2 (.lst (cutV (ns.map V.int) (some 1) (some 10)))) := same_upd hp2
  have hcut : (cutV (ns.map V.int) (some 1) (some 10)).length ≤ 63 := by
    have := len_cut (ns.map V.int) (some 1) (some 10)
    rw [List.length_map] at this
    omega
  refine ⟨p, p2, _, _, rfl, rfl, s2 _ _ upd_same, upd_same, sz _ (by rw [List.length_singleton]; omega), fun p3 hp3 => ?_⟩
  refine ⟨p3, rfl, ⟨_, SqL.of upd_same⟩, for_list (K := K) (a := p3) (xs := [V.int (ns.headD 0)] ++ cutV (ns.map V.int) (some 1) (some 10)) (fun i σ H' => ∃ w1 w2 w3 w4 w5 w6 w7 w8 w9 w10 w11 w12, σ = [some (.ref a), w1, w2, w3, w4, w5, w6, w7, w8, w9, w10, w11, w12] ∧ H' p3 = some (.lst ([V.int (ns.headD 0)] ++ cutV (ns.map V.int) (some 1) (some 10)))) ⟨_, _, _, _, _, _, _, _, _, _, _, _, rfl, upd_same⟩ (fun i σ H' _ h => ?_) ?_ ?_⟩
  · obtain ⟨_, _, _, _, _, _, _, _, _, _, _, _, _, e⟩ := h
    exact SqL.of e
  · rintro i x σ H0 hi ⟨w1, w2, w3, w4, w5, w6, w7, w8, w9, w10, w11, w12, rfl, e0⟩
    obtain ⟨cell, rfl⟩ := cells_int hi
    refine ⟨_, rfl, cell, rfl, fun d H1 hd t1 dr1 => ?_⟩
    have np3 : p3 ≠ d := ne_of_none e0 hd
    refine ⟨_, rfl, d, 0, rfl, dr1, by omega, fun H2 t u gU et b2 dr2 => ?_⟩
    have ntd : t ≠ d := by
      obtain ⟨_, _, _, e, _⟩ := dr2
      exact fun z => by rw [z, e] at et; cases et
    have e2 := b2 _ _ np3 (t1 _ _ e0)
    refine ⟨_, rfl, t, _, _, _, rfl, rfl, .inl (.inl et), atI_nat (j := 0) rfl, _, rfl, t, _, _, _, rfl, rfl, .inl (.inl et), atI_nat (j := 1) rfl, _, rfl, t, _, _, _, rfl, rfl, .inl (.inl et), atI_nat (j := 2) rfl, _, rfl, t, _, _, _, rfl, rfl, .inl (.inl et), atI_nat (j := 3) rfl, ?_⟩
    intro rl dx nx ndx nex
    refine ⟨rl, dx, u, rfl, upd_same, gU.1, fun H3 hRl k3 => ⟨rfl, ?_⟩⟩
    have s3 : Same H2 H3 := fun b o e => k3 b o (by rw [upd_ne (ne_of_none e nx), upd_ne (ne_of_none e ndx)]; exact e) (ne_of_none e nx)
    have dr3 := dr2.same s3
    obtain ⟨drl, hRl⟩ := hRl
    have nrl : rl ≠ d := fun z => by
      obtain ⟨_, _, _, e, _⟩ := dr3
      rw [z, e] at hRl
      cases hRl
    have et3 := s3 _ _ et
    have e3 := s3 _ _ e2
    -- the rows
    refine ⟨_, rfl, _, rfl, d, 17, _, rfl, by decide, log_tiny (by decide) (by decide), dr3, by omega, fun H4 r4 a4 c4 b4 dr4 => ⟨_, rfl, d, t, r4, _, u, rfl, a4, by omega, b4 _ _ ntd et3, gU, dr4, by omega, fun H5 pr0 xs0 rs0 ep0 hpn0 npd0 hR0 hG0 hl0 b5 dr5 => ⟨pr0, xs0, rs0, rfl, SqL.of ep0, hR0, hG0, by omega, fun H6 D6 acc6 hD6 s6 ed6 hR6 => ?_⟩⟩⟩
    have b36 : But d H3 H6 := (b4.trans b5).trans (But.of s6)
    have nD6 : D6 ≠ d := dr5.ne hD6
    refine ⟨fun σ' H' => ∃ (pr : Addr) (xs : List V) (rs : List (Option Rw)), σ' = [some (.ref a), some (.int cell), some (.ref d), some (.ref t), some (.ref rl), some (.ref pr), w6, w7, w8, w9, w10, w11, w12] ∧ H' pr = some (.lst xs) ∧ Rws K H' xs rs ∧ Cut25 rs ∧ rs.length ≤ 200 ∧ But d H3 H' ∧ Dr PT d 8000 H', ?_, ?_⟩
    · refine ⟨_, rfl, d, 4, _, rfl, by decide, log_tiny (by decide) (by decide), dr5.same s6, by omega, fun H7 r7 _ _ b7 dr7 => ⟨rfl, _, rfl, ite2 (fun _ => ?_) (fun _ => ?_)⟩⟩
      · refine ⟨_, rfl, _, rfl, _, rfl, d, 41, _, rfl, by decide, log_tiny (by decide) (by decide), dr7, by omega, fun H8 r8 a8 c8 b8 dr8 => ⟨(by show 2 ≤ sizeLine; decide), fun l hl => ?_⟩⟩
        have nl := dr8.ne hl
        refine ⟨d, l, _, _, rfl, nl, SqL.of upd_same, by simp, by show 2 ≤ 1000; decide, dr8.upd nl, by omega, fun H9 v hv b9 dr9 => ?_⟩
        obtain ⟨m, rfl, hm⟩ : ∃ k, v = .int k ∧ (0 ≤ k ∧ k ≤ 40) := zero_of (fun k => 0 ≤ k ∧ k ≤ 40) hv (by
          intro x hx
          simp only [List.mem_cons, List.not_mem_nil, or_false] at hx
          rcases hx with e | e <;> exact ⟨_, e, by omega⟩)
        have b69 : But d H6 H9 := (b7.trans b8).trans ((But.new hl).trans b9)
        refine ⟨_, rfl, d, t, m, _, u, rfl, hm.1, by omega, (b36.trans b69) _ _ ntd et3, gU, dr9, by omega, fun Ha pr1 xs1 rs1 ep1 hpn1 npd1 hR1 hG1 hl1 ba dra => ⟨pr1, xs1, rs1, rfl, SqL.of ep1, hR1, hG1, by omega, fun Hb Db accb hDb sb edb hRb => ?_⟩⟩
        exact ⟨Db, accb, _, rfl, edb, hRb, cut_good hG1, by rw [ren_len]; exact hl1, (b36.trans b69).trans (ba.trans (But.of sb)), (dra.same sb).mono (by omega)⟩
      · exact ⟨D6, acc6, _, rfl, b7 _ _ nD6 ed6, hR6.same (dr_nl (dr5.same s6) b7), cut_good hG0, by rw [ren_len]; exact hl0, b36.trans b7, dr7.mono (by omega)⟩
    rintro σ' H4' ⟨pr, xs, rs0', rfl, ep, hR, hC, hl, b34, dr4'⟩
    clear hR6 ed6 hD6 nD6 b36 hR0 hG0 ep0 hpn0 npd0 s6 dr5 b5 dr4 b4
    have hlx := hR.len
    refine ⟨_, rfl, pr, rfl, ⟨_, SqL.of ep⟩, fun D hD => rows_comp (K := K) (a := pr) hD (SqL.of ep) hR (by omega) numRw (fun _ => rfl) (fun _ => rfl) ?_ ?_⟩
    · intro p r H5 R hm s5 hp hRv
      refine ⟨_, rfl, p, _, _, _, rfl, rfl, hp, atI_nat (j := 0) rfl, _, _, rfl, rfl, ⟨by decide, by decide, by decide⟩, _, _, rfl, rfl, (by show (0 : Int) < 10 ^ (6 : Int).toNat; decide), _, _, rfl, rfl, .inr ⟨by decide, by decide⟩, _, _, rfl, rfl, (by show 1 ≤ sizeLine; decide), fun q1 hq1 => ?_⟩
      have z1 := same_upd hq1 (o := .tup [.int (r.num % 10 ^ (6 : Int).toNat * 2 + 2)])
      refine ⟨_, rfl, _, rfl, p, _, rfl, SqT.ext hp z1, (fun z => absurd z.1 (by show ¬ HT.sIx 6 0 (some 1) = 0; decide)), fun _ q2 hq2 => ?_⟩
      have z2 := same_upd hq2 (o := .tup [.int r.ac, .int r.we, .str r.sh, .str r.fo, .bl r.dr])
      refine ⟨q1, q2, [.int (r.num % 10 ^ (6 : Int).toNat * 2 + 2)], [.int r.ac, .int r.we, .str r.sh, .str r.fo, .bl r.dr], rfl, rfl, .inl (.inl (z2 _ _ upd_same)), .inl (.inl upd_same), (by show 1 + 5 ≤ sizeLine; decide), (fun e => by cases e), (fun _ e => by cases e), fun _ _ q3 hq3 => ?_⟩
      refine hRv q3 _ ((z1.trans z2).trans (same_upd hq3)) (upd_same.trans ?_)
      have e6 : (10 : Int) ^ (6 : Int).toNat = 1000000 := by decide
      show some (HO.tup [V.int (r.num % 10 ^ (6 : Int).toNat * 2 + 2), .int r.ac, .int r.we, .str r.sh, .str r.fo, .bl r.dr]) = _
      rw [e6]
      rfl
    intro H5 ys s5 e5 hRn
    obtain ⟨hSm, hSm2⟩ := num_good hC
    have hln : (ren numRw rs0').length ≤ 200 := by rw [ren_len]; exact hl
    have nDd : D ≠ d := dr4'.ne hD
    have dr5 := dr4'.same s5
    have b35 : But d H3 H5 := b34.trans (But.of s5)
    generalize ren numRw rs0' = rs at hRn hSm hSm2 hln
    have okA : OkAll rs := fun r hr => (hSm r hr).1
    have lys := hRn.len
    clear hR hlx ep hC
    -- the beads
    refine ⟨_, rfl, D, rfl, ⟨_, SqL.of e5⟩, fun B hB => lc_gen (K := K) (a := D) hB (SqL.of e5) (by omega) (fun j v H => ∃ o, rs[j]? = some o ∧ BV T.C_Bead H v o) (fun j v H1 H2 s ⟨o, h1, h2⟩ => ⟨o, h1, h2.same s⟩) ?_ ?_⟩
    · intro j x H6 R C hx s6 hR'
      obtain ⟨o, ho, hv⟩ := hRn.at_ j x hx
      exact ⟨rfl, yesT ⟨_, rfl, x, o, rfl, hv.same (NL.of s6), (fun r hr => okA r (by rw [← hr]; exact List.mem_of_getElem? ho)), fun H9 y s9 hy => hR' y H9 s9 ⟨o, ho, hy⟩⟩⟩
    intro H6 acc s6 e6 l6 g6
    have hB6 : Bds T.C_Bead H6 acc rs := ⟨by omega, g6⟩
    have hRl6 := s6 _ _ (b35 _ _ nrl hRl)
    refine ⟨_, rfl, _, rfl, B, rl, acc, rs, u, rfl, SqL.of e6, hB6, ⟨drl, hRl6⟩, by omega, fun H7 due s7 odue => ?_⟩
    have nBd : B ≠ d := dr5.ne hB
    -- turned about
    refine ⟨_, rfl, rfl, _, rfl, B, acc, rfl, SqL.of (s7 _ _ e6), fun rv hrv => ?_⟩
    have z7 := same_upd hrv (o := .lst acc.reverse)
    have s67 := s7.trans z7
    refine ⟨_, rfl, rv, rl, acc.reverse, rs.reverse, u, rfl, SqL.of upd_same, (hB6.same (NL.of s67)).rev, ⟨drl, s67 _ _ hRl6⟩, by rw [List.length_reverse]; omega, fun H8 v8 s8 o8 => ⟨rfl, rfl, _, rfl, ?_⟩⟩
    rw [out_none odue, out_none o8, turn_iff]
    rw [decide_eq_true rfl]
    refine iteF ?_
    have s68 := s67.trans s8
    have s58 := s6.trans s68
    -- renamed
    refine ⟨_, rfl, _, rfl, d, D, _, ys, rs, rfl, nDd, s58 _ _ e5, hRn.same (NL.of s58), hSm, by omega, dr5.same s58, by omega, fun H9 l a1 a2 a3 a4 y1 y2 y3 y4 c c0 c1 el e1 e2' e3' e4 k1 k2 k3' k4 b9 dr9 => ?_⟩
    have s69 : NL H6 H9 := (NL.of s68).trans (dr_nl (dr5.same s58) b9)
    have hRl9 := b9 _ _ nrl (s68 _ _ hRl6)
    have odue9 : OutV H9 (bar rs u) due := odue.same ((NL.of (z7.trans s8)).trans (dr_nl (dr5.same s58) b9))
    refine ⟨l, rfl, ⟨_, SqL.of el⟩, for_list (K := K) (a := l) (xs := [.ref a1, .ref a2, .ref a3, .ref a4]) (fun i σ H' => ∃ v8 v11, σ = [some (.ref a), some (.int cell), some (.ref d), some (.ref t), some (.ref rl), some (.ref D), some (.ref B), some due, v8, w9, w10, v11, w12] ∧ Same H9 H') ⟨_, _, rfl, Same.refl _⟩ (fun i σ H' _ h => ?_) ?_ ?_⟩
    · obtain ⟨_, _, _, s⟩ := h
      exact SqL.of (s _ _ el)
    · rintro j x σ Ha hx ⟨v8', v11, rfl, sa⟩
      obtain ⟨ao, yo, f, rfl, hao, hRo, hAl, hOk⟩ : ∃ (ao : Addr) (yo : List V) (f : Rw → Rw), x = .ref ao ∧ Ha ao = some (.lst yo) ∧ Rws K Ha yo (ren f rs) ∧ Alike f ∧ OkAll (ren f rs) := by
        have : j < 4 := (List.getElem?_eq_some_iff.mp hx).1
        have : j = 0 ∨ j = 1 ∨ j = 2 ∨ j = 3 := by omega
        rcases this with rfl | rfl | rfl | rfl
        · cases hx
          exact ⟨a1, y1, _, rfl, sa _ _ e1, k1.same (NL.of sa), alike_wider _, ok_wider hSm (Int.emod_nonneg _ (by decide)) (Int.emod_lt_of_pos _ (by decide))⟩
        · cases hx
          exact ⟨a2, y2, _, rfl, sa _ _ e2', k2.same (NL.of sa), alike_heavier _, ok_heavier hSm⟩
        · cases hx
          exact ⟨a3, y3, _, rfl, sa _ _ e3', k3'.same (NL.of sa), alike_other, ok_other hSm⟩
        · cases hx
          exact ⟨a4, y4, _, rfl, sa _ _ e4, k4.same (NL.of sa), alike_called, ok_called hSm⟩
      have lyo := hRo.len
      rw [ren_len] at lyo
      refine ⟨_, rfl, ao, rfl, ⟨_, SqL.of hao⟩, fun Bo hBo => lc_gen (K := K) (a := ao) hBo (SqL.of hao) (by omega) (fun j v H => ∃ o, (ren f rs)[j]? = some o ∧ BV T.C_Bead H v o) (fun j v H1 H2 s ⟨o, h1, h2⟩ => ⟨o, h1, h2.same s⟩) ?_ ?_⟩
      · intro j x Hb R C hx sb hR'
        obtain ⟨o, ho, hv⟩ := hRo.at_ j x hx
        exact ⟨rfl, yesT ⟨_, rfl, x, o, rfl, hv.same (NL.of sb), (fun r hr => hOk r (by rw [← hr]; exact List.mem_of_getElem? ho)), fun H9 y s9 hy => hR' y H9 s9 ⟨o, ho, hy⟩⟩⟩
      intro Hb acco sb eb lb gb
      have hBo : Bds T.C_Bead Hb acco (ren f rs) := ⟨by rw [ren_len]; omega, gb⟩
      have sab := sa.trans sb
      refine ⟨_, rfl, Bo, rl, acco, ren f rs, u, rfl, SqL.of eb, hBo, ⟨drl, sab _ _ hRl9⟩, by rw [ren_len]; omega, fun Hc vc sc oc => ?_⟩
      rw [bar_ren hAl] at oc
      have sac := sab.trans sc
      have od := out_dp (K := K) (odue9.same (NL.of sac))
      have of := out_dp (K := K) oc
      refine ⟨_, rfl, _, _, of.1, od.1, of.2, od.2, _, rfl, ?_⟩
      rw [SeqAt.eqv_refl _ (SeqAt.canLay_of_shaped of.2)]
      exact iteF ⟨_, _, rfl, sac⟩
    rintro σ Ha ⟨v8', v11, rfl, sa⟩
    have e3a : Ha p3 = some (.lst ([V.int (ns.headD 0)] ++ cutV (ns.map V.int) (some 1) (some 10))) := sa _ _ (b9 _ _ np3 (s58 _ _ (b35 _ _ np3 e3)))
    refine ⟨_, rfl, rfl, _, rfl, ite2 (fun hn => ?_) (fun _ => ⟨_, _, _, _, _, _, _, _, _, _, _, _, rfl, e3a⟩)⟩
    have hbar : bar rs u = none := by
      rw [out_none odue9] at hn
      exact Option.isNone_iff_eq_none.mp hn
    have hBa := hB6.same (s69.trans (NL.of sa))
    have eBa : Ha B = some (.lst acc) := sa _ _ (b9 _ _ nBd (s68 _ _ e6))
    have hRla := sa _ _ hRl9
    refine ⟨_, rfl, _, rfl, ?_⟩
    intro st dst hst hdst hne
    have zs : Same Ha (upd (upd Ha dst (.own st)) st (.ins T.C_String dst [])) := fun b o z => by rw [upd_ne (ne_of_none z hst), upd_ne (ne_of_none z hdst)]; exact z
    refine ⟨st, dst, B, rl, acc, rs, u, rfl, upd_same, SqL.of (zs _ _ eBa), hBa.same (NL.of zs), ⟨drl, zs _ _ hRla⟩, by omega, hbar, fun Hb tS hS1 htS kb => ⟨rfl, ?_⟩⟩
    have sb : Same Ha Hb := fun b o z => kb b o (zs _ _ z) (ne_of_none z hst)
    obtain ⟨dS, hS1'⟩ := id hS1
    have hBb := hBa.same (NL.of sb)
    have hRlb := sb _ _ hRla
    have n1 : (sf tS rl).lookup ("turned" : Str) = none := sf_no _ _ (by decide +kernel) (by decide +kernel)
    refine ⟨_, rfl, st, dS, _, rfl, hS1', n1, st, tS, rl, acc, rs, u, rfl, hS1, htS, hBb, ⟨drl, hRlb⟩, by omega, let_turn hbar, fun Hc s2 t2 sc hS2 ht2 => ?_⟩
    obtain ⟨d2, hS2'⟩ := id hS2
    have hBc := hBb.same (NL.of sc)
    have hRlc := sc _ _ hRlb
    have nf : PySem.W.notFirst K T.C_String (.ref T.C_String) = true := by simp [PySem.W.notFirst]
    refine ⟨_, rfl, _, rfl, s2, d2, _, .ref T.C_String, rfl, hS2', T.ic_String.ty T.cl_String (sc _ _ hS1'), nf, s2, st, t2, tS, rl, acc.reverse, acc, rs.reverse, rs, u, rfl, hS2, ⟨dS, sc _ _ hS1'⟩, ⟨drl, hRlc⟩, ht2, sc _ _ htS, hBc.rev, hBc, .inr rfl, fun Hd sd => ⟨⟨_, rfl⟩, _, rfl, iteF ?_⟩⟩
    have hBd := hBc.same (NL.of sd)
    have n2 : (sf t2 rl).lookup ("turned" : Str) = none := sf_no _ _ (by decide +kernel) (by decide +kernel)
    have hbar2 : bar rs.reverse.reverse u = none := by rw [List.reverse_reverse]; exact hbar
    refine ⟨_, rfl, s2, d2, _, rfl, sd _ _ hS2', n2, s2, t2, rl, acc.reverse, rs.reverse, u, rfl, ⟨d2, sd _ _ hS2'⟩, sd _ _ ht2, hBd.rev, ⟨drl, sd _ _ hRlc⟩, by rw [List.length_reverse]; omega, hbar2, fun He s3 t3 se hS3 ht3 => ?_⟩
    obtain ⟨d3, hS3'⟩ := id hS3
    have sde := sd.trans se
    have hBe := hBc.same (NL.of sde)
    have scd := sc.trans sde
    refine ⟨_, rfl, s3, d3, _, .ref T.C_String, rfl, hS3', T.ic_String.ty T.cl_String (scd _ _ hS1'), nf, s3, st, t3, tS, rl, acc.reverse.reverse, acc, rs.reverse.reverse, rs, u, rfl, hS3, ⟨dS, scd _ _ hS1'⟩, ⟨drl, sde _ _ hRlc⟩, ht3, scd _ _ htS, hBe.rev.rev, hBe, .inl (List.reverse_reverse acc), fun Hf sf' => ⟨⟨_, rfl⟩, _, rfl, iteF ?_⟩⟩
    have sce : Same Hc Hf := sde.trans sf'
    have hBf := hBc.same (NL.of sce)
    have n3 : (sf t2 rl).lookup ("beads" : Str) = none := sf_no _ _ (by decide +kernel) (by decide +kernel)
    have sA : Same Ha Hf := (sb.trans sc).trans sce
    have s5f : NL H5 Hf := ((NL.of s58).trans (dr_nl (dr5.same s58) b9)).trans (NL.of (sa.trans sA))
    have eDf : Hf D = some (.lst ys) := sA _ _ (sa _ _ (b9 _ _ nDd (s58 _ _ e5)))
    have hRf := hRn.same s5f
    have okR : OkAll rs.reverse := fun r hr => okA r (List.mem_reverse.mp hr)
    have lacc : acc.length ≤ 10000 := by omega
    refine ⟨_, rfl, s2, d2, _, rfl, sce _ _ hS2', n3, s2, t2, rl, acc.reverse, rfl, ⟨d2, sce _ _ hS2'⟩, sce _ _ ht2, fun lb hlb => ⟨lb, rfl, ⟨_, SqL.of upd_same⟩, fun D1 hD1 => told_comp T (K := K) (a := lb) hD1 (SqL.of upd_same) (hBf.same (NL.of (same_upd hlb))).rev (by rw [List.length_reverse]; exact lacc) (fun _ => rfl) (fun _ => rfl) ?_⟩⟩
    intro Hg accg sg eg hRg
    have zg := (same_upd hlb (o := .lst acc.reverse)).trans sg
    refine ⟨_, rfl, D, ys, rfl, SqL.of (zg _ _ eDf), fun rr hrr => ?_⟩
    have zr := same_upd hrr (o := .lst ys.reverse)
    refine ⟨.list (rs.reverse.map rowD), .list (rs.reverse.map rowD), .lst (SqL.of (zr _ _ eg)) (hRg.same (NL.of zr)).dp, .lst (SqL.of upd_same) (hRf.same (NL.of (zg.trans zr))).rev.dp, rowsD_shaped okR, rowsD_shaped okR, _, rfl, ?_⟩
    rw [SeqAt.eqv_refl _ (SeqAt.canLay_of_shaped (rowsD_shaped okR))]
    refine iteF ?_
    have sh := zg.trans zr
    have sch := sce.trans sh
    have hBh := hBc.same (NL.of sch)
    refine ⟨_, rfl, s2, d2, _, rfl, sch _ _ hS2', n2, s2, t2, rl, acc.reverse, rs.reverse, u, rfl, ⟨d2, sch _ _ hS2'⟩, sch _ _ ht2, hBh.rev, ⟨drl, sch _ _ hRlc⟩, by rw [List.length_reverse]; omega, hbar2, fun Hi s4 t4 si hS4 ht4 => ?_⟩
    obtain ⟨d4, hS4'⟩ := id hS4
    have n4 : (sf t4 rl).lookup ("beads" : Str) = none := sf_no _ _ (by decide +kernel) (by decide +kernel)
    have hBi := hBh.same (NL.of si)
    refine ⟨s4, d4, _, rfl, hS4', n4, s4, t4, rl, acc.reverse.reverse, rfl, hS4, ht4, fun lc hlc => ⟨lc, rfl, ⟨_, SqL.of upd_same⟩, fun D2 hD2 => told_comp T (K := K) (a := lc) hD2 (SqL.of upd_same) (hBi.same (NL.of (same_upd hlc))).rev.rev (by rw [List.length_reverse, List.length_reverse]; exact lacc) (fun _ => rfl) (fun _ => rfl) ?_⟩⟩
    intro Hj accj sj ej hRj
    rw [List.reverse_reverse] at hRj
    have zj := si.trans ((same_upd hlc (o := .lst acc.reverse.reverse)).trans sj)
    have shj := sh.trans zj
    refine ⟨_, rfl, .list (rs.map rowD), .list (rs.map rowD), .lst (SqL.of ej) hRj.dp, .lst (SqL.of (shj _ _ eDf)) (hRf.same (NL.of shj)).dp, rowsD_shaped okA, rowsD_shaped okA, _, rfl, ?_⟩
    rw [SeqAt.eqv_refl _ (SeqAt.canLay_of_shaped (rowsD_shaped okA))]
    exact iteF ⟨_, _, _, _, _, _, _, _, _, _, _, _, rfl, shj _ _ (sA _ _ e3a)⟩
  · rintro σ H' ⟨w1, w2, w3, w4, w5, w6, w7, w8, w9, w10, w11, w12, rfl, e0⟩
    exact q H'
end
theorem all_mk {l : PySem.W.OpenLaw} {w : World} {K : PySem.W.Frag} {h : Heap} {mg : Str → Option Value} {fa : Addr} (X : K.In h) (G : h.Ns mainGlobals mg) (hfa : mg "law" = some (.ref fa))
    {C_Bead : Addr}
    {C_Rule : Addr}
    {C_String : Addr}
    {f0 : Addr} {od0 an0 : Option Addr} {sl0 : Array (Option Value)} {oc0 kV0 dc0 pm0 cd0 ct0 : Value}
    {f1 : Addr} {od1 an1 : Option Addr} {sl1 : Array (Option Value)} {oc1 kV1 dc1 pm1 cd1 ct1 : Value}
    {f2 : Addr} {od2 an2 : Option Addr} {sl2 : Array (Option Value)} {oc2 kV2 dc2 pm2 cd2 ct2 : Value}
    {f3 : Addr} {od3 an3 : Option Addr} {sl3 : Array (Option Value)} {oc3 kV3 dc3 pm3 cd3 ct3 : Value}
    {f4 : Addr} {od4 an4 : Option Addr} {sl4 : Array (Option Value)} {oc4 kV4 dc4 pm4 cd4 ct4 : Value}
    {f5 : Addr} {od5 an5 : Option Addr} {sl5 : Array (Option Value)} {oc5 kV5 dc5 pm5 cd5 ct5 : Value}
    {T5 : Addr} {oT5 : Value} {dT5 : Option Addr} {nT5 : Nat} {sT5 : Array (Option Value)} {td5_0 : Tok} {td5_1 : Tok} {td5_2 : Tok}
    {f6 : Addr} {od6 an6 : Option Addr} {sl6 : Array (Option Value)} {oc6 kV6 dc6 pm6 cd6 ct6 : Value}
    {f7 : Addr} {od7 an7 : Option Addr} {sl7 : Array (Option Value)} {oc7 kV7 dc7 pm7 cd7 ct7 : Value}
    {f8 : Addr} {od8 an8 : Option Addr} {sl8 : Array (Option Value)} {oc8 kV8 dc8 pm8 cd8 ct8 : Value}
    {f9 : Addr} {od9 an9 : Option Addr} {sl9 : Array (Option Value)} {oc9 kV9 dc9 pm9 cd9 ct9 : Value}
    {f10 : Addr} {od10 an10 : Option Addr} {sl10 : Array (Option Value)} {oc10 kV10 dc10 pm10 cd10 ct10 : Value}
    {f11 : Addr} {od11 an11 : Option Addr} {sl11 : Array (Option Value)} {oc11 kV11 dc11 pm11 cd11 ct11 : Value}
    {f12 : Addr} {od12 an12 : Option Addr} {sl12 : Array (Option Value)} {oc12 kV12 dc12 pm12 cd12 ct12 : Value}
    {f13 : Addr} {od13 an13 : Option Addr} {sl13 : Array (Option Value)} {oc13 kV13 dc13 pm13 cd13 ct13 : Value}
    {f14 : Addr} {od14 an14 : Option Addr} {sl14 : Array (Option Value)} {oc14 kV14 dc14 pm14 cd14 ct14 : Value}
    {f15 : Addr} {od15 an15 : Option Addr} {sl15 : Array (Option Value)} {oc15 kV15 dc15 pm15 cd15 ct15 : Value}
    {f16 : Addr} {od16 an16 : Option Addr} {sl16 : Array (Option Value)} {oc16 kV16 dc16 pm16 cd16 ct16 : Value}
    {f17 : Addr} {od17 an17 : Option Addr} {sl17 : Array (Option Value)} {oc17 kV17 dc17 pm17 cd17 ct17 : Value}
    {f18 : Addr} {od18 an18 : Option Addr} {sl18 : Array (Option Value)} {oc18 kV18 dc18 pm18 cd18 ct18 : Value}
    {T18 : Addr} {oT18 : Value} {dT18 : Option Addr} {nT18 : Nat} {sT18 : Array (Option Value)} {td18_0 : Tok}
    {f19 : Addr} {od19 an19 : Option Addr} {sl19 : Array (Option Value)} {oc19 kV19 dc19 pm19 cd19 ct19 : Value}
    {f20 : Addr} {od20 an20 : Option Addr} {sl20 : Array (Option Value)} {oc20 kV20 dc20 pm20 cd20 ct20 : Value}
    {f21 : Addr} {od21 an21 : Option Addr} {sl21 : Array (Option Value)} {oc21 kV21 dc21 pm21 cd21 ct21 : Value}
    {f22 : Addr} {od22 an22 : Option Addr} {sl22 : Array (Option Value)} {oc22 kV22 dc22 pm22 cd22 ct22 : Value}
    {f23 : Addr} {od23 an23 : Option Addr} {sl23 : Array (Option Value)} {oc23 kV23 dc23 pm23 cd23 ct23 : Value}
    {f24 : Addr} {od24 an24 : Option Addr} {sl24 : Array (Option Value)} {oc24 kV24 dc24 pm24 cd24 ct24 : Value}
    {f25 : Addr} {od25 an25 : Option Addr} {sl25 : Array (Option Value)} {oc25 kV25 dc25 pm25 cd25 ct25 : Value}
    {f26 : Addr} {od26 an26 : Option Addr} {sl26 : Array (Option Value)} {oc26 kV26 dc26 pm26 cd26 ct26 : Value}
    {f27 : Addr} {od27 an27 : Option Addr} {sl27 : Array (Option Value)} {oc27 kV27 dc27 pm27 cd27 ct27 : Value}
    {f28 : Addr} {od28 an28 : Option Addr} {sl28 : Array (Option Value)} {oc28 kV28 dc28 pm28 cd28 ct28 : Value}
    {f29 : Addr} {od29 an29 : Option Addr} {sl29 : Array (Option Value)} {oc29 kV29 dc29 pm29 cd29 ct29 : Value}
    {f30 : Addr} {od30 an30 : Option Addr} {sl30 : Array (Option Value)} {oc30 kV30 dc30 pm30 cd30 ct30 : Value}
    {f31 : Addr} {od31 an31 : Option Addr} {sl31 : Array (Option Value)} {oc31 kV31 dc31 pm31 cd31 ct31 : Value}
    {f32 : Addr} {od32 an32 : Option Addr} {sl32 : Array (Option Value)} {oc32 kV32 dc32 pm32 cd32 ct32 : Value}
    {f33 : Addr} {od33 an33 : Option Addr} {sl33 : Array (Option Value)} {oc33 kV33 dc33 pm33 cd33 ct33 : Value}
    {f34 : Addr} {od34 an34 : Option Addr} {sl34 : Array (Option Value)} {oc34 kV34 dc34 pm34 cd34 ct34 : Value}
    {tc0 : Tok}
    {tc1 : Tok}
    {tc4 : Tok}
    (aC_Bead : PySem.W.nsIn K mainGlobals "Bead" = some (some (.ref C_Bead)))
    (pg_Bead : PySem.W.plainGet K C_Bead Str.empty = true)
    (hd_Bead : PySem.W.hasDictIn K C_Bead = true)
    (po_Bead : PySem.W.plainOver K C_Bead = true)
    (sa_Bead : PySem.W.findIn K (.ref C_Bead) "__setattr__" = some (some (.builtin "object.__setattr__")))
    (mk_Bead : PySem.W.makesIn K C_Bead = true)
    (kc_Bead : PySem.W.keepIn K (.ref C_Bead) = true)
    (n_Bead_number : PySem.W.findIn K (.ref C_Bead) "number" = some none)
    (n_Bead_across : PySem.W.findIn K (.ref C_Bead) "across" = some none)
    (n_Bead_weight : PySem.W.findIn K (.ref C_Bead) "weight" = some none)
    (n_Bead_shade : PySem.W.findIn K (.ref C_Bead) "shade" = some none)
    (n_Bead_form : PySem.W.findIn K (.ref C_Bead) "form" = some none)
    (n_Bead_drilled : PySem.W.findIn K (.ref C_Bead) "drilled" = some none)
    (aC_Rule : PySem.W.nsIn K mainGlobals "Rule" = some (some (.ref C_Rule)))
    (pg_Rule : PySem.W.plainGet K C_Rule Str.empty = true)
    (hd_Rule : PySem.W.hasDictIn K C_Rule = true)
    (po_Rule : PySem.W.plainOver K C_Rule = true)
    (sa_Rule : PySem.W.findIn K (.ref C_Rule) "__setattr__" = some (some (.builtin "object.__setattr__")))
    (mk_Rule : PySem.W.makesIn K C_Rule = true)
    (kc_Rule : PySem.W.keepIn K (.ref C_Rule) = true)
    (n_Rule_least : PySem.W.findIn K (.ref C_Rule) "least" = some none)
    (n_Rule_most : PySem.W.findIn K (.ref C_Rule) "most" = some none)
    (n_Rule_match : PySem.W.findIn K (.ref C_Rule) "match" = some none)
    (n_Rule_shades : PySem.W.findIn K (.ref C_Rule) "shades" = some none)
    (aC_String : PySem.W.nsIn K mainGlobals "String" = some (some (.ref C_String)))
    (pg_String : PySem.W.plainGet K C_String Str.empty = true)
    (hd_String : PySem.W.hasDictIn K C_String = true)
    (po_String : PySem.W.plainOver K C_String = true)
    (sa_String : PySem.W.findIn K (.ref C_String) "__setattr__" = some (some (.builtin "object.__setattr__")))
    (mk_String : PySem.W.makesIn K C_String = true)
    (kc_String : PySem.W.keepIn K (.ref C_String) = true)
    (n_String_held : PySem.W.findIn K (.ref C_String) "held" = some none)
    (n_String_rule : PySem.W.findIn K (.ref C_String) "rule" = some none)
    (a0 : PySem.W.nsIn K mainGlobals "is_int" = some (some (.ref f0)))
    (l0 : K.lookup f0 = some ⟨oc0, od0, .func (PySem.W.fnOf "is_int" "is_int" (defArgs s_is_int) (defBody s_is_int) (defScope s_is_int) .none kV0 dc0 pm0 an0 cd0 ct0), sl0⟩)
    (c0 : PySem.W.codeIn K cd0 "is_int" = true)
    (k0 : PySem.W.keepIn K (.ref f0) = true)
    (a1 : PySem.W.nsIn K mainGlobals "is_whole" = some (some (.ref f1)))
    (l1 : K.lookup f1 = some ⟨oc1, od1, .func (PySem.W.fnOf "is_whole" "is_whole" (defArgs s_is_whole) (defBody s_is_whole) (defScope s_is_whole) .none kV1 dc1 pm1 an1 cd1 ct1), sl1⟩)
    (c1 : PySem.W.codeIn K cd1 "is_whole" = true)
    (k1 : PySem.W.keepIn K (.ref f1) = true)
    (a2 : PySem.W.nsIn K mainGlobals "is_from_nought" = some (some (.ref f2)))
    (l2 : K.lookup f2 = some ⟨oc2, od2, .func (PySem.W.fnOf "is_from_nought" "is_from_nought" (defArgs s_is_from_nought) (defBody s_is_from_nought) (defScope s_is_from_nought) .none kV2 dc2 pm2 an2 cd2 ct2), sl2⟩)
    (c2 : PySem.W.codeIn K cd2 "is_from_nought" = true)
    (k2 : PySem.W.keepIn K (.ref f2) = true)
    (a3 : PySem.W.nsIn K mainGlobals "is_name" = some (some (.ref f3)))
    (l3 : K.lookup f3 = some ⟨oc3, od3, .func (PySem.W.fnOf "is_name" "is_name" (defArgs s_is_name) (defBody s_is_name) (defScope s_is_name) .none kV3 dc3 pm3 an3 cd3 ct3), sl3⟩)
    (c3 : PySem.W.codeIn K cd3 "is_name" = true)
    (k3 : PySem.W.keepIn K (.ref f3) = true)
    (a4 : PySem.W.nsIn K mainGlobals "is_number" = some (some (.ref f4)))
    (l4 : K.lookup f4 = some ⟨oc4, od4, .func (PySem.W.fnOf "is_number" "is_number" (defArgs s_is_number) (defBody s_is_number) (defScope s_is_number) .none kV4 dc4 pm4 an4 cd4 ct4), sl4⟩)
    (c4 : PySem.W.codeIn K cd4 "is_number" = true)
    (k4 : PySem.W.keepIn K (.ref f4) = true)
    (a5 : PySem.W.findIn K (.ref C_Rule) "__init__" = some (some (.ref f5)))
    (i5 : PySem.W.isFn K (.ref f5) = true)
    (l5 : K.lookup f5 = some ⟨oc5, od5, .func (PySem.W.fnOf "__init__" "Rule.__init__" (defArgs s_Rule_init) (defBody s_Rule_init) (defScope s_Rule_init) (.ref T5) kV5 dc5 pm5 an5 cd5 ct5), sl5⟩)
    (d5 : K.lookup T5 = some ⟨oT5, dT5, .seq (List.toArray [.int 0 td5_0, .int 10 td5_1, .int 0 td5_2, .bool true]) nT5, sT5⟩)
    (c5 : PySem.W.codeIn K cd5 "Rule.__init__" = true)
    (k5 : PySem.W.keepIn K (.ref f5) = true)
    (a6 : PySem.W.findIn K (.ref C_Rule) "__eq__" = some (some (.ref f6)))
    (i6 : PySem.W.isFn K (.ref f6) = true)
    (l6 : K.lookup f6 = some ⟨oc6, od6, .func (PySem.W.fnOf "__eq__" "Rule.__eq__" (defArgs s_Rule_eq) (defBody s_Rule_eq) (defScope s_Rule_eq) .none kV6 dc6 pm6 an6 cd6 ct6), sl6⟩)
    (c6 : PySem.W.codeIn K cd6 "Rule.__eq__" = true)
    (k6 : PySem.W.keepIn K (.ref f6) = true)
    (a7 : PySem.W.nsIn K mainGlobals "stands_ahead" = some (some (.ref f7)))
    (l7 : K.lookup f7 = some ⟨oc7, od7, .func (PySem.W.fnOf "stands_ahead" "stands_ahead" (defArgs s_stands_ahead) (defBody s_stands_ahead) (defScope s_stands_ahead) .none kV7 dc7 pm7 an7 cd7 ct7), sl7⟩)
    (c7 : PySem.W.codeIn K cd7 "stands_ahead" = true)
    (k7 : PySem.W.keepIn K (.ref f7) = true)
    (a8 : PySem.W.nsIn K mainGlobals "breaks_step" = some (some (.ref f8)))
    (l8 : K.lookup f8 = some ⟨oc8, od8, .func (PySem.W.fnOf "breaks_step" "breaks_step" (defArgs s_breaks_step) (defBody s_breaks_step) (defScope s_breaks_step) .none kV8 dc8 pm8 an8 cd8 ct8), sl8⟩)
    (c8 : PySem.W.codeIn K cd8 "breaks_step" = true)
    (k8 : PySem.W.keepIn K (.ref f8) = true)
    (a9 : PySem.W.nsIn K mainGlobals "partner_of" = some (some (.ref f9)))
    (l9 : K.lookup f9 = some ⟨oc9, od9, .func (PySem.W.fnOf "partner_of" "partner_of" (defArgs s_partner_of) (defBody s_partner_of) (defScope s_partner_of) .none kV9 dc9 pm9 an9 cd9 ct9), sl9⟩)
    (c9 : PySem.W.codeIn K cd9 "partner_of" = true)
    (k9 : PySem.W.keepIn K (.ref f9) = true)
    (a10 : PySem.W.nsIn K mainGlobals "same_look" = some (some (.ref f10)))
    (l10 : K.lookup f10 = some ⟨oc10, od10, .func (PySem.W.fnOf "same_look" "same_look" (defArgs s_same_look) (defBody s_same_look) (defScope s_same_look) .none kV10 dc10 pm10 an10 cd10 ct10), sl10⟩)
    (c10 : PySem.W.codeIn K cd10 "same_look" = true)
    (k10 : PySem.W.keepIn K (.ref f10) = true)
    (a11 : PySem.W.nsIn K mainGlobals "reason_at" = some (some (.ref f11)))
    (l11 : K.lookup f11 = some ⟨oc11, od11, .func (PySem.W.fnOf "reason_at" "reason_at" (defArgs s_reason_at) (defBody s_reason_at) (defScope s_reason_at) .none kV11 dc11 pm11 an11 cd11 ct11), sl11⟩)
    (c11 : PySem.W.codeIn K cd11 "reason_at" = true)
    (k11 : PySem.W.keepIn K (.ref f11) = true)
    (a12 : PySem.W.nsIn K mainGlobals "barred" = some (some (.ref f12)))
    (l12 : K.lookup f12 = some ⟨oc12, od12, .func (PySem.W.fnOf "barred" "barred" (defArgs s_barred) (defBody s_barred) (defScope s_barred) .none kV12 dc12 pm12 an12 cd12 ct12), sl12⟩)
    (c12 : PySem.W.codeIn K cd12 "barred" = true)
    (k12 : PySem.W.keepIn K (.ref f12) = true)
    (a13 : PySem.W.findIn K (.ref C_String) "__init__" = some (some (.ref f13)))
    (i13 : PySem.W.isFn K (.ref f13) = true)
    (l13 : K.lookup f13 = some ⟨oc13, od13, .func (PySem.W.fnOf "__init__" "String.__init__" (defArgs s_String_init) (defBody s_String_init) (defScope s_String_init) .none kV13 dc13 pm13 an13 cd13 ct13), sl13⟩)
    (c13 : PySem.W.codeIn K cd13 "String.__init__" = true)
    (k13 : PySem.W.keepIn K (.ref f13) = true)
    (a14 : PySem.W.findIn K (.ref C_String) "beads" = some (some (.ref f14)))
    (i14 : PySem.W.isFn K (.ref f14) = true)
    (l14 : K.lookup f14 = some ⟨oc14, od14, .func (PySem.W.fnOf "beads" "String.beads" (defArgs s_String_beads) (defBody s_String_beads) (defScope s_String_beads) .none kV14 dc14 pm14 an14 cd14 ct14), sl14⟩)
    (c14 : PySem.W.codeIn K cd14 "String.beads" = true)
    (k14 : PySem.W.keepIn K (.ref f14) = true)
    (a15 : PySem.W.findIn K (.ref C_String) "turned" = some (some (.ref f15)))
    (i15 : PySem.W.isFn K (.ref f15) = true)
    (l15 : K.lookup f15 = some ⟨oc15, od15, .func (PySem.W.fnOf "turned" "String.turned" (defArgs s_String_turned) (defBody s_String_turned) (defScope s_String_turned) .none kV15 dc15 pm15 an15 cd15 ct15), sl15⟩)
    (c15 : PySem.W.codeIn K cd15 "String.turned" = true)
    (k15 : PySem.W.keepIn K (.ref f15) = true)
    (a16 : PySem.W.findIn K (.ref C_String) "__eq__" = some (some (.ref f16)))
    (i16 : PySem.W.isFn K (.ref f16) = true)
    (l16 : K.lookup f16 = some ⟨oc16, od16, .func (PySem.W.fnOf "__eq__" "String.__eq__" (defArgs s_String_eq) (defBody s_String_eq) (defScope s_String_eq) .none kV16 dc16 pm16 an16 cd16 ct16), sl16⟩)
    (c16 : PySem.W.codeIn K cd16 "String.__eq__" = true)
    (k16 : PySem.W.keepIn K (.ref f16) = true)
    (a17 : PySem.W.nsIn K mainGlobals "is_measure" = some (some (.ref f17)))
    (l17 : K.lookup f17 = some ⟨oc17, od17, .func (PySem.W.fnOf "is_measure" "is_measure" (defArgs s_is_measure) (defBody s_is_measure) (defScope s_is_measure) .none kV17 dc17 pm17 an17 cd17 ct17), sl17⟩)
    (c17 : PySem.W.codeIn K cd17 "is_measure" = true)
    (k17 : PySem.W.keepIn K (.ref f17) = true)
    (a18 : PySem.W.findIn K (.ref C_Bead) "__init__" = some (some (.ref f18)))
    (i18 : PySem.W.isFn K (.ref f18) = true)
    (l18 : K.lookup f18 = some ⟨oc18, od18, .func (PySem.W.fnOf "__init__" "Bead.__init__" (defArgs s_Bead_init) (defBody s_Bead_init) (defScope s_Bead_init) (.ref T18) kV18 dc18 pm18 an18 cd18 ct18), sl18⟩)
    (d18 : K.lookup T18 = some ⟨oT18, dT18, .seq (List.toArray [.str "round" td18_0, .bool false]) nT18, sT18⟩)
    (c18 : PySem.W.codeIn K cd18 "Bead.__init__" = true)
    (k18 : PySem.W.keepIn K (.ref f18) = true)
    (a19 : PySem.W.findIn K (.ref C_Bead) "row" = some (some (.ref f19)))
    (i19 : PySem.W.isFn K (.ref f19) = true)
    (l19 : K.lookup f19 = some ⟨oc19, od19, .func (PySem.W.fnOf "row" "Bead.row" (defArgs s_Bead_row) (defBody s_Bead_row) (defScope s_Bead_row) .none kV19 dc19 pm19 an19 cd19 ct19), sl19⟩)
    (c19 : PySem.W.codeIn K cd19 "Bead.row" = true)
    (k19 : PySem.W.keepIn K (.ref f19) = true)
    (a20 : PySem.W.findIn K (.ref C_Bead) "__eq__" = some (some (.ref f20)))
    (i20 : PySem.W.isFn K (.ref f20) = true)
    (l20 : K.lookup f20 = some ⟨oc20, od20, .func (PySem.W.fnOf "__eq__" "Bead.__eq__" (defArgs s_Bead_eq) (defBody s_Bead_eq) (defScope s_Bead_eq) .none kV20 dc20 pm20 an20 cd20 ct20), sl20⟩)
    (c20 : PySem.W.codeIn K cd20 "Bead.__eq__" = true)
    (k20 : PySem.W.keepIn K (.ref f20) = true)
    (a21 : PySem.W.nsIn K mainGlobals "_law_cell_at" = some (some (.ref f21)))
    (l21 : K.lookup f21 = some ⟨oc21, od21, .func (PySem.W.fnOf "_law_cell_at" "_law_cell_at" (defArgs s_cell_at) (defBody s_cell_at) (defScope s_cell_at) .none kV21 dc21 pm21 an21 cd21 ct21), sl21⟩)
    (c21 : PySem.W.codeIn K cd21 "_law_cell_at" = true)
    (k21 : PySem.W.keepIn K (.ref f21) = true)
    (a22 : PySem.W.nsIn K mainGlobals "_law_well" = some (some (.ref f22)))
    (l22 : K.lookup f22 = some ⟨oc22, od22, .func (PySem.W.fnOf "_law_well" "_law_well" (defArgs s_well) (defBody s_well) (defScope s_well) .none kV22 dc22 pm22 an22 cd22 ct22), sl22⟩)
    (c22 : PySem.W.codeIn K cd22 "_law_well" = true)
    (k22 : PySem.W.keepIn K (.ref f22) = true)
    (a23 : PySem.W.nsIn K mainGlobals "_law_draw" = some (some (.ref f23)))
    (l23 : K.lookup f23 = some ⟨oc23, od23, .func (PySem.W.fnOf "_law_draw" "_law_draw" (defArgs s_draw) (defBody s_draw) (defScope s_draw) .none kV23 dc23 pm23 an23 cd23 ct23), sl23⟩)
    (c23 : PySem.W.codeIn K cd23 "_law_draw" = true)
    (k23 : PySem.W.keepIn K (.ref f23) = true)
    (a24 : PySem.W.nsIn K mainGlobals "_law_one" = some (some (.ref f24)))
    (l24 : K.lookup f24 = some ⟨oc24, od24, .func (PySem.W.fnOf "_law_one" "_law_one" (defArgs s_one) (defBody s_one) (defScope s_one) .none kV24 dc24 pm24 an24 cd24 ct24), sl24⟩)
    (c24 : PySem.W.codeIn K cd24 "_law_one" = true)
    (k24 : PySem.W.keepIn K (.ref f24) = true)
    (a25 : PySem.W.nsIn K mainGlobals "_law_word" = some (some (.ref f25)))
    (l25 : K.lookup f25 = some ⟨oc25, od25, .func (PySem.W.fnOf "_law_word" "_law_word" (defArgs s_word) (defBody s_word) (defScope s_word) .none kV25 dc25 pm25 an25 cd25 ct25), sl25⟩)
    (c25 : PySem.W.codeIn K cd25 "_law_word" = true)
    (k25 : PySem.W.keepIn K (.ref f25) = true)
    (a26 : PySem.W.nsIn K mainGlobals "_law_rule" = some (some (.ref f26)))
    (l26 : K.lookup f26 = some ⟨oc26, od26, .func (PySem.W.fnOf "_law_rule" "_law_rule" (defArgs s_rule) (defBody s_rule) (defScope s_rule) .none kV26 dc26 pm26 an26 cd26 ct26), sl26⟩)
    (c26 : PySem.W.codeIn K cd26 "_law_rule" = true)
    (k26 : PySem.W.keepIn K (.ref f26) = true)
    (a27 : PySem.W.nsIn K mainGlobals "_law_near" = some (some (.ref f27)))
    (l27 : K.lookup f27 = some ⟨oc27, od27, .func (PySem.W.fnOf "_law_near" "_law_near" (defArgs s_near) (defBody s_near) (defScope s_near) .none kV27 dc27 pm27 an27 cd27 ct27), sl27⟩)
    (c27 : PySem.W.codeIn K cd27 "_law_near" = true)
    (k27 : PySem.W.keepIn K (.ref f27) = true)
    (a28 : PySem.W.nsIn K mainGlobals "_law_across" = some (some (.ref f28)))
    (l28 : K.lookup f28 = some ⟨oc28, od28, .func (PySem.W.fnOf "_law_across" "_law_across" (defArgs s_across) (defBody s_across) (defScope s_across) .none kV28 dc28 pm28 an28 cd28 ct28), sl28⟩)
    (c28 : PySem.W.codeIn K cd28 "_law_across" = true)
    (k28 : PySem.W.keepIn K (.ref f28) = true)
    (a29 : PySem.W.nsIn K mainGlobals "_law_rows" = some (some (.ref f29)))
    (l29 : K.lookup f29 = some ⟨oc29, od29, .func (PySem.W.fnOf "_law_rows" "_law_rows" (defArgs s_rows) (defBody s_rows) (defScope s_rows) .none kV29 dc29 pm29 an29 cd29 ct29), sl29⟩)
    (c29 : PySem.W.codeIn K cd29 "_law_rows" = true)
    (k29 : PySem.W.keepIn K (.ref f29) = true)
    (a30 : PySem.W.nsIn K mainGlobals "_law_clean" = some (some (.ref f30)))
    (l30 : K.lookup f30 = some ⟨oc30, od30, .func (PySem.W.fnOf "_law_clean" "_law_clean" (defArgs s_clean) (defBody s_clean) (defScope s_clean) .none kV30 dc30 pm30 an30 cd30 ct30), sl30⟩)
    (c30 : PySem.W.codeIn K cd30 "_law_clean" = true)
    (k30 : PySem.W.keepIn K (.ref f30) = true)
    (a31 : PySem.W.nsIn K mainGlobals "_law_bead" = some (some (.ref f31)))
    (l31 : K.lookup f31 = some ⟨oc31, od31, .func (PySem.W.fnOf "_law_bead" "_law_bead" (defArgs s_bead) (defBody s_bead) (defScope s_bead) .none kV31 dc31 pm31 an31 cd31 ct31), sl31⟩)
    (c31 : PySem.W.codeIn K cd31 "_law_bead" = true)
    (k31 : PySem.W.keepIn K (.ref f31) = true)
    (a32 : PySem.W.nsIn K mainGlobals "_law_renamed" = some (some (.ref f32)))
    (l32 : K.lookup f32 = some ⟨oc32, od32, .func (PySem.W.fnOf "_law_renamed" "_law_renamed" (defArgs s_renamed) (defBody s_renamed) (defScope s_renamed) .none kV32 dc32 pm32 an32 cd32 ct32), sl32⟩)
    (c32 : PySem.W.codeIn K cd32 "_law_renamed" = true)
    (k32 : PySem.W.keepIn K (.ref f32) = true)
    (a33 : PySem.W.nsIn K mainGlobals "_law_word_cut" = some (some (.ref f33)))
    (l33 : K.lookup f33 = some ⟨oc33, od33, .func (PySem.W.fnOf "_law_word_cut" "_law_word_cut" (defArgs s_word_cut) (defBody s_word_cut) (defScope s_word_cut) .none kV33 dc33 pm33 an33 cd33 ct33), sl33⟩)
    (c33 : PySem.W.codeIn K cd33 "_law_word_cut" = true)
    (k33 : PySem.W.keepIn K (.ref f33) = true)
    (a34 : PySem.W.nsIn K mainGlobals "law" = some (some (.ref f34)))
    (l34 : K.lookup f34 = some ⟨oc34, od34, .func (PySem.W.fnOf "law" "law" (defArgs s_law) (defBody s_law) (defScope s_law) .none kV34 dc34 pm34 an34 cd34 ct34), sl34⟩)
    (c34 : PySem.W.codeIn K cd34 "law" = true)
    (k34 : PySem.W.keepIn K (.ref f34) = true)
    (q0 : PySem.W.nsIn K mainGlobals "LONGEST_NAME" = some (some (.int 8 tc0)))
    (q1 : PySem.W.nsIn K mainGlobals "GREATEST_NUMBER" = some (some (.int 1000000000 tc1)))
    (q4 : PySem.W.nsIn K mainGlobals "GREATEST_MEASURE" = some (some (.int 1000000 tc4)))
    (z0 : PySem.W.nsIn K mainGlobals "bool" = some none)
    (z1 : PySem.W.nsIn K mainGlobals "isinstance" = some none)
    (z2 : PySem.W.nsIn K mainGlobals "int" = some none)
    (z3 : PySem.W.nsIn K mainGlobals "len" = some none)
    (z4 : PySem.W.nsIn K mainGlobals "str" = some none)
    (z5 : PySem.W.nsIn K mainGlobals "all" = some none)
    (z6 : PySem.W.nsIn K mainGlobals "any" = some none)
    (z7 : PySem.W.nsIn K mainGlobals "abs" = some none)
    (z8 : PySem.W.nsIn K mainGlobals "enumerate" = some none)
    (z9 : PySem.W.nsIn K mainGlobals "tuple" = some none)
    (z10 : PySem.W.nsIn K mainGlobals "list" = some none)
    (z11 : PySem.W.nsIn K mainGlobals "range" = some none)
    (z12 : PySem.W.nsIn K mainGlobals "max" = some none)
    (z13 : PySem.W.nsIn K mainGlobals "min" = some none)
    (ir1_Bead : PySem.W.findIn K (.ref C_Bead) "__class__" = some (some (.builtin "object.__class__")))
    (ir4_Bead : PySem.W.mroIn K C_Bead (.type "object") = some true)
    (ir1_Rule : PySem.W.findIn K (.ref C_Rule) "__class__" = some (some (.builtin "object.__class__")))
    (ir4_Rule : PySem.W.mroIn K C_Rule (.type "object") = some true)
    (ir1_String : PySem.W.findIn K (.ref C_String) "__class__" = some (some (.builtin "object.__class__")))
    (ir4_String : PySem.W.mroIn K C_String (.type "object") = some true)
    (xcg : PySem.W.specialIn K (.builtin "object.__class__") "__get__" = some (some (.builtin "getset_descriptor.__get__")))
    (xct : PySem.W.takesIn K (.builtin "object.__class__") = some true)
    (sn_Bead : PySem.W.subIn K (.ref C_Bead) (.type "NoneType") = some false)
    (su_Bead : PySem.W.subIn K (.type "NoneType") (.ref C_Bead) = some false)
    (no_Bead : PySem.W.kitOne K (.type "NoneType") (.ref C_Bead) = some false)
    (bb_Bead : PySem.W.findIn K (.ref C_Bead) "__bool__" = some none)
    (bl_Bead : PySem.W.findIn K (.ref C_Bead) "__len__" = some none) :
    ∃ fd : FuncData, (∀ (s : Shared) (v : Value), BindsTo s fd ⟨[v], []⟩ [("_law_script", v)]) ∧ ∀ base : Heap, K.In base → base.Ns mainGlobals mg → FnOk l.prog w K mg base CX0 13 fa fd ["_law_script"] (spLaw K) := by
  have e := hfa.symm.trans (PySem.W.mg_of X G a34)
  cases e
  have F0 := fun_mk (st := s_is_int) l0 c0 k0
  have F1 := fun_mk (st := s_is_whole) l1 c1 k1
  have F2 := fun_mk (st := s_is_from_nought) l2 c2 k2
  have F3 := fun_mk (st := s_is_name) l3 c3 k3
  have F4 := fun_mk (st := s_is_number) l4 c4 k4
  have F5 : FunD K "__init__" "Rule.__init__" (defArgs s_Rule_init) (defBody s_Rule_init) (defScope s_Rule_init) [.int 0, .int 10, .int 0, .bl true] [] f5 (PySem.W.fnOf "__init__" "Rule.__init__" (defArgs s_Rule_init) (defBody s_Rule_init) (defScope s_Rule_init) (.ref T5) kV5 dc5 pm5 an5 cd5 ct5) := ⟨⟨_, _, _, _, _, _, _, _, _, _, rfl, l5, c5, .inr ⟨(fun z => nomatch z), _, _, _, _, rfl, d5, rfl, .cons ⟨_, rfl⟩ (.cons ⟨_, rfl⟩ (.cons ⟨_, rfl⟩ (.cons rfl (.nil))))⟩, .inl rfl⟩, k5⟩
  have F6 := fun_mk (st := s_Rule_eq) l6 c6 k6
  have F7 := fun_mk (st := s_stands_ahead) l7 c7 k7
  have F8 := fun_mk (st := s_breaks_step) l8 c8 k8
  have F9 := fun_mk (st := s_partner_of) l9 c9 k9
  have F10 := fun_mk (st := s_same_look) l10 c10 k10
  have F11 := fun_mk (st := s_reason_at) l11 c11 k11
  have F12 := fun_mk (st := s_barred) l12 c12 k12
  have F13 := fun_mk (st := s_String_init) l13 c13 k13
  have F14 := fun_mk (st := s_String_beads) l14 c14 k14
  have F15 := fun_mk (st := s_String_turned) l15 c15 k15
  have F16 := fun_mk (st := s_String_eq) l16 c16 k16
  have F17 := fun_mk (st := s_is_measure) l17 c17 k17
  have F18 : FunD K "__init__" "Bead.__init__" (defArgs s_Bead_init) (defBody s_Bead_init) (defScope s_Bead_init) [.str "round", .bl false] [] f18 (PySem.W.fnOf "__init__" "Bead.__init__" (defArgs s_Bead_init) (defBody s_Bead_init) (defScope s_Bead_init) (.ref T18) kV18 dc18 pm18 an18 cd18 ct18) := ⟨⟨_, _, _, _, _, _, _, _, _, _, rfl, l18, c18, .inr ⟨(fun z => nomatch z), _, _, _, _, rfl, d18, rfl, .cons ⟨_, rfl⟩ (.cons rfl (.nil))⟩, .inl rfl⟩, k18⟩
  have F19 := fun_mk (st := s_Bead_row) l19 c19 k19
  have F20 := fun_mk (st := s_Bead_eq) l20 c20 k20
  have F21 := fun_mk (st := s_cell_at) l21 c21 k21
  have F22 := fun_mk (st := s_well) l22 c22 k22
  have F23 := fun_mk (st := s_draw) l23 c23 k23
  have F24 := fun_mk (st := s_one) l24 c24 k24
  have F25 := fun_mk (st := s_word) l25 c25 k25
  have F26 := fun_mk (st := s_rule) l26 c26 k26
  have F27 := fun_mk (st := s_near) l27 c27 k27
  have F28 := fun_mk (st := s_across) l28 c28 k28
  have F29 := fun_mk (st := s_rows) l29 c29 k29
  have F30 := fun_mk (st := s_clean) l30 c30 k30
  have F31 := fun_mk (st := s_bead) l31 c31 k31
  have F32 := fun_mk (st := s_renamed) l32 c32 k32
  have F33 := fun_mk (st := s_word_cut) l33 c33 k33
  have F34 := fun_mk (st := s_law) l34 c34 k34
  have b0 := F0.binds (ps := ["thing"]) fun _ _ _ _ _ _ us hl => match us, hl with | [_], _ => rfl
  have b1 := F1.binds (ps := ["thing", "least", "most"]) fun _ _ _ _ _ _ us hl => match us, hl with | [_, _, _], _ => rfl
  have b2 := F2.binds (ps := ["thing"]) fun _ _ _ _ _ _ us hl => match us, hl with | [_], _ => rfl
  have b3 := F3.binds (ps := ["thing"]) fun _ _ _ _ _ _ us hl => match us, hl with | [_], _ => rfl
  have b4 := F4.binds (ps := ["thing"]) fun _ _ _ _ _ _ us hl => match us, hl with | [_], _ => rfl
  have b5 : Binds K (PySem.W.fnOf "__init__" "Rule.__init__" (defArgs s_Rule_init) (defBody s_Rule_init) (defScope s_Rule_init) (.ref T5) kV5 dc5 pm5 an5 cd5 ct5) ["self", "least", "most", "match", "shades"] [] := by
    obtain ⟨ds, hv, hb⟩ := F5.binds1 (ps := ["self", "least", "most", "match", "shades"]) 5 4 (fun z => nomatch z) rfl fun _ _ _ _ _ _ _ us its h1 h2 => match us, its, h1, h2 with | [_, _, _, _, _], [_, _, _, _], _, _ => ⟨_, rfl, rfl⟩
    cases hv
    exact hb
  have b6 := F6.binds (ps := ["self", "other"]) fun _ _ _ _ _ _ us hl => match us, hl with | [_, _], _ => rfl
  have b7 := F7.binds (ps := ["beads", "at"]) fun _ _ _ _ _ _ us hl => match us, hl with | [_, _], _ => rfl
  have b8 := F8.binds (ps := ["beads", "at", "rule"]) fun _ _ _ _ _ _ us hl => match us, hl with | [_, _, _], _ => rfl
  have b9 := F9.binds (ps := ["beads", "at"]) fun _ _ _ _ _ _ us hl => match us, hl with | [_, _], _ => rfl
  have b10 := F10.binds (ps := ["bead", "other"]) fun _ _ _ _ _ _ us hl => match us, hl with | [_, _], _ => rfl
  have b11 := F11.binds (ps := ["beads", "at", "rule"]) fun _ _ _ _ _ _ us hl => match us, hl with | [_, _, _], _ => rfl
  have b12 := F12.binds (ps := ["beads", "rule"]) fun _ _ _ _ _ _ us hl => match us, hl with | [_, _], _ => rfl
  have b13 := F13.binds (ps := ["self", "beads", "rule"]) fun _ _ _ _ _ _ us hl => match us, hl with | [_, _, _], _ => rfl
  have b14 := F14.binds (ps := ["self"]) fun _ _ _ _ _ _ us hl => match us, hl with | [_], _ => rfl
  have b15 := F15.binds (ps := ["self"]) fun _ _ _ _ _ _ us hl => match us, hl with | [_], _ => rfl
  have b16 := F16.binds (ps := ["self", "other"]) fun _ _ _ _ _ _ us hl => match us, hl with | [_, _], _ => rfl
  have b17 := F17.binds (ps := ["thing"]) fun _ _ _ _ _ _ us hl => match us, hl with | [_], _ => rfl
  have b18 : Binds K (PySem.W.fnOf "__init__" "Bead.__init__" (defArgs s_Bead_init) (defBody s_Bead_init) (defScope s_Bead_init) (.ref T18) kV18 dc18 pm18 an18 cd18 ct18) ["self", "number", "across", "weight", "shade", "form", "drilled"] [] := by
    obtain ⟨ds, hv, hb⟩ := F18.binds1 (ps := ["self", "number", "across", "weight", "shade", "form", "drilled"]) 7 2 (fun z => nomatch z) rfl fun _ _ _ _ _ _ _ us its h1 h2 => match us, its, h1, h2 with | [_, _, _, _, _, _, _], [_, _], _, _ => ⟨_, rfl, rfl⟩
    cases hv
    exact hb
  have b19 := F19.binds (ps := ["self"]) fun _ _ _ _ _ _ us hl => match us, hl with | [_], _ => rfl
  have b20 := F20.binds (ps := ["self", "other"]) fun _ _ _ _ _ _ us hl => match us, hl with | [_, _], _ => rfl
  have b21 := F21.binds (ps := ["_law_script", "_law_k"]) fun _ _ _ _ _ _ us hl => match us, hl with | [_, _], _ => rfl
  have b22 := F22.binds (ps := ["_law_cell"]) fun _ _ _ _ _ _ us hl => match us, hl with | [_], _ => rfl
  have b23 := F23.binds (ps := ["_law_well_here", "_law_many"]) fun _ _ _ _ _ _ us hl => match us, hl with | [_, _], _ => rfl
  have b24 := F24.binds (ps := ["_law_well_here", "_law_some"]) fun _ _ _ _ _ _ us hl => match us, hl with | [_, _], _ => rfl
  have b25 := F25.binds (ps := ["_law_well_here"]) fun _ _ _ _ _ _ us hl => match us, hl with | [_], _ => rfl
  have b26 := F26.binds (ps := ["_law_well_here"]) fun _ _ _ _ _ _ us hl => match us, hl with | [_], _ => rfl
  have b27 := F27.binds (ps := ["_law_well_here", "_law_low", "_law_top"]) fun _ _ _ _ _ _ us hl => match us, hl with | [_, _, _], _ => rfl
  have b28 := F28.binds (ps := ["_law_well_here", "_law_places", "_law_rule_here"]) fun _ _ _ _ _ _ us hl => match us, hl with | [_, _, _], _ => rfl
  have b29 := F29.binds (ps := ["_law_well_here", "_law_places", "_law_rule_here"]) fun _ _ _ _ _ _ us hl => match us, hl with | [_, _, _], _ => rfl
  have b30 := F30.binds (ps := ["_law_well_here", "_law_places", "_law_four"]) fun _ _ _ _ _ _ us hl => match us, hl with | [_, _, _], _ => rfl
  have b31 := F31.binds (ps := ["_law_row"]) fun _ _ _ _ _ _ us hl => match us, hl with | [_], _ => rfl
  have b32 := F32.binds (ps := ["_law_well_here", "_law_rows_here"]) fun _ _ _ _ _ _ us hl => match us, hl with | [_, _], _ => rfl
  have b33 := F33.binds (ps := ["_law_rows_here"]) fun _ _ _ _ _ _ us hl => match us, hl with | [_], _ => rfl
  let T : Tx K mg := ⟨C_Bead, ⟨pg_Bead, hd_Bead, po_Bead, sa_Bead⟩, PySem.W.mg_of X G aC_Bead, n_Bead_number, n_Bead_across, n_Bead_weight, n_Bead_shade, n_Bead_form, n_Bead_drilled,
    C_Rule, ⟨pg_Rule, hd_Rule, po_Rule, sa_Rule⟩, PySem.W.mg_of X G aC_Rule, n_Rule_least, n_Rule_most, n_Rule_match, n_Rule_shades,
    C_String, ⟨pg_String, hd_String, po_String, sa_String⟩, PySem.W.mg_of X G aC_String, n_String_held, n_String_rule,
    _, _, F0, PySem.W.mg_of X G a0, b0,
    _, _, F1, PySem.W.mg_of X G a1, b1,
    _, _, F2, PySem.W.mg_of X G a2, b2,
    _, _, F3, PySem.W.mg_of X G a3, b3,
    _, _, F4, PySem.W.mg_of X G a4, b4,
    _, _, F5, ⟨mk_Rule, a5, i5, kc_Rule⟩, b5,
    _, _, F6, ⟨a6, i6, k6⟩, b6,
    _, _, F7, PySem.W.mg_of X G a7, b7,
    _, _, F8, PySem.W.mg_of X G a8, b8,
    _, _, F9, PySem.W.mg_of X G a9, b9,
    _, _, F10, PySem.W.mg_of X G a10, b10,
    _, _, F11, PySem.W.mg_of X G a11, b11,
    _, _, F12, PySem.W.mg_of X G a12, b12,
    _, _, F13, ⟨mk_String, a13, i13, kc_String⟩, b13,
    _, _, F14, ⟨a14, i14, k14⟩, b14,
    _, _, F15, ⟨a15, i15, k15⟩, b15,
    _, _, F16, ⟨a16, i16, k16⟩, b16,
    _, _, F17, PySem.W.mg_of X G a17, b17,
    _, _, F18, ⟨mk_Bead, a18, i18, kc_Bead⟩, b18,
    _, _, F19, ⟨a19, i19, k19⟩, b19,
    _, _, F20, ⟨a20, i20, k20⟩, b20,
    _, _, F21, PySem.W.mg_of X G a21, b21,
    _, _, F22, PySem.W.mg_of X G a22, b22,
    _, _, F23, PySem.W.mg_of X G a23, b23,
    _, _, F24, PySem.W.mg_of X G a24, b24,
    _, _, F25, PySem.W.mg_of X G a25, b25,
    _, _, F26, PySem.W.mg_of X G a26, b26,
    _, _, F27, PySem.W.mg_of X G a27, b27,
    _, _, F28, PySem.W.mg_of X G a28, b28,
    _, _, F29, PySem.W.mg_of X G a29, b29,
    _, _, F30, PySem.W.mg_of X G a30, b30,
    _, _, F31, PySem.W.mg_of X G a31, b31,
    _, _, F32, PySem.W.mg_of X G a32, b32,
    _, _, F33, PySem.W.mg_of X G a33, b33,
    ⟨ir1_Bead, xcg, xct, ir4_Bead, if_pos (beq_self_eq_true _)⟩,
    (if_pos (beq_self_eq_true _)),
    ⟨ir1_Rule, xcg, xct, ir4_Rule, if_pos (beq_self_eq_true _)⟩,
    (if_pos (beq_self_eq_true _)),
    ⟨ir1_String, xcg, xct, ir4_String, if_pos (beq_self_eq_true _)⟩,
    (if_pos (beq_self_eq_true _)),
    sn_Bead,
    (by simp [PySem.W.notFirst, su_Bead]),
    no_Bead,
    bb_Bead,
    bl_Bead,
    _, PySem.W.mg_of X G q0,
    _, PySem.W.mg_of X G q1,
    _, PySem.W.mg_of X G q4,
    PySem.W.mg_none_of X G z0,
    PySem.W.mg_none_of X G z1,
    PySem.W.mg_none_of X G z2,
    PySem.W.mg_none_of X G z3,
    PySem.W.mg_none_of X G z4,
    PySem.W.mg_none_of X G z5,
    PySem.W.mg_none_of X G z6,
    PySem.W.mg_none_of X G z7,
    PySem.W.mg_none_of X G z8,
    PySem.W.mg_none_of X G z9,
    PySem.W.mg_none_of X G z10,
    PySem.W.mg_none_of X G z11,
    PySem.W.mg_none_of X G z12,
    PySem.W.mg_none_of X G z13⟩
  exact ⟨PySem.W.fnOf "law" "law" (defArgs s_law) (defBody s_law) (defScope s_law) .none kV34 dc34 pm34 an34 cd34 ct34, fun s v => .of_eq rfl, fun base _ _ => ok_law T F34⟩
end KB
open PySem PySem.W PyProof.Rows
set_option maxRecDepth 100000 in
set_option maxHeartbeats 0 in
theorem PySem.Challenge.cw_pearlrise_k25_whole_turned_and_renamed_holds : PySem.Challenge.rw_pearlrise_k25_whole_turned_and_renamed.Holds := by
  w_on; o_law; k_head; (case hw => w_witness2)
  k_fill
  refine L2.walk_of (l := PySem.Challenge.rw_pearlrise_k25_whole_turned_and_renamed) (n := 63) (k := 13) (x := "_law_script") (CX := fun _ => L2.CX0) (sp := fun w => KB.spLaw _) rfl (by decide) rfl ⟨rfl, by decide, by decide⟩ (fun w h Y => PySem.W.kIn_of Y) ?F (fun _ _ a ns hl _ hS => ⟨a, ns, rfl, hS, hl, fun _ => rfl⟩) (fun _ _ _ _ _ h => h)
  case F =>
    intro w mg fa h KX G hmg
    refine' KB.all_mk KX G hmg ?aC_Bead ?pg_Bead ?hd_Bead ?po_Bead ?sa_Bead ?mk_Bead ?kc_Bead ?n_Bead_number ?n_Bead_across ?n_Bead_weight ?n_Bead_shade ?n_Bead_form ?n_Bead_drilled ?aC_Rule ?pg_Rule ?hd_Rule ?po_Rule ?sa_Rule ?mk_Rule ?kc_Rule ?n_Rule_least ?n_Rule_most ?n_Rule_match ?n_Rule_shades ?aC_String ?pg_String ?hd_String ?po_String ?sa_String ?mk_String ?kc_String ?n_String_held ?n_String_rule ?a0 ?l0 ?c0 ?k0 ?a1 ?l1 ?c1 ?k1 ?a2 ?l2 ?c2 ?k2 ?a3 ?l3 ?c3 ?k3 ?a4 ?l4 ?c4 ?k4 ?a5 ?i5 ?l5 ?d5 ?c5 ?k5 ?a6 ?i6 ?l6 ?c6 ?k6 ?a7 ?l7 ?c7 ?k7 ?a8 ?l8 ?c8 ?k8 ?a9 ?l9 ?c9 ?k9 ?a10 ?l10 ?c10 ?k10 ?a11 ?l11 ?c11 ?k11 ?a12 ?l12 ?c12 ?k12 ?a13 ?i13 ?l13 ?c13 ?k13 ?a14 ?i14 ?l14 ?c14 ?k14 ?a15 ?i15 ?l15 ?c15 ?k15 ?a16 ?i16 ?l16 ?c16 ?k16 ?a17 ?l17 ?c17 ?k17 ?a18 ?i18 ?l18 ?d18 ?c18 ?k18 ?a19 ?i19 ?l19 ?c19 ?k19 ?a20 ?i20 ?l20 ?c20 ?k20 ?a21 ?l21 ?c21 ?k21 ?a22 ?l22 ?c22 ?k22 ?a23 ?l23 ?c23 ?k23 ?a24 ?l24 ?c24 ?k24 ?a25 ?l25 ?c25 ?k25 ?a26 ?l26 ?c26 ?k26 ?a27 ?l27 ?c27 ?k27 ?a28 ?l28 ?c28 ?k28 ?a29 ?l29 ?c29 ?k29 ?a30 ?l30 ?c30 ?k30 ?a31 ?l31 ?c31 ?k31 ?a32 ?l32 ?c32 ?k32 ?a33 ?l33 ?c33 ?k33 ?a34 ?l34 ?c34 ?k34 ?q0 ?q1 ?q4 ?z0 ?z1 ?z2 ?z3 ?z4 ?z5 ?z6 ?z7 ?z8 ?z9 ?z10 ?z11 ?z12 ?z13 ?ir1_Bead ?ir4_Bead ?ir1_Rule ?ir4_Rule ?ir1_String ?ir4_String ?xcg ?xct ?sn_Bead ?su_Bead ?no_Bead ?bb_Bead ?bl_Bead
    (case aC_Bead => k_is)
    (case pg_Bead => k_is)
    (case hd_Bead => k_is)
    (case po_Bead => k_is)
    (case sa_Bead => k_is)
    (case mk_Bead => k_is)
    (case kc_Bead => k_is)
    (case n_Bead_number => k_is)
    (case n_Bead_across => k_is)
    (case n_Bead_weight => k_is)
    (case n_Bead_shade => k_is)
    (case n_Bead_form => k_is)
    (case n_Bead_drilled => k_is)
    (case aC_Rule => k_is)
    (case pg_Rule => k_is)
    (case hd_Rule => k_is)
    (case po_Rule => k_is)
    (case sa_Rule => k_is)
    (case mk_Rule => k_is)
    (case kc_Rule => k_is)
    (case n_Rule_least => k_is)
    (case n_Rule_most => k_is)
    (case n_Rule_match => k_is)
    (case n_Rule_shades => k_is)
    (case aC_String => k_is)
    (case pg_String => k_is)
    (case hd_String => k_is)
    (case po_String => k_is)
    (case sa_String => k_is)
    (case mk_String => k_is)
    (case kc_String => k_is)
    (case n_String_held => k_is)
    (case n_String_rule => k_is)
    (case a0 => k_is)
    (case l0 => k_is)
    (case c0 => k_is)
    (case k0 => k_is)
    (case a1 => k_is)
    (case l1 => k_is)
    (case c1 => k_is)
    (case k1 => k_is)
    (case a2 => k_is)
    (case l2 => k_is)
    (case c2 => k_is)
    (case k2 => k_is)
    (case a3 => k_is)
    (case l3 => k_is)
    (case c3 => k_is)
    (case k3 => k_is)
    (case a4 => k_is)
    (case l4 => k_is)
    (case c4 => k_is)
    (case k4 => k_is)
    (case a5 => k_is)
    (case i5 => k_is)
    (case l5 => k_is)
    (case d5 => k_is)
    (case c5 => k_is)
    (case k5 => k_is)
    (case a6 => k_is)
    (case i6 => k_is)
    (case l6 => k_is)
    (case c6 => k_is)
    (case k6 => k_is)
    (case a7 => k_is)
    (case l7 => k_is)
    (case c7 => k_is)
    (case k7 => k_is)
    (case a8 => k_is)
    (case l8 => k_is)
    (case c8 => k_is)
    (case k8 => k_is)
    (case a9 => k_is)
    (case l9 => k_is)
    (case c9 => k_is)
    (case k9 => k_is)
    (case a10 => k_is)
    (case l10 => k_is)
    (case c10 => k_is)
    (case k10 => k_is)
    (case a11 => k_is)
    (case l11 => k_is)
    (case c11 => k_is)
    (case k11 => k_is)
    (case a12 => k_is)
    (case l12 => k_is)
    (case c12 => k_is)
    (case k12 => k_is)
    (case a13 => k_is)
    (case i13 => k_is)
    (case l13 => k_is)
    (case c13 => k_is)
    (case k13 => k_is)
    (case a14 => k_is)
    (case i14 => k_is)
    (case l14 => k_is)
    (case c14 => k_is)
    (case k14 => k_is)
    (case a15 => k_is)
    (case i15 => k_is)
    (case l15 => k_is)
    (case c15 => k_is)
    (case k15 => k_is)
    (case a16 => k_is)
    (case i16 => k_is)
    (case l16 => k_is)
    (case c16 => k_is)
    (case k16 => k_is)
    (case a17 => k_is)
    (case l17 => k_is)
    (case c17 => k_is)
    (case k17 => k_is)
    (case a18 => k_is)
    (case i18 => k_is)
    (case l18 => k_is)
    (case d18 => k_is)
    (case c18 => k_is)
    (case k18 => k_is)
    (case a19 => k_is)
    (case i19 => k_is)
    (case l19 => k_is)
    (case c19 => k_is)
    (case k19 => k_is)
    (case a20 => k_is)
    (case i20 => k_is)
    (case l20 => k_is)
    (case c20 => k_is)
    (case k20 => k_is)
    (case a21 => k_is)
    (case l21 => k_is)
    (case c21 => k_is)
    (case k21 => k_is)
    (case a22 => k_is)
    (case l22 => k_is)
    (case c22 => k_is)
    (case k22 => k_is)
    (case a23 => k_is)
    (case l23 => k_is)
    (case c23 => k_is)
    (case k23 => k_is)
    (case a24 => k_is)
    (case l24 => k_is)
    (case c24 => k_is)
    (case k24 => k_is)
    (case a25 => k_is)
    (case l25 => k_is)
    (case c25 => k_is)
    (case k25 => k_is)
    (case a26 => k_is)
    (case l26 => k_is)
    (case c26 => k_is)
    (case k26 => k_is)
    (case a27 => k_is)
    (case l27 => k_is)
    (case c27 => k_is)
    (case k27 => k_is)
    (case a28 => k_is)
    (case l28 => k_is)
    (case c28 => k_is)
    (case k28 => k_is)
    (case a29 => k_is)
    (case l29 => k_is)
    (case c29 => k_is)
    (case k29 => k_is)
    (case a30 => k_is)
    (case l30 => k_is)
    (case c30 => k_is)
    (case k30 => k_is)
    (case a31 => k_is)
    (case l31 => k_is)
    (case c31 => k_is)
    (case k31 => k_is)
    (case a32 => k_is)
    (case l32 => k_is)
    (case c32 => k_is)
    (case k32 => k_is)
    (case a33 => k_is)
    (case l33 => k_is)
    (case c33 => k_is)
    (case k33 => k_is)
    (case a34 => k_is)
    (case l34 => k_is)
    (case c34 => k_is)
    (case k34 => k_is)
    (case q0 => k_is)
    (case q1 => k_is)
    (case q4 => k_is)
    (case z0 => k_is)
    (case z1 => k_is)
    (case z2 => k_is)
    (case z3 => k_is)
    (case z4 => k_is)
    (case z5 => k_is)
    (case z6 => k_is)
    (case z7 => k_is)
    (case z8 => k_is)
    (case z9 => k_is)
    (case z10 => k_is)
    (case z11 => k_is)
    (case z12 => k_is)
    (case z13 => k_is)
    (case ir1_Bead => k_is)
    (case ir4_Bead => k_is)
    (case ir1_Rule => k_is)
    (case ir4_Rule => k_is)
    (case ir1_String => k_is)
    (case ir4_String => k_is)
    (case xcg => k_is)
    (case xct => k_is)
    (case sn_Bead => k_is)
    (case su_Bead => k_is)
    (case no_Bead => kit_is)
    (case bb_Bead => k_is)
    (case bl_Bead => k_is)
