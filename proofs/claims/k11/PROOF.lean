import PyProof.Rows.All
import Wide.All
import OpenK.AllK
import Wide.FinOn
import HandS.ForMost
import HandS.IsInst
import HandS.Wide
import HandS.Walk
import HandS.TupAny
import HandS.Style
import HandS.Defaults
import HandS.MakeKw
import KE.IntTextLaws
import HandS.OwnEq
import HandS.ExcInit
import HandS.ExcField
import HandS.ExcIs
import HandS.ExcOwn
import HandS.WordsExc
import KE.KExcIs
import HandS.MakeKwOnly
import KE.KExcInit
import HandS.TryMany
import HandS.FStr
import PyProof.InstSpecial
import PyProof.FString2
import KE.KCallOwn
import HandS.FStrTup
import HandS.Flow
import PyProof.ReprRoads
import HandS.Ends
import PyProof.Rows.SeqMore
import HandS.StrMore
import HandS.WideBits
import HandS.Zip
import PySem.Challenge.RW_pearlrise_k11_worths_reckoned
set_option Elab.async false
set_option linter.all false
set_option maxRecDepth 100000
set_option maxHeartbeats 4000000
namespace KA
open PySem PySem.Spec PyProof.Rows L2
/-! ### heaps -/
theorem same_upd {H : Hp} {p : Addr} {o : HO} (h : H p = none) : Same H (upd H p o) := fun b x e => by
  rw [upd_ne (ne_of_none e h)]
  exact e
/-- all but what stands at d is as it was -/
def But (d : Addr) (H H' : Hp) : Prop := ∀ b o, b ≠ d → H b = some o → H' b = some o
theorem But.refl (d : Addr) (H : Hp) : But d H H := fun _ _ _ h => h
theorem But.trans {d : Addr} {H H1 H2 : Hp} (a : But d H H1) (b : But d H1 H2) : But d H H2 := fun c o n h => b c o n (a c o n h)
theorem But.of {d : Addr} {H H' : Hp} (s : Same H H') : But d H H' := fun b o _ h => s b o h
theorem But.at_ {d : Addr} {H : Hp} {o : HO} : But d H (upd H d o) := fun b x n h => by
  rw [upd_ne n]
  exact h
theorem But.new {d p : Addr} {H : Hp} {o : HO} (h : H p = none) : But d H (upd H p o) := But.of (same_upd h)
theorem But.same {d : Addr} {H0 H H' : Hp} (h0 : H0 d = none) (s : Same H0 H) (b : But d H H') : Same H0 H' := fun c o h => b c o (ne_of_none h h0) (s c o h)
theorem But.mut {d : Addr} {H0 H : Hp} {o : HO} {p : Addr} (b : But d H0 H) (h : H0 p = none) : But d H0 (upd H p o) := fun c x n e => by
  rw [upd_ne (ne_of_none e h)]
  exact b c x n e
theorem But.free {d p : Addr} {H H' : Hp} (b : But d H H') (n : p ≠ d) (h : H' p = none) : H p = none := by
  cases q : H p with
  | none => rfl
  | some o =>
    rw [b p o n q] at h
    cases h
theorem but_seq {K : PySem.W.Frag} {d a : Addr} {H H' : Hp} {xs : List V} (b : But d H H') (n : a ≠ d) (h : SqL K H a xs) : SqL K H' a xs := by
  rcases h with (h | ⟨o, h⟩) | h
  · exact .inl (.inl (b _ _ n h))
  · exact .inl (.inr ⟨o, b _ _ n h⟩)
  · exact .inr h
/-- the draws' list at d, its counter at most n -/
def Dr (P : Int → Prop) (d : Addr) (n : Nat) (H : Hp) : Prop := ∃ a b c : Int, H d = some (.lst [.int a, .int b, .int c]) ∧ P b ∧ 0 ≤ c ∧ c ≤ n
theorem Dr.same {P : Int → Prop} {d : Addr} {n : Nat} {H H' : Hp} (h : Dr P d n H) (s : Same H H') : Dr P d n H' := by
  obtain ⟨a, b, c, e, r⟩ := h
  exact ⟨a, b, c, s _ _ e, r⟩
theorem Dr.ne {P : Int → Prop} {d p : Addr} {n : Nat} {H : Hp} (h : Dr P d n H) (e : H p = none) : p ≠ d := by
  obtain ⟨a, b, c, z, _⟩ := h
  exact (ne_of_none z e).symm
theorem Dr.mono {P : Int → Prop} {d : Addr} {n m : Nat} {H : Hp} (h : Dr P d n H) (e : n ≤ m) : Dr P d m H := by
  obtain ⟨a, b, c, z, h1, h3, h4⟩ := h
  exact ⟨a, b, c, z, h1, h3, by omega⟩
theorem Dr.upd {P : Int → Prop} {d p : Addr} {n : Nat} {H : Hp} {o : HO} (h : Dr P d n H) (e : p ≠ d) : Dr P d n (L2.upd H p o) := by
  obtain ⟨a, b, c, z, r⟩ := h
  exact ⟨a, b, c, by rw [upd_ne e.symm]; exact z, r⟩
theorem yesT {σ : L2.St} {H : Hp} {A B : Hp → Prop} (h : A H) : tYes σ H (fun b H3 => if b = true then A H3 else B H3) := by
  show if true = true then A H else B H
  exact iteT h
/-! ### what is no own object -/
inductive Th (K : PySem.W.Frag) (H : Hp) : V → Prop
  | int (i : Int) : Th K H (.int i)
  | bl (b : Bool) : Th K H (.bl b)
  | str (z : Str) : Th K H (.str z)
  | non : Th K H .non
  | lst {a : Addr} (h : TyX K H (.ref a) (.type "list")) : Th K H (.ref a)
  | tup {a : Addr} (h : TyX K H (.ref a) (.type "tuple")) : Th K H (.ref a)
  | dct {a : Addr} (h : TyX K H (.ref a) (.type "dict")) : Th K H (.ref a)
def isI : V → Bool
  | .int _ => true
  | _ => false
def isB : V → Bool
  | .bl _ => true
  | _ => false
def isS : V → Bool
  | .str _ => true
  | _ => false
theorem isi_int {K : PySem.W.Frag} {H : Hp} {v : V} (h : Th K H v) : ∃ t, TyX K H v t ∧ PySem.W.kitOne K t (.type "int") = some (isI v || isB v) := by
  cases h with
  | int i => exact ⟨_, .base (.int i), kit_ty (r := true) (by decide +kernel)⟩
  | bl b => exact ⟨_, .base (.bl b), kit_ty (r := true) (by decide +kernel)⟩
  | str z => exact ⟨_, .base (.str z), kit_ty (r := false) (by decide +kernel)⟩
  | non => exact ⟨_, .base .non, kit_ty (r := false) (by decide +kernel)⟩
  | lst h => exact ⟨_, h, kit_ty (r := false) (by decide +kernel)⟩
  | tup h => exact ⟨_, h, kit_ty (r := false) (by decide +kernel)⟩
  | dct h => exact ⟨_, h, kit_ty (r := false) (by decide +kernel)⟩
theorem isi_bool {K : PySem.W.Frag} {H : Hp} {v : V} (h : Th K H v) : ∃ t, TyX K H v t ∧ PySem.W.kitOne K t (.type "bool") = some (isB v) := by
  cases h with
  | int i => exact ⟨_, .base (.int i), kit_ty (r := false) (by decide +kernel)⟩
  | bl b => exact ⟨_, .base (.bl b), kit_ty (r := true) (by decide +kernel)⟩
  | str z => exact ⟨_, .base (.str z), kit_ty (r := false) (by decide +kernel)⟩
  | non => exact ⟨_, .base .non, kit_ty (r := false) (by decide +kernel)⟩
  | lst h => exact ⟨_, h, kit_ty (r := false) (by decide +kernel)⟩
  | tup h => exact ⟨_, h, kit_ty (r := false) (by decide +kernel)⟩
  | dct h => exact ⟨_, h, kit_ty (r := false) (by decide +kernel)⟩
theorem isi_str {K : PySem.W.Frag} {H : Hp} {v : V} (h : Th K H v) : ∃ t, TyX K H v t ∧ PySem.W.kitOne K t (.type "str") = some (isS v) := by
  cases h with
  | int i => exact ⟨_, .base (.int i), kit_ty (r := false) (by decide +kernel)⟩
  | bl b => exact ⟨_, .base (.bl b), kit_ty (r := false) (by decide +kernel)⟩
  | str z => exact ⟨_, .base (.str z), kit_ty (r := true) (by decide +kernel)⟩
  | non => exact ⟨_, .base .non, kit_ty (r := false) (by decide +kernel)⟩
  | lst h => exact ⟨_, h, kit_ty (r := false) (by decide +kernel)⟩
  | tup h => exact ⟨_, h, kit_ty (r := false) (by decide +kernel)⟩
  | dct h => exact ⟨_, h, kit_ty (r := false) (by decide +kernel)⟩
/-! ### signs -/
def lower (c : Nat) : Bool := decide (97 ≤ c) && decide (c ≤ 122)
def figure (c : Nat) : Bool := decide (48 ≤ c) && decide (c ≤ 57)
theorem sgl_lt (a b : Nat) : (([a] : List Nat) < [b]) ↔ a < b := by
  rw [List.cons_lt_cons_iff]
  simp
theorem ge_a (c : Nat) : (!decide ((⟨#[c]⟩ : Str).cps.toList < ("a" : Str).cps.toList)) = decide (97 ≤ c) := by
  have e : ("a" : Str).cps.toList = [97] := by decide +kernel
  rw [e]
  show (!decide ([c] < [97])) = _
  rw [decide_eq_decide.mpr (sgl_lt c 97), ← decide_not, decide_eq_decide]
  omega
theorem le_z (c : Nat) : (!decide (("z" : Str).cps.toList < (⟨#[c]⟩ : Str).cps.toList)) = decide (c ≤ 122) := by
  have e : ("z" : Str).cps.toList = [122] := by decide +kernel
  rw [e]
  show (!decide ([122] < [c])) = _
  rw [decide_eq_decide.mpr (sgl_lt 122 c), ← decide_not, decide_eq_decide]
  omega
theorem in_az (c : Nat) : decide (c ∈ ("abcdefghijklmnopqrstuvwxyz" : Str).cps.toList) = lower c := by
  have e : ("abcdefghijklmnopqrstuvwxyz" : Str).cps.toList = (List.range 26).map (· + 97) := by decide +kernel
  unfold lower
  rw [e, ← Bool.decide_and, decide_eq_decide, List.mem_map]
  constructor
  · rintro ⟨a, ha, rfl⟩
    rw [List.mem_range] at ha
    omega
  · intro h
    exact ⟨c - 97, List.mem_range.mpr (by omega), by omega⟩
theorem in_09 (c : Nat) : decide (c ∈ ("0123456789" : Str).cps.toList) = figure c := by
  have e : ("0123456789" : Str).cps.toList = (List.range 10).map (· + 48) := by decide +kernel
  unfold figure
  rw [e, ← Bool.decide_and, decide_eq_decide, List.mem_map]
  constructor
  · rintro ⟨a, ha, rfl⟩
    rw [List.mem_range] at ha
    omega
  · intro h
    exact ⟨c - 48, List.mem_range.mpr (by omega), by omega⟩
/-! ### numbers by figures -/
open NumText TL
theorem fold_lt : ∀ (cs : List Nat) (a : Nat), AllDigits cs → a * 10 ^ cs.length ≤ cs.foldl (fun acc c => acc * 10 + (c - 48)) a ∧ cs.foldl (fun acc c => acc * 10 + (c - 48)) a < (a + 1) * 10 ^ cs.length
  | [], a, _ => by simp
  | c :: cs, a, h => by
    have hc := h.head
    have ih := fold_lt cs (a * 10 + (c - 48)) h.tail
    rw [List.foldl_cons, List.length_cons, Nat.pow_succ]
    have p : 0 < 10 ^ cs.length := Nat.pos_of_ne_zero (by simp)
    generalize 10 ^ cs.length = q at *
    refine ⟨Nat.le_trans ?_ ih.1, Nat.lt_of_lt_of_le ih.2 ?_⟩
    · have : a * (q * 10) = (a * 10) * q := by rw [Nat.mul_comm q 10, ← Nat.mul_assoc]
      rw [this]
      exact Nat.mul_le_mul_right q (by omega)
    · have : (a + 1) * (q * 10) = ((a + 1) * 10) * q := by rw [Nat.mul_comm q 10, ← Nat.mul_assoc]
      rw [this]
      exact Nat.mul_le_mul_right q (by omega)
theorem val_lt {cs : List Nat} (h : AllDigits cs) : digitsVal cs < 10 ^ cs.length := by
  have := (fold_lt cs 0 h).2
  rw [Nat.zero_add, Nat.one_mul] at this
  exact this
theorem val_ge {c : Nat} {cs : List Nat} (h : AllDigits (c :: cs)) (hc : c ≠ 48) : 10 ^ cs.length ≤ digitsVal (c :: cs) := by
  have h1 := h.head
  have := (fold_lt cs (0 * 10 + (c - 48)) h.tail).1
  refine Nat.le_trans ?_ this
  have : 1 * 10 ^ cs.length ≤ (0 * 10 + (c - 48)) * 10 ^ cs.length := Nat.mul_le_mul_right _ (by omega)
  omega
theorem val_zero {cs : List Nat} : digitsVal (48 :: cs) = digitsVal cs := rfl
/-- the figures of a number have as many signs as the word just where it has no nought ahead of others -/
theorem len_canon {c : Nat} {cs : List Nat} (h : AllDigits (c :: cs)) : (numL (digitsVal (c :: cs))).length = (c :: cs).length ↔ ¬ (c = 48 ∧ 1 < (c :: cs).length) := by
  constructor
  · rintro e ⟨rfl, hl⟩
    rw [val_zero] at e
    rw [List.length_cons] at e hl
    have := numL_len (n := digitsVal cs) (k := cs.length) (by omega) (val_lt h.tail)
    omega
  · intro hn
    by_cases hc : c = 48
    · subst hc
      have : cs = [] := by
        cases cs with
        | nil => rfl
        | cons d r =>
          exact absurd ⟨rfl, by rw [List.length_cons, List.length_cons]; omega⟩ hn
      subst this
      rw [val_zero]
      show (numL 0).length = 1
      rw [numL_lt (by decide)]
      rfl
    · have u := numL_len (n := digitsVal (c :: cs)) (k := (c :: cs).length) (by rw [List.length_cons]; omega) (val_lt h)
      have l := val_ge h hc
      have v := val_lt (numL_digits (digitsVal (c :: cs)))
      rw [numL_val] at v
      have w : 10 ^ cs.length < 10 ^ (numL (digitsVal (c :: cs))).length := Nat.lt_of_le_of_lt l v
      have := (Nat.pow_lt_pow_iff_right (by decide : 1 < 10)).mp w
      rw [List.length_cons] at *
      omega
/-- words of figures of one length and one worth are one -/
theorem fold_inj : ∀ (cs ds : List Nat) (a b : Nat), AllDigits cs → AllDigits ds → cs.length = ds.length → cs.foldl (fun acc c => acc * 10 + (c - 48)) a = ds.foldl (fun acc c => acc * 10 + (c - 48)) b → a = b ∧ cs = ds
  | [], [], a, b, _, _, _, e => ⟨e, rfl⟩
  | [], _ :: _, _, _, _, _, l, _ => by simp at l
  | _ :: _, [], _, _, _, _, l, _ => by simp at l
  | c :: cs, d :: ds, a, b, h1, h2, l, e => by
    have q := fold_inj cs ds (a * 10 + (c - 48)) (b * 10 + (d - 48)) h1.tail h2.tail (by simpa using l) e
    have hc := h1.head
    have hd := h2.head
    have e1 := q.1
    have : a = b ∧ c = d := by omega
    exact ⟨this.1, by rw [this.2, q.2]⟩
theorem canon_eq {c : Nat} {cs : List Nat} (h : AllDigits (c :: cs)) (hn : ¬ (c = 48 ∧ 1 < (c :: cs).length)) : numL (digitsVal (c :: cs)) = c :: cs :=
  (fold_inj _ _ 0 0 (numL_digits _) h ((len_canon h).mpr hn) (numL_val _)).2
section
variable {X : Cx}
/-- a text many times -/
def timesS (z : Str) (n : Nat) : Str := ⟨(List.replicate n z.cps).foldl (· ++ ·) #[]⟩
theorem times_fold (c : Nat) : ∀ (n : Nat) (a : Array Nat), ((List.replicate n #[c]).foldl (· ++ ·) a).toList = a.toList ++ List.replicate n c
  | 0, a => by simp
  | n + 1, a => by
    rw [List.replicate_succ, List.foldl_cons, times_fold c n (a ++ #[c]), Array.toList_append, List.append_assoc]
    rfl
theorem times_list {z : Str} {c n : Nat} (h : z.cps = #[c]) : (timesS z n).cps.toList = List.replicate n c := by
  unfold timesS
  show ((List.replicate n z.cps).foldl (· ++ ·) #[]).toList = _
  rw [h, times_fold c n #[]]
  rfl
theorem times_len {z : Str} {c n : Nat} (h : z.cps = #[c]) : (timesS z n).length = n := by
  show (timesS z n).cps.size = n
  rw [← Array.length_toList, times_list h, List.length_replicate]
theorem op_mulS : OpR X (binaryOp .Mult) (fun x y H Q => ∃ (z : Str) (k : Int), x = .str z ∧ y = .int k ∧ 2 ≤ k ∧ k ≤ 100000 ∧ (∃ c, z.cps = #[c]) ∧ Q (.str (timesS z k.toNat)) H) := by
  intro pins s σ H x y v u Q I rx ry h
  obtain ⟨z, k, rfl, rfl, h2, h3, ⟨c, hc⟩, q⟩ := h
  have hz : z.length = 1 := by
    show z.cps.size = 1
    rw [hc]
    rfl
  obtain ⟨t, rfl⟩ := rx
  obtain ⟨t', rfl⟩ := ry
  refine PySem.P.mul_str ?_ ?_ ?_ ?_
  · rw [decide_eq_false (by omega), decide_eq_false (by omega)]
    rfl
  · intro _ _
    rw [hz]
    have : (1 : Int) ≤ (2 ^ 63 - 1) / k := by
      have : (2 ^ 63 - 1 : Int) / k ≥ 1 := (Int.le_ediv_iff_mul_le (by omega)).mpr (by omega)
      exact this
    omega
  · intro _ _
    rw [hz]
    exact decide_eq_false (by
      have : (100000 : Nat) ≤ sizeLine := by decide
      show ¬ _ > _
      omega)
  · have hk1 : (k == 1) = false := by
      rw [beq_eq_false_iff_ne]
      omega
    rw [if_neg (by omega), if_neg (by rw [hk1, hz]; decide)]
    refine ⟨?_, ⟨.str (timesS z k.toNat), H, I.tok _, ⟨_, rfl⟩, q⟩⟩
    have e := times_len (n := k.toNat) hc
    have : (100000 : Nat) ≤ sizeLine := by decide
    show (timesS z k.toNat).length ≤ sizeLine
    omega
end

/-! ### comprehensions over a text -/
/-- [truth of each sign] -/
theorem lc_all {z : Str} {H : Hp} {D : Addr} (hD : H D = none) (hz : z.length ≤ 100000) (f : Nat → Bool) {g : TG} {tt : TT} {te : TE} {vs : List Nat} {σ : L2.St} {Qd : Hp → Prop}
    (turn : ∀ (c : Nat) (H2 : Hp) (R : V → Hp → Prop) (C : Hp → Prop), Same H H2 → R (.bl (f c)) H2 → g (.str ⟨#[c]⟩) (wipe σ vs) H2 fun σ2 H2 => wipe σ2 vs = wipe σ vs ∧ tt σ2 H2 fun b H3 => if b = true then te σ2 H3 R else C H3)
    (fin : ∀ H', Same H H' → H' D = some (.lst ((z.cps.toList.map f).map V.bl)) → Qd H') :
    ∃ W : Nat → Nat → Hp → Prop, (∃ m, W 0 m (upd H D (.lst []))) ∧ ∀ i m H, W i m H →
      ((Its z).stop i H ∧ Qd H) ∨ ((Its z).go i H ∧ ∃ Nx : Hp → Prop, (∀ H', Nx H' → ∃ m', m' < m ∧ W (i + 1) m' H') ∧ ∀ x H', (Its z).yld i H x H' → g x (wipe σ vs) H' fun σ2 H2 => wipe σ2 vs = wipe σ vs ∧ tt σ2 H2 fun b H3 =>
        if b = true then te σ2 H3 fun y H4 => ∃ acc, H4 D = some (.lst acc) ∧ acc.length < sizeLine ∧ Nx (upd H4 D (.lst (acc ++ [y]))) else Nx H3) := by
  have hzl : z.length ≤ sizeLine := Nat.le_trans hz (by decide)
  refine lc_it walk_str (fun i H' => Same H H' ∧ H' D = some (.lst (((z.cps.toList.take i).map f).map V.bl))) ⟨same_upd hD, upd_same⟩ (fun _ _ _ _ => trivial) ?_ ?_
  · rintro i x H1 H2 hi ⟨s1, e1⟩ ⟨rfl, c, hc, rfl⟩
    refine turn c _ _ _ s1 ?_
    have hc' : z.cps.toList[i]? = some c := by rw [Array.getElem?_toList]; exact hc
    refine ⟨_, e1, ?_, fun b o h => ?_, ?_⟩
    · rw [List.length_map, List.length_map, List.length_take]
      exact Nat.lt_of_le_of_lt (Nat.min_le_left _ _) (Nat.lt_of_lt_of_le hi hzl)
    · rw [upd_ne (ne_of_none h hD)]
      exact s1 _ _ h
    · rw [upd_same, List.take_add_one, hc', List.map_append, List.map_append]
      rfl
  · rintro H' ⟨s1, e1⟩
    have ef : z.cps.toList.take z.cps.size = z.cps.toList := List.take_of_length_le (by rw [Array.length_toList]; exact Nat.le_refl _)
    rw [ef] at e1
    exact fin H' s1 e1
def sg (c : Nat) : V := .str ⟨#[c]⟩
/-- [sign for sign in text if ..] -/
theorem lc_filter {z : Str} {H : Hp} {D : Addr} (hD : H D = none) (hz : z.length ≤ 100000) (f : Nat → Bool) {g : TG} {tt : TT} {te : TE} {vs : List Nat} {σ : L2.St} {Qd : Hp → Prop}
    (turn : ∀ (c : Nat) (H2 : Hp) (R : V → Hp → Prop) (C : Hp → Prop), Same H H2 → (f c = true → R (sg c) H2) → (f c = false → C H2) → g (.str ⟨#[c]⟩) (wipe σ vs) H2 fun σ2 H2 => wipe σ2 vs = wipe σ vs ∧ tt σ2 H2 fun b H3 => if b = true then te σ2 H3 R else C H3)
    (fin : ∀ H', Same H H' → H' D = some (.lst ((z.cps.toList.filter f).map sg)) → Qd H') :
    ∃ W : Nat → Nat → Hp → Prop, (∃ m, W 0 m (upd H D (.lst []))) ∧ ∀ i m H, W i m H →
      ((Its z).stop i H ∧ Qd H) ∨ ((Its z).go i H ∧ ∃ Nx : Hp → Prop, (∀ H', Nx H' → ∃ m', m' < m ∧ W (i + 1) m' H') ∧ ∀ x H', (Its z).yld i H x H' → g x (wipe σ vs) H' fun σ2 H2 => wipe σ2 vs = wipe σ vs ∧ tt σ2 H2 fun b H3 =>
        if b = true then te σ2 H3 fun y H4 => ∃ acc, H4 D = some (.lst acc) ∧ acc.length < sizeLine ∧ Nx (upd H4 D (.lst (acc ++ [y]))) else Nx H3) := by
  have hzl : z.length ≤ sizeLine := Nat.le_trans hz (by decide)
  refine lc_it walk_str (fun i H' => Same H H' ∧ H' D = some (.lst (((z.cps.toList.take i).filter f).map sg))) ⟨same_upd hD, upd_same⟩ (fun _ _ _ _ => trivial) ?_ ?_
  · rintro i x H1 H2 hi ⟨s1, e1⟩ ⟨rfl, c, hc, rfl⟩
    have hc' : z.cps.toList[i]? = some c := by rw [Array.getElem?_toList]; exact hc
    refine turn c _ _ _ s1 (fun hf => ?_) (fun hf => ?_)
    · refine ⟨_, e1, ?_, fun b o h => ?_, ?_⟩
      · rw [List.length_map]
        refine Nat.lt_of_le_of_lt (List.length_filter_le _ _) ?_
        rw [List.length_take]
        exact Nat.lt_of_le_of_lt (Nat.min_le_left _ _) (Nat.lt_of_lt_of_le hi hzl)
      · rw [upd_ne (ne_of_none h hD)]
        exact s1 _ _ h
      · rw [upd_same, List.take_add_one, hc', List.filter_append, List.map_append]
        show _ = some (HO.lst (_ ++ List.map sg (List.filter f [c])))
        rw [List.filter_cons_of_pos hf]
        rfl
    · refine ⟨s1, ?_⟩
      rw [e1, List.take_add_one, hc', List.filter_append, List.map_append]
      show _ = some (HO.lst (_ ++ List.map sg (List.filter f [c])))
      rw [List.filter_cons_of_neg (by rw [hf]; exact Bool.false_ne_true)]
      show _ = some (HO.lst (_ ++ []))
      rw [List.append_nil]
  · rintro H' ⟨s1, e1⟩
    have ef : z.cps.toList.take z.cps.size = z.cps.toList := List.take_of_length_le (by rw [Array.length_toList]; exact Nat.le_refl _)
    rw [ef] at e1
    exact fin H' s1 e1
/-- a list of signs beside [] -/
theorem dp_signs {K : PySem.W.Frag} {H : Hp} : ∀ cs : List Nat, DpAll K H (cs.map sg) (cs.map fun c => PyData.str ⟨#[c]⟩)
  | [] => .nil
  | c :: cs => .cons (.str _) (dp_signs cs)
theorem eqv_nil (ds : List PyData) : PyData.eqv (.list ds) (.list []) = ds.isEmpty := by
  cases ds with
  | nil => rfl
  | cons d r => rfl
theorem lay_signs : ∀ cs : List Nat, (∀ c ∈ cs, c < 128) → PyData.canLayAll0 (cs.map fun c => PyData.str ⟨#[c]⟩) = true
  | [], _ => rfl
  | c :: r, h => by
    have h1 := h c (List.mem_cons_self ..)
    have h2 := lay_signs r fun d hd => h d (List.mem_cons_of_mem _ hd)
    show (PyData.canLay0 (.str ⟨#[c]⟩) && PyData.canLayAll0 (r.map fun c => PyData.str ⟨#[c]⟩)) = true
    rw [h2, Bool.and_true]
    show (#[c].all (· < 0x110000)) = true
    simp
    omega
theorem dep_signs : ∀ cs : List Nat, PyData.depthAll (cs.map fun c => PyData.str ⟨#[c]⟩) = 0
  | [] => rfl
  | c :: r => by
    show max 0 (PyData.depthAll (r.map fun c => PyData.str ⟨#[c]⟩)) = 0
    rw [dep_signs r]
    rfl
theorem shp_signs {cs : List Nat} (h : ∀ c ∈ cs, c < 128) : SeqAt.shaped (.list (cs.map fun c => PyData.str ⟨#[c]⟩)) = true := by
  unfold SeqAt.shaped
  have e1 : PyData.canLay0 (.list (cs.map fun c => PyData.str ⟨#[c]⟩)) = true := lay_signs cs h
  have e2 : PyData.depth (.list (cs.map fun c => PyData.str ⟨#[c]⟩)) = 1 := by
    show PyData.depthAll _ + 1 = 1
    rw [dep_signs]
  rw [e1, e2]
  rfl
/-- signs below 128 alone -/
def Asc (z : Str) : Prop := ∀ c ∈ z.cps.toList, c < 128
theorem asc_cut {z : Str} (h : Asc z) (lo hi : Option Int) : Asc (cutS z lo hi) := fun c hc => h c (List.mem_of_mem_drop (List.mem_of_mem_take hc))
theorem asc_app {x y : Str} (hx : Asc x) (hy : Asc y) : Asc (x ++ y) := fun c hc => by
  have hc : c ∈ TL.tl (x ++ y) := hc
  rw [TL.tl_append] at hc
  rcases List.mem_append.mp hc with h | h
  · exact hx c h
  · exact hy c h
theorem asc_upper {z : Str} (h : Asc z) : Asc (Txt.upper z) ∧ (Txt.upper z).length = z.length := by
  rw [PyProof.Rows.upper_ascii h]
  refine ⟨fun c hc => ?_, ?_⟩
  · have hc : c ∈ (z.cps.map PyProof.Rows.up1).toList := hc
    rw [Array.toList_map] at hc
    obtain ⟨a, ha, rfl⟩ := List.mem_map.mp hc
    have := h a ha
    unfold PyProof.Rows.up1
    split <;> omega
  · show (z.cps.map PyProof.Rows.up1).size = z.cps.size
    rw [Array.size_map]
theorem asc_of {z : Str} {cs : List Nat} (h : z.cps.toList = cs) (hl : ∀ c ∈ cs, c < 128) : Asc z := fun c hc => hl c (by rw [← h]; exact hc)
theorem lower_lt {c : Nat} (h : lower c = true) : c < 128 := by
  unfold lower at h
  simp only [Bool.and_eq_true, decide_eq_true_eq] at h
  omega
theorem figure_lt {c : Nat} (h : figure c = true) : c < 128 := by
  unfold figure at h
  simp only [Bool.and_eq_true, decide_eq_true_eq] at h
  omega
theorem filter_none {l : List Nat} {f : Nat → Bool} : (l.filter (fun c => !f c)).isEmpty = l.all f := by
  induction l with
  | nil => rfl
  | cons c r ih =>
    rw [List.filter_cons, List.all_cons]
    cases h : f c with
    | true => simpa using ih
    | false => rfl
theorem str_sign {c d : Nat} {z : Str} (h : z.cps = #[d]) : decide (V.str ⟨#[c]⟩ = V.str z) = decide (c = d) := by
  obtain ⟨z⟩ := z
  rw [decide_eq_decide]
  constructor
  · intro e
    injection e with e
    injection e with e
    rw [show z = #[d] from h] at e
    injection e with e
    injection e
  · rintro rfl
    rw [show z = #[c] from h]
/-! ### a text joined of signs -/
open TL
theorem join_signs : ∀ cs : List Nat, joinL [] ((cs.map fun c => (⟨#[c]⟩ : Str)).map tl) = cs
  | [] => rfl
  | [c] => rfl
  | c :: d :: r => by
    show [c] ++ ([] ++ joinL [] (((d :: r).map fun c => (⟨#[c]⟩ : Str)).map tl)) = c :: d :: r
    rw [join_signs (d :: r)]
    rfl
theorem join_text {y : Str} (hy : tl y = []) (cs : List Nat) : (Txt.join y (cs.map fun c => (⟨#[c]⟩ : Str))).cps.toList = cs := by
  show tl (Txt.join y _) = cs
  rw [join_eq, tl_join, hy, join_signs]
theorem size_signs : ∀ cs : List Nat, ((cs.map fun c => (⟨#[c]⟩ : Str)).map (·.length)).sum = cs.length
  | [] => rfl
  | c :: r => by
    rw [List.map_cons, List.map_cons, List.sum_cons, size_signs r, List.length_cons]
    show 1 + r.length = _
    omega

/-- [.. for _ in range(k)], each a drawn sign -/
theorem lc_draw {P : Int → Prop} {d D : Addr} {n k : Nat} {H1 : Hp} (hD : H1 D = none) (dr : Dr P d n H1) (hk : k ≤ 1000) (p : Nat → Bool) {g : TG} {tt : TT} {te : TE} {vs : List Nat} {σ : L2.St} {Qd : Hp → Prop}
    (turn : ∀ (i : Nat) (H2 : Hp) (R : V → Hp → Prop) (C : Hp → Prop), i < k → Dr P d (n + i) H2 → (∀ H3 c, p c = true → But d H2 H3 → Dr P d (n + i + 1) H3 → R (sg c) H3) → g (.int (0 + i)) (wipe σ vs) H2 fun σ2 H2 => wipe σ2 vs = wipe σ vs ∧ tt σ2 H2 fun b H3 => if b = true then te σ2 H3 R else C H3)
    (fin : ∀ H' (cs : List Nat), cs.length = k → (∀ c ∈ cs, p c = true) → But d H1 H' → Dr P d (n + k) H' → H' D = some (.lst (cs.map sg)) → Qd H') :
    ∃ W : Nat → Nat → Hp → Prop, (∃ m, W 0 m (upd H1 D (.lst []))) ∧ ∀ i m H, W i m H →
      ((Itr 0 k).stop i H ∧ Qd H) ∨ ((Itr 0 k).go i H ∧ ∃ Nx : Hp → Prop, (∀ H', Nx H' → ∃ m', m' < m ∧ W (i + 1) m' H') ∧ ∀ x H', (Itr 0 k).yld i H x H' → g x (wipe σ vs) H' fun σ2 H2 => wipe σ2 vs = wipe σ vs ∧ tt σ2 H2 fun b H3 =>
        if b = true then te σ2 H3 fun y H4 => ∃ acc, H4 D = some (.lst acc) ∧ acc.length < sizeLine ∧ Nx (upd H4 D (.lst (acc ++ [y]))) else Nx H3) := by
  have nD : D ≠ d := dr.ne hD
  refine lc_range (lo := 0) (n := k) (fun i H' => ∃ cs : List Nat, cs.length = i ∧ (∀ c ∈ cs, p c = true) ∧ But d H1 H' ∧ Dr P d (n + i) H' ∧ H' D = some (.lst (cs.map sg))) ⟨[], rfl, (fun _ h => nomatch h), But.new hD, dr.upd nD, upd_same⟩ ?_ ?_
  · rintro i H2 hi ⟨cs, hl, hp, b2, dr2, e2⟩
    refine turn i H2 _ _ hi dr2 fun H3 c hc b3 dr3 => ?_
    refine ⟨_, b3 _ _ nD e2, ?_, cs ++ [c], ?_, ?_, ?_, ?_, ?_⟩
    · rw [List.length_map, hl]
      exact Nat.lt_of_lt_of_le (show i < 1000 by omega) (by decide)
    · rw [List.length_append, hl]
      rfl
    · intro x hx
      rcases List.mem_append.mp hx with h | h
      · exact hp x h
      · rw [List.mem_singleton.mp h]
        exact hc
    · exact (b2.trans b3).mut hD
    · exact (dr3.upd nD).mono (by omega)
    · rw [upd_same, List.map_append]
      rfl
  · rintro H' ⟨cs, hl, hp, b, dr', e⟩
    exact fin H' cs hl hp b dr' e
theorem map_sg (cs : List Nat) : (cs.map fun c => (⟨#[c]⟩ : Str)).map V.str = cs.map sg := by
  rw [List.map_map]
  rfl
theorem join_len {y : Str} (hy : TL.tl y = []) (cs : List Nat) : (Txt.join y (cs.map fun c => (⟨#[c]⟩ : Str))).length = cs.length := by
  have := join_text hy cs
  show (Txt.join y (cs.map fun c => (⟨#[c]⟩ : Str))).cps.size = _
  rw [← Array.length_toList, this]
theorem az_at {r : Int} (h0 : 0 ≤ r) (h1 : r < 26) : ∃ c, atI ("abcdefghijklmnopqrstuvwxyz" : Str).cps.toList r = some c ∧ lower c = true := by
  obtain ⟨j, rfl⟩ : ∃ j : Nat, r = (j : Int) := ⟨r.toNat, by omega⟩
  have e : ("abcdefghijklmnopqrstuvwxyz" : Str).cps.toList = (List.range 26).map (· + 97) := by decide +kernel
  refine ⟨j + 97, atI_nat ?_, ?_⟩
  · rw [e, List.getElem?_map, List.getElem?_range (by omega)]
    rfl
  · unfold lower
    rw [decide_eq_true (by omega), decide_eq_true (by omega)]
    rfl
theorem fig_at {r : Int} (h0 : 0 ≤ r) (h1 : r < 10) : ∃ c, atI ("0123456789" : Str).cps.toList r = some c ∧ figure c = true := by
  obtain ⟨j, rfl⟩ : ∃ j : Nat, r = (j : Int) := ⟨r.toNat, by omega⟩
  have e : ("0123456789" : Str).cps.toList = (List.range 10).map (· + 48) := by decide +kernel
  refine ⟨j + 48, atI_nat ?_, ?_⟩
  · rw [e, List.getElem?_map, List.getElem?_range (by omega)]
    rfl
  · unfold figure
    rw [decide_eq_true (by omega), decide_eq_true (by omega)]
    rfl
theorem log_small {m : Int} (h0 : 0 < m) (h : m < 2 ^ 200) : m.natAbs.log2 < 9000 := by
  refine Nat.lt_of_lt_of_le (PySem.Flt.log2_lt_of (k := 200) (by decide) ?_) (by decide)
  have e : ((2 : Int) ^ 200) = ((2 ^ 200 : Nat) : Int) := by decide
  rw [e] at h
  omega
theorem log_tiny {m : Int} (h0 : 0 < m) (h : m < 1000000000000000000000000000000) : m.natAbs.log2 < 9000 := log_small h0 (Int.lt_trans h (by decide))
theorem at_str {z : Str} {r : Int} (h0 : 0 ≤ r) (h1 : r < (z.length : Int)) : ∃ c, atI z.cps.toList r = some c ∧ c ∈ z.cps.toList := by
  obtain ⟨j, rfl⟩ : ∃ j : Nat, r = (j : Int) := ⟨r.toNat, by omega⟩
  have hj : j < z.cps.toList.length := by
    have : z.cps.toList.length = z.length := Array.length_toList
    omega
  exact ⟨_, atI_nat (List.getElem?_eq_getElem hj), List.getElem_mem hj⟩
theorem sz (n : Nat) (h : n ≤ 100000) : n ≤ sizeLine := Nat.le_trans h (by decide)
theorem tyx_same {K : PySem.W.Frag} {H H' : Hp} (s : Same H H') {v : V} {t : Value} (h : TyX K H v t) : TyX K H' v t := by
  cases h with
  | base h =>
    cases h with
    | non => exact .base .non
    | bl b => exact .base (.bl b)
    | int i => exact .base (.int i)
    | str z => exact .base (.str z)
    | flt x => exact .base (.flt x)
    | lst e => exact .base (.lst (s _ _ e))
    | frz e => exact .base (.frz (s _ _ e))
    | tup e => exact .base (.tup (s _ _ e))
    | dK e => exact .base (.dK (s _ _ e))
    | dT e => exact .base (.dT (s _ _ e))
    | ins e cl ha hn htk hm => exact .base (.ins (s _ _ e) cl ha hn htk hm)
  | byt b => exact .byt b
  | set e => exact .set (s _ _ e)
  | kList e c => exact .kList e c
  | kTuple e c => exact .kTuple e c
  | kDict e c => exact .kDict e c
  | fTuple e => exact .fTuple (s _ _ e)
  | fDict e => exact .fDict (s _ _ e)
theorem Th.same {K : PySem.W.Frag} {H H' : Hp} (s : Same H H') {v : V} (h : Th K H v) : Th K H' v := by
  cases h with
  | int i => exact .int i
  | bl b => exact .bl b
  | str z => exact .str z
  | non => exact .non
  | lst h => exact .lst (tyx_same s h)
  | tup h => exact .tup (tyx_same s h)
  | dct h => exact .dct (tyx_same s h)
theorem cells_int {ns : List Int} {n : Int} {lo hi : Option Int} {i : Nat} {x : V} (h : ([V.int n] ++ cutV (ns.map V.int) lo hi)[i]? = some x) : ∃ k, x = .int k := by
  have hm := List.mem_of_getElem? h
  rcases List.mem_append.mp hm with h | h
  · exact ⟨n, List.mem_singleton.mp h⟩
  · have := List.mem_of_mem_drop (List.mem_of_mem_take h)
    obtain ⟨k, _, rfl⟩ := List.mem_map.mp this
    exact ⟨k, rfl⟩
section
variable {P : Program} {w : World} {K : PySem.W.Frag} {mg : Str → Option Value} {base : Heap} {x qual : Str} {params : Arguments} {body : List Stmt} {scope : Scope} {dvs : List V} {kws : List (Str × V)} {f : Addr} {fd : FuncData}
theorem okD {N ps : List Str} {k : Nat} {sp : Sp} (F : FunD K x qual params body scope dvs kws f fd) (S : FnScope N ps scope) (len : ∀ vs H Q E, sp vs H Q E → vs.length = ps.length)
    (hbody : ∀ (cdv : Value) (A : Around) (outer : List Env) (s : Shared) (H : Hp) (vs : List V) (Q : VK) (E : XK), Room k (A.deeper (envOfC qual scope s.heap.objs.size f cdv)) → sp vs H Q E →
      ∃ t, PSs (cxOf CX0 P w K mg base N qual scope f cdv A outer s H E).nox body t ∧ t { nx := fun _ H' => Q .non H', rt := Q } (start N vs) H) : FnOk P w K mg base CX0 (k + 1) f fd ps sp :=
  F.ok S len fun cdv A outer s H vs Q E hr h => by
    obtain ⟨t, h, q⟩ := hbody cdv A outer s H vs Q E hr h
    exact ⟨t, h.nox, q⟩
end
end KA
namespace KA
open PySem PySem.Spec PyProof.Rows L2
/-- what is no list is as it was -/
def NL (H H' : Hp) : Prop := ∀ b o, (∀ xs, o ≠ .lst xs) → H b = some o → H' b = some o
theorem NL.of {H H' : Hp} (s : Same H H') : NL H H' := fun b o _ h => s b o h
theorem NL.at_ {H : Hp} {D : Addr} {xs : List V} {o : HO} (h : H D = some (.lst xs)) : NL H (upd H D o) := fun b u n e => by
  have : b ≠ D := fun z => by
    rw [z, h] at e
    exact n xs (Option.some.inj e).symm
  rw [upd_ne this]
  exact e
theorem NL.trans {H H1 H2 : Hp} (a : NL H H1) (b : NL H1 H2) : NL H H2 := fun c o n h => b c o n (a c o n h)
/-- a comprehension over a list: what it makes is told by G -/
theorem lc_gen {K : PySem.W.Frag} {a : Addr} {xs : List V} {H : Hp} {D : Addr} (hD : H D = none) (hS : SqL K H a xs) (hl : xs.length ≤ 10000) (G : Nat → V → Hp → Prop) (hG : ∀ j v H1 H2, NL H1 H2 → G j v H1 → G j v H2)
    {g : TG} {tt : TT} {te : TE} {vs : List Nat} {σ : L2.St} {Qd : Hp → Prop}
    (turn : ∀ (i : Nat) (x : V) (H2 : Hp) (R : V → Hp → Prop) (C : Hp → Prop), xs[i]? = some x → Same H H2 → (∀ v H3, Same H2 H3 → G i v H3 → R v H3) → g x (wipe σ vs) H2 fun σ2 H2 => wipe σ2 vs = wipe σ vs ∧ tt σ2 H2 fun b H3 => if b = true then te σ2 H3 R else C H3)
    (fin : ∀ H' acc, Same H H' → H' D = some (.lst acc) → acc.length = xs.length → (∀ j v, acc[j]? = some v → G j v H') → Qd H') :
    ∃ W : Nat → Nat → Hp → Prop, (∃ m, W 0 m (upd H D (.lst []))) ∧ ∀ i m H, W i m H →
      ((Itl K a).stop i H ∧ Qd H) ∨ ((Itl K a).go i H ∧ ∃ Nx : Hp → Prop, (∀ H', Nx H' → ∃ m', m' < m ∧ W (i + 1) m' H') ∧ ∀ x H', (Itl K a).yld i H x H' → g x (wipe σ vs) H' fun σ2 H2 => wipe σ2 vs = wipe σ vs ∧ tt σ2 H2 fun b H3 =>
        if b = true then te σ2 H3 fun y H4 => ∃ acc, H4 D = some (.lst acc) ∧ acc.length < sizeLine ∧ Nx (upd H4 D (.lst (acc ++ [y]))) else Nx H3) := by
  refine lc_list (K := K) (a := a) (xs := xs) (fun i H' => Same H H' ∧ ∃ acc, H' D = some (.lst acc) ∧ acc.length = i ∧ ∀ j v, acc[j]? = some v → G j v H') ⟨same_upd hD, [], upd_same, rfl, fun j v h => by simp at h⟩ (fun i H' _ h => h.1.seq hS) ?_ ?_
  · rintro i x H2 hi ⟨s2, acc, e2, l2, g2⟩
    have hil : i < xs.length := (List.getElem?_eq_some_iff.mp hi).1
    refine turn i x H2 _ _ hi s2 fun v H3 s3 hv => ?_
    have e3 := s3 _ _ e2
    refine ⟨acc, e3, ?_, fun b o h => ?_, acc ++ [v], upd_same, ?_, fun j w hj => ?_⟩
    · rw [l2]
      exact Nat.lt_of_lt_of_le (show i < 10000 by omega) (by decide)
    · rw [upd_ne (ne_of_none h hD)]
      exact s3 _ _ (s2 _ _ h)
    · rw [List.length_append, l2]
      rfl
    · refine hG j w H3 _ (NL.at_ e3) ?_
      by_cases h : j < acc.length
      · rw [List.getElem?_append_left h] at hj
        exact hG j w H2 H3 (NL.of s3) (g2 j w hj)
      · rw [List.getElem?_append_right (by omega)] at hj
        have : j = i := by
          have := (List.getElem?_eq_some_iff.mp hj).1
          rw [List.length_singleton] at this
          omega
        subst this
        rw [l2, Nat.sub_self] at hj
        have : v = w := Option.some.inj hj
        subst this
        exact hv
  · rintro H' ⟨s, acc, e, l, g⟩
    exact fin H' acc s e l g
/-- .. whose values are f of the place -/
theorem lc_vals {K : PySem.W.Frag} {a : Addr} {xs : List V} {H : Hp} {D : Addr} (hD : H D = none) (hS : SqL K H a xs) (hl : xs.length ≤ 10000) (f : Nat → V)
    {g : TG} {tt : TT} {te : TE} {vs : List Nat} {σ : L2.St} {Qd : Hp → Prop}
    (turn : ∀ (i : Nat) (x : V) (H2 : Hp) (R : V → Hp → Prop) (C : Hp → Prop), xs[i]? = some x → Same H H2 → R (f i) H2 → g x (wipe σ vs) H2 fun σ2 H2 => wipe σ2 vs = wipe σ vs ∧ tt σ2 H2 fun b H3 => if b = true then te σ2 H3 R else C H3)
    (fin : ∀ H', Same H H' → H' D = some (.lst ((List.range xs.length).map f)) → Qd H') :
    ∃ W : Nat → Nat → Hp → Prop, (∃ m, W 0 m (upd H D (.lst []))) ∧ ∀ i m H, W i m H →
      ((Itl K a).stop i H ∧ Qd H) ∨ ((Itl K a).go i H ∧ ∃ Nx : Hp → Prop, (∀ H', Nx H' → ∃ m', m' < m ∧ W (i + 1) m' H') ∧ ∀ x H', (Itl K a).yld i H x H' → g x (wipe σ vs) H' fun σ2 H2 => wipe σ2 vs = wipe σ vs ∧ tt σ2 H2 fun b H3 =>
        if b = true then te σ2 H3 fun y H4 => ∃ acc, H4 D = some (.lst acc) ∧ acc.length < sizeLine ∧ Nx (upd H4 D (.lst (acc ++ [y]))) else Nx H3) := by
  refine lc_gen hD hS hl (fun j v _ => v = f j) (fun _ _ _ _ _ h => h) (fun i x H2 R C hi s hR => turn i x H2 R C hi s (hR _ _ (Same.refl _) rfl)) fun H' acc s e l g => fin H' s ?_
  rw [e]
  congr 2
  refine List.ext_getElem? fun j => ?_
  by_cases h : j < xs.length
  · rw [List.getElem?_map, List.getElem?_range h]
    have : j < acc.length := by omega
    rw [List.getElem?_eq_getElem this]
    exact congrArg some (g j _ (List.getElem?_eq_getElem this))
  · rw [List.getElem?_eq_none (by omega), List.getElem?_eq_none (by rw [List.length_map, List.length_range]; omega)]
/-- a comprehension over a list that leaves some out; the heap stays -/
theorem lc_some {K : PySem.W.Frag} {a : Addr} {xs : List V} {H : Hp} {D : Addr} (hD : H D = none) (hS : SqL K H a xs) (hl : xs.length ≤ 10000) (p : V → Bool) (f : V → V)
    {g : TG} {tt : TT} {te : TE} {vs : List Nat} {σ : L2.St} {Qd : Hp → Prop}
    (turn : ∀ (i : Nat) (x : V) (H2 : Hp) (R : V → Hp → Prop) (C : Hp → Prop), xs[i]? = some x → Same H H2 → (p x = true → R (f x) H2) → (p x = false → C H2) → g x (wipe σ vs) H2 fun σ2 H2 => wipe σ2 vs = wipe σ vs ∧ tt σ2 H2 fun b H3 => if b = true then te σ2 H3 R else C H3)
    (fin : ∀ H', Same H H' → H' D = some (.lst ((xs.filter p).map f)) → Qd H') :
    ∃ W : Nat → Nat → Hp → Prop, (∃ m, W 0 m (upd H D (.lst []))) ∧ ∀ i m H, W i m H →
      ((Itl K a).stop i H ∧ Qd H) ∨ ((Itl K a).go i H ∧ ∃ Nx : Hp → Prop, (∀ H', Nx H' → ∃ m', m' < m ∧ W (i + 1) m' H') ∧ ∀ x H', (Itl K a).yld i H x H' → g x (wipe σ vs) H' fun σ2 H2 => wipe σ2 vs = wipe σ vs ∧ tt σ2 H2 fun b H3 =>
        if b = true then te σ2 H3 fun y H4 => ∃ acc, H4 D = some (.lst acc) ∧ acc.length < sizeLine ∧ Nx (upd H4 D (.lst (acc ++ [y]))) else Nx H3) := by
  refine lc_list (K := K) (a := a) (xs := xs) (fun i H' => Same H H' ∧ H' D = some (.lst (((xs.take i).filter p).map f))) ⟨same_upd hD, upd_same⟩ (fun i H' _ h => h.1.seq hS) ?_ ?_
  · rintro i x H2 hi ⟨s2, e2⟩
    have hil : i < xs.length := (List.getElem?_eq_some_iff.mp hi).1
    refine turn i x H2 _ _ hi s2 (fun hp => ?_) (fun hp => ?_)
    · refine ⟨_, e2, ?_, fun b o h => ?_, ?_⟩
      · rw [List.length_map]
        refine Nat.lt_of_le_of_lt (List.length_filter_le _ _) ?_
        rw [List.length_take]
        exact Nat.lt_of_le_of_lt (Nat.min_le_left _ _) (Nat.lt_of_lt_of_le (show i < 10000 by omega) (by decide))
      · rw [upd_ne (ne_of_none h hD)]
        exact s2 _ _ h
      · rw [upd_same, List.take_add_one, hi, List.filter_append, List.map_append]
        show _ = some (HO.lst (_ ++ List.map f (List.filter p [x])))
        rw [List.filter_cons_of_pos hp]
        rfl
    · refine ⟨s2, ?_⟩
      rw [e2, List.take_add_one, hi, List.filter_append, List.map_append]
      show _ = some (HO.lst (_ ++ List.map f (List.filter p [x])))
      rw [List.filter_cons_of_neg (by rw [hp]; exact Bool.false_ne_true)]
      show _ = some (HO.lst (_ ++ []))
      rw [List.append_nil]
  · rintro H' ⟨s, e⟩
    rw [List.take_of_length_le (Nat.le_refl _)] at e
    exact fin H' s e
theorem cut_to (xs : List V) (i : Nat) : cutV xs none (some (i : Int)) = xs.take i := by
  unfold cutV
  rw [HT.sIx_none, show HT.sIx xs.length xs.length (some (i : Int)) = min i xs.length from HT.sIx_nat xs.length xs.length i, Nat.sub_zero, List.drop_zero]
  by_cases h : i ≤ xs.length
  · rw [Nat.min_eq_left h]
  · rw [Nat.min_eq_right (by omega), List.take_of_length_le (Nat.le_refl _), List.take_of_length_le (by omega)]
theorem cut_from (xs : List V) (i : Nat) : cutV xs (some (i : Int)) none = xs.drop i := by
  unfold cutV
  rw [HT.sIx_none, show HT.sIx xs.length 0 (some (i : Int)) = min i xs.length from HT.sIx_nat xs.length 0 i]
  by_cases h : i ≤ xs.length
  · rw [Nat.min_eq_left h, List.take_of_length_le (by rw [List.length_drop]; omega)]
  · rw [Nat.min_eq_right (by omega), List.drop_of_length_le (Nat.le_refl _), List.drop_of_length_le (by omega)]
    exact List.take_nil
section
variable {X : Cx} {K' : PySem.W.Frag}
/-! the rules with the written part by its own name (for blocks) -/
theorem pe_fldK (hK : X.K = K') {e : Expr} {f : Str} {pos : Pos} {ta : TE} (ha : PE X e ta) (hb : attributeBase e f X.env (eval e X.env) = eval e X.env) : PE X (.Attribute e f pos) (tFld K' ta f) := by
  subst hK
  exact pe_fld ha hb
theorem ix_listK (hK : X.K = K') : IxR X (rIxL K') := by
  subst hK
  exact ix_list
theorem ix_tupK (hK : X.K = K') : IxR X (rIxT K') := by
  subst hK
  exact ix_tup
theorem sl_listK (hK : X.K = K') : SlR X (rSlL K') := by
  subst hK
  exact sl_list
theorem sl_tupAK (hK : X.K = K') : SlR X (rSlA K') := by
  subst hK
  exact sl_tupA
theorem op_eqDK (hK : X.K = K') (hu : X.A.units + 64 < cLine) : OpR X (compareOp .Eq) (rEqD K') := by
  subst hK
  exact op_eqD hu
theorem op_neDK (hK : X.K = K') (hu : X.A.units + 64 < cLine) : OpR X (compareOp .NotEq) (rNeD K') := by
  subst hK
  exact op_neD hu
theorem op_in_seqK (hK : X.K = K') : OpR X (compareOp .In) (rIn K' false) := by
  subst hK
  exact op_in_seq
end
section
variable {X : Cx}
/-- a statement and what follows it, with a word between -/
def tCutJ (t u : TS) : TS := fun D σ H => ∃ Mid : L2.St → Hp → Prop, t { D with nx := Mid } σ H ∧ ∀ σ' H', Mid σ' H' → u D σ' H'
theorem pss_cutJ {st : Stmt} {rest : List Stmt} {t u : TS} (h1 : PS X st t) (h2 : PSs X rest u) : PSs X (st :: rest) (tCutJ t u) := by
  refine ⟨fun pins s σ H D I h => ?_⟩
  obtain ⟨Mid, hm, hu⟩ := h
  refine wpAny_execs_cons (thn (h1.run pins s σ H { D with nx := Mid } I hm) fun f s1 q => ?_)
  cases f with
  | next =>
    obtain ⟨σ', H', I', q⟩ := q
    exact h2.run pins s1 σ' H' D I' (hu σ' H' q)
  | ret v => exact q
  | brk => exact q
  | cont => exact q
end
theorem nl_tup {K : PySem.W.Frag} {H H' : Hp} {a : Addr} {xs : List V} (s : NL H H') (h : SqT K H a xs) : SqT K H' a xs := by
  rcases h with (h | ⟨o, h⟩) | h
  · exact .inl (.inl (s _ _ (fun _ z => by cases z) h))
  · exact .inl (.inr ⟨o, s _ _ (fun _ z => by cases z) h⟩)
  · exact .inr h
theorem mem_cut {xs : List V} {lo hi : Option Int} {v : V} (h : v ∈ cutV xs lo hi) : v ∈ xs := List.mem_of_mem_drop (List.mem_of_mem_take h)
theorem len_cut (xs : List V) (lo hi : Option Int) : (cutV xs lo hi).length ≤ xs.length := by
  unfold cutV
  rw [List.length_take, List.length_drop]
  omega
/-- a comprehension over a list that leaves places out; the heap stays -/
theorem lc_someI {K : PySem.W.Frag} {a : Addr} {xs : List V} {H : Hp} {D : Addr} (hD : H D = none) (hS : SqL K H a xs) (hl : xs.length ≤ 10000) (p : Nat → Bool) (f : Nat → V)
    {g : TG} {tt : TT} {te : TE} {vs : List Nat} {σ : L2.St} {Qd : Hp → Prop}
    (turn : ∀ (i : Nat) (x : V) (H2 : Hp) (R : V → Hp → Prop) (C : Hp → Prop), xs[i]? = some x → Same H H2 → (p i = true → R (f i) H2) → (p i = false → C H2) → g x (wipe σ vs) H2 fun σ2 H2 => wipe σ2 vs = wipe σ vs ∧ tt σ2 H2 fun b H3 => if b = true then te σ2 H3 R else C H3)
    (fin : ∀ H', Same H H' → H' D = some (.lst (((List.range xs.length).filter p).map f)) → Qd H') :
    ∃ W : Nat → Nat → Hp → Prop, (∃ m, W 0 m (upd H D (.lst []))) ∧ ∀ i m H, W i m H →
      ((Itl K a).stop i H ∧ Qd H) ∨ ((Itl K a).go i H ∧ ∃ Nx : Hp → Prop, (∀ H', Nx H' → ∃ m', m' < m ∧ W (i + 1) m' H') ∧ ∀ x H', (Itl K a).yld i H x H' → g x (wipe σ vs) H' fun σ2 H2 => wipe σ2 vs = wipe σ vs ∧ tt σ2 H2 fun b H3 =>
        if b = true then te σ2 H3 fun y H4 => ∃ acc, H4 D = some (.lst acc) ∧ acc.length < sizeLine ∧ Nx (upd H4 D (.lst (acc ++ [y]))) else Nx H3) := by
  refine lc_list (K := K) (a := a) (xs := xs) (fun i H' => Same H H' ∧ H' D = some (.lst (((List.range i).filter p).map f))) ⟨same_upd hD, upd_same⟩ (fun i H' _ h => h.1.seq hS) ?_ ?_
  · rintro i x H2 hi ⟨s2, e2⟩
    have hil : i < xs.length := (List.getElem?_eq_some_iff.mp hi).1
    refine turn i x H2 _ _ hi s2 (fun hp => ?_) (fun hp => ?_)
    · refine ⟨_, e2, ?_, fun b o h => ?_, ?_⟩
      · rw [List.length_map]
        refine Nat.lt_of_le_of_lt (List.length_filter_le _ _) ?_
        rw [List.length_range]
        exact Nat.lt_of_lt_of_le (show i < 10000 by omega) (by decide)
      · rw [upd_ne (ne_of_none h hD)]
        exact s2 _ _ h
      · rw [upd_same, List.range_succ, List.filter_append, List.map_append, List.filter_cons_of_pos hp]
        rfl
    · refine ⟨s2, ?_⟩
      rw [e2, List.range_succ, List.filter_append, List.map_append, List.filter_cons_of_neg (by rw [hp]; exact Bool.false_ne_true)]
      show _ = some (HO.lst (_ ++ []))
      rw [List.append_nil]
  · rintro H' ⟨s, e⟩
    exact fin H' s e
section
variable {X : Cx} {CX : CXT} {k : Nat} {f : Addr} {fd : FuncData} {ps ks : List Str} {sp : Sp} {E : XK} {x : Str} {p pos : Pos} {kws : List Keyword} {tk : TA} {g : List Value → List Value → List Value} {gV : List V → List V → List V}
/-- f(k = v, ..) -/
theorem pe_callN0 (F : FnOk X.prog X.w X.K X.mg X.base CX k f fd ps sp) (hr : Room k X.A) (hg : Gl X x) (hm : X.mg x = some (.ref f)) (hk : PySem.W.keepIn X.K (.ref f) = true) (hb : KBn X.K fd ps 0 ks g gV) (hx : Passes CX X E) (hkw : PK X kws tk)
    (hall : (backToKw pos (keywordEach kws X.env)).all (·.1.isSome) = true := by rfl) (hks : (backToKw pos (keywordEach kws X.env)).filterMap (·.1) = ks := by rfl) (hdb : (x == ("__debug__" : Str)) = false := by decide)
    (hpl : ((backTo pos (starEach [] X.env)).any (·.1) || (backToKw pos (keywordEach kws X.env)).any (·.1.isNone)) = false := by rfl) :
    PE X (.Call (.Name x p) [] kws pos) (tCallN 0 ks.length sp gV E tNil tk) := by
  refine ⟨fun pins s σ H Q I h => ?_⟩
  refine wpAny_Call_Name_kw (ld_glob I hg hm ?_ hdb)
  refine PySem.W.callWith_KW0 (h₀ := X.base) I.ok.mod.kin hk hall ?_ hpl
  refine thn (hkw.run pos pins s σ H _ I h) fun ws s2 ⟨zs, H2, I2, rz, l1, l2, q2⟩ => ⟨I2.kIn, ?_⟩
  rw [hks]
  exact run_fnN (us := []) (vs := []) F hr hb hx I2 .nil rz rfl l2 q2
end
/-- keywords of a def without defaults -/
theorem kbn_of {K : PySem.W.Frag} {x qual : Str} {st : Stmt} {f : Addr} {fd : FuncData} {ps : List Str} (F : Fun K x qual st f fd) (n : Nat) (ks : List Str) (g : List Value → List Value → List Value) (gV : List V → List V → List V)
    (hrel : ∀ {vs : List V} {us : List Value} {zs : List V} {ws : List Value}, Vals vs us → Vals zs ws → Vals (gV vs zs) (g us ws))
    (h : ∀ (kV doc pm : Value) (an : Option Addr) (cdv ct : Value) (us ws : List Value), us.length = n → ws.length = ks.length → bindArgs (PySem.W.fnOf x qual (defArgs st) (defBody st) (defScope st) .none kV doc pm an cdv ct) ⟨us, ks.zip ws⟩ = pure (ps.zip (g us ws))) : KBn K fd ps n ks g gV := by
  obtain ⟨oc, od, kV, doc, pm, an, cdv, ct, osl, rfl, lk, hcd⟩ := F.ex
  exact ⟨fun s us ws _ l1 l2 => .of_eq (h kV doc pm an cdv ct us ws l1 l2), hrel⟩
def gsw {α : Type} (l : List α) : List α := match l with
  | [a, b] => [b, a]
  | l => l
theorem gsw_rel {zs : List V} {ws : List Value} (h : Vals zs ws) : Vals (gsw zs) (gsw ws) := by
  cases h with
  | nil => exact .nil
  | cons r1 h =>
    cases h with
    | nil => exact .cons r1 .nil
    | cons r2 h =>
      cases h with
      | nil => exact .cons r2 (.cons r1 .nil)
      | cons r3 h => exact .cons r1 (.cons r2 (.cons r3 h))
/-- a comprehension over range(n): what it makes is told by G -/
theorem lc_genR {n : Nat} {H : Hp} {D : Addr} (hD : H D = none) (hl : n ≤ 10000) (G : Nat → V → Hp → Prop) (hG : ∀ j v H1 H2, NL H1 H2 → G j v H1 → G j v H2)
    {g : TG} {tt : TT} {te : TE} {vs : List Nat} {σ : L2.St} {Qd : Hp → Prop}
    (turn : ∀ (i : Nat) (H2 : Hp) (R : V → Hp → Prop) (C : Hp → Prop), i < n → Same H H2 → (∀ v H3, Same H2 H3 → G i v H3 → R v H3) → g (.int (0 + i)) (wipe σ vs) H2 fun σ2 H2 => wipe σ2 vs = wipe σ vs ∧ tt σ2 H2 fun b H3 => if b = true then te σ2 H3 R else C H3)
    (fin : ∀ H' acc, Same H H' → H' D = some (.lst acc) → acc.length = n → (∀ j v, acc[j]? = some v → G j v H') → Qd H') :
    ∃ W : Nat → Nat → Hp → Prop, (∃ m, W 0 m (upd H D (.lst []))) ∧ ∀ i m H, W i m H →
      ((Itr 0 n).stop i H ∧ Qd H) ∨ ((Itr 0 n).go i H ∧ ∃ Nx : Hp → Prop, (∀ H', Nx H' → ∃ m', m' < m ∧ W (i + 1) m' H') ∧ ∀ x H', (Itr 0 n).yld i H x H' → g x (wipe σ vs) H' fun σ2 H2 => wipe σ2 vs = wipe σ vs ∧ tt σ2 H2 fun b H3 =>
        if b = true then te σ2 H3 fun y H4 => ∃ acc, H4 D = some (.lst acc) ∧ acc.length < sizeLine ∧ Nx (upd H4 D (.lst (acc ++ [y]))) else Nx H3) := by
  refine lc_range (lo := 0) (n := n) (fun i H' => Same H H' ∧ ∃ acc, H' D = some (.lst acc) ∧ acc.length = i ∧ ∀ j v, acc[j]? = some v → G j v H') ⟨same_upd hD, [], upd_same, rfl, fun j v h => by simp at h⟩ ?_ ?_
  · rintro i H2 hi ⟨s2, acc, e2, l2, g2⟩
    refine turn i H2 _ _ hi s2 fun v H3 s3 hv => ?_
    have e3 := s3 _ _ e2
    refine ⟨acc, e3, ?_, fun b o h => ?_, acc ++ [v], upd_same, ?_, fun j w hj => ?_⟩
    · rw [l2]
      exact Nat.lt_of_lt_of_le (show i < 10000 by omega) (by decide)
    · rw [upd_ne (ne_of_none h hD)]
      exact s3 _ _ (s2 _ _ h)
    · rw [List.length_append, l2]
      rfl
    · refine hG j w H3 _ (NL.at_ e3) ?_
      by_cases h : j < acc.length
      · rw [List.getElem?_append_left h] at hj
        exact hG j w H2 H3 (NL.of s3) (g2 j w hj)
      · rw [List.getElem?_append_right (by omega)] at hj
        have : j = i := by
          have := (List.getElem?_eq_some_iff.mp hj).1
          rw [List.length_singleton] at this
          omega
        subst this
        rw [l2, Nat.sub_self] at hj
        have : v = w := Option.some.inj hj
        subst this
        exact hv
  · rintro H' ⟨s, acc, e, l, g⟩
    exact fin H' acc s e l g
/-- [k for k in range(n) if a draw ..] -/
theorem lc_drawK {P : Int → Prop} {d D : Addr} {m n : Nat} {H1 : Hp} (hD : H1 D = none) (dr : Dr P d m H1) (hn : n ≤ 1000) {g : TG} {tt : TT} {te : TE} {vs : List Nat} {σ : L2.St} {Qd : Hp → Prop}
    (turn : ∀ (i : Nat) (H2 : Hp) (R : V → Hp → Prop) (C : Hp → Prop), i < n → Dr P d (m + i) H2 → (∀ H3, But d H2 H3 → Dr P d (m + i + 1) H3 → R (.int (i : Int)) H3 ∧ C H3) → g (.int (0 + i)) (wipe σ vs) H2 fun σ2 H2 => wipe σ2 vs = wipe σ vs ∧ tt σ2 H2 fun b H3 => if b = true then te σ2 H3 R else C H3)
    (fin : ∀ H' (ks : List Nat), (∀ k ∈ ks, k < n) → ks.length ≤ n → But d H1 H' → Dr P d (m + n) H' → H' D = some (.lst (ks.map fun (k : Nat) => V.int (k : Int))) → Qd H') :
    ∃ W : Nat → Nat → Hp → Prop, (∃ m, W 0 m (upd H1 D (.lst []))) ∧ ∀ i m H, W i m H →
      ((Itr 0 n).stop i H ∧ Qd H) ∨ ((Itr 0 n).go i H ∧ ∃ Nx : Hp → Prop, (∀ H', Nx H' → ∃ m', m' < m ∧ W (i + 1) m' H') ∧ ∀ x H', (Itr 0 n).yld i H x H' → g x (wipe σ vs) H' fun σ2 H2 => wipe σ2 vs = wipe σ vs ∧ tt σ2 H2 fun b H3 =>
        if b = true then te σ2 H3 fun y H4 => ∃ acc, H4 D = some (.lst acc) ∧ acc.length < sizeLine ∧ Nx (upd H4 D (.lst (acc ++ [y]))) else Nx H3) := by
  have nD : D ≠ d := dr.ne hD
  refine lc_range (lo := 0) (n := n) (fun i H' => ∃ ks : List Nat, (∀ k ∈ ks, k < n) ∧ ks.length ≤ i ∧ But d H1 H' ∧ Dr P d (m + i) H' ∧ H' D = some (.lst (ks.map fun (k : Nat) => V.int (k : Int)))) ⟨[], (fun _ h => nomatch h), Nat.le_refl _, But.new hD, dr.upd nD, upd_same⟩ ?_ ?_
  · rintro i H2 hi ⟨ks, hk, hl, b2, dr2, e2⟩
    refine turn i H2 _ _ hi dr2 fun H3 b3 dr3 => ⟨?_, ks, hk, by omega, b2.trans b3, dr3, b3 _ _ nD e2⟩
    refine ⟨_, b3 _ _ nD e2, ?_, ks ++ [i], ?_, ?_, ?_, ?_, ?_⟩
    · rw [List.length_map]
      exact Nat.lt_of_lt_of_le (show ks.length < 1001 by omega) (by decide)
    · intro k h
      rcases List.mem_append.mp h with h | h
      · exact hk k h
      · rw [List.mem_singleton.mp h]
        exact hi
    · rw [List.length_append, List.length_singleton]
      omega
    · exact (b2.trans b3).mut hD
    · exact (dr3.upd nD).mono (by omega)
    · rw [upd_same, List.map_append]
      rfl
  · rintro H' ⟨ks, hk, hl, b, dr', e⟩
    exact fin H' ks hk hl b dr' e
theorem in_ints (k : Nat) (S : List Nat) : inV (.int (k : Int)) (S.map fun (j : Nat) => V.int (j : Int)) = decide (k ∈ S) := by
  unfold inV
  rw [List.any_map]
  induction S with
  | nil => rfl
  | cons j S ih =>
    rw [List.any_cons, ih]
    show (((j : Int) == (k : Int)) || decide (k ∈ S)) = _
    rw [Bool.eq_iff_iff, Bool.or_eq_true, beq_iff_eq, decide_eq_true_eq, decide_eq_true_eq, List.mem_cons]
    constructor
    · rintro (h | h)
      · exact .inl (by omega)
      · exact .inr h
    · rintro (h | h)
      · exact .inl (by omega)
      · exact .inr h
theorem flat_ints (S : List Nat) : (S.map fun (j : Nat) => V.int (j : Int)).all flatV = true := by
  rw [List.all_eq_true]
  intro v hv
  obtain ⟨j, _, rfl⟩ := List.mem_map.mp hv
  rfl
end KA
namespace KA
open PySem PySem.SeqAt
open AutoSeq1 (wpAny_loadPart')
open MeetsSeq MeetsSeq2 MeetsSeq3 SeqRoads2
section
variable {prog : Program} {w : World} {A : Around} {R : Result → Shared → Prop}
/-- two lists whose items are equal, turn by turn: != is False -/
theorem ne_turns (p q : Addr) (N : Nat) (J : Nat → Shared → Prop) (hJ : GQ.ListI prog w A (fun e s' => R (.error e) s') p q N J)
    (done : ∀ s, J N s → R (.ok (.ret (.bool false))) s) : ∀ (k i : Nat), N - i = k → i ≤ N → ∀ s, J i s →
      wpAny (model prog w) A.in1 (Builtin.«list.__eq__.loop» ⟨[.ref p, .ref q, rawInt i, rawInt 3], []⟩) (GQ.FinOf prog w A R) (fun e s' => R (.error e) s') s
  | 0, i, hk, hi, s, hs => by
    obtain ⟨xs, ys, m, m2, gp, gq, zp, zq, _⟩ := hJ _ _ hs
    have iN : i = N := by omega
    have last : R (.ok (.ret (.bool false))) s := done s (iN ▸ hs)
    obtain ⟨hh, gg, dd, kk, oo⟩ := s
    wp_walk using wpAny_loadPart' gp, wpAny_loadPart' gq
    have n1 : xs[((i : Nat) : Int).toNat]? = none := by simp; omega
    have n2 : ys[((i : Nat) : Int).toNat]? = none := by simp; omega
    rw [n1, n2]
    wp_walk using wpAny_loadPart' gp, wpAny_loadPart' gq
    show R (.ok (.ret (.bool (xs.size != ys.size)))) _
    rw [zp, zq]
    simpa using last
  | k + 1, i, hk, hi, s, hs => by
    obtain ⟨xs, ys, m, m2, gp, gq, zp, zq, tn⟩ := hJ _ _ hs
    have ip : i < xs.size := by omega
    have iq : i < ys.size := by omega
    have tt := tn ip iq
    obtain ⟨hh, gg, dd, kk, oo⟩ := s
    wp_walk using wpAny_loadPart' gp, wpAny_loadPart' gq
    have n1 : xs[((i : Nat) : Int).toNat]? = some xs[i] := by simp [ip]
    have n2 : ys[((i : Nat) : Int).toNat]? = some ys[i] := by simp [iq]
    have up : ((i : Int) + 1) = ((i + 1 : Nat) : Int) := by omega
    rw [n1, n2]
    refine wpAny_bind (wpAny_mono tt (fun r s2 h2 => ?_) fun _ _ x => x)
    obtain ⟨er, h2⟩ := h2
    subst er
    have next := ne_turns p q N J hJ done k (i + 1) (by omega) (by omega) s2 h2
    obtain ⟨hh2, gg2, dd2, kk2, oo2⟩ := s2
    wp_walk
    rw [up]
    exact ⟨plainId_quiet plain_eq_loop _, codeAny_builtin entry_eq_loop (by rw [Around.under_plainId plain_eq_loop _]; exact next)⟩
theorem ne_lists (p q : Addr) (N : Nat) (J : Nat → Shared → Prop) (hJ : GQ.ListI prog w A (fun e s' => R (.error e) s') p q N J)
    (done : ∀ s, J N s → R (.ok (.ret (.bool false))) s) {s : Shared} (hs : J 0 s) :
    wpAny (model prog w) A.in1 (Builtin.«list.__ne__» ⟨[.ref p, .ref q], []⟩) (GQ.FinOf prog w A R) (fun e s' => R (.error e) s') s := by
  obtain ⟨xs, ys, m, m2, gp, gq, zp, zq, _⟩ := hJ _ _ hs
  have all := ne_turns (A := A) (R := R) p q N J hJ done _ 0 rfl (Nat.zero_le _) s hs
  obtain ⟨hh, gg, dd, kk, oo⟩ := s
  have sub := AutoSeq1.sub_list_list
  have same : ¬ (xs.size != ys.size) = true := by simp [zp, zq]
  wp_walk using wpAny_loadPart' gp, wpAny_loadPart' gq
  exact ⟨plainId_quiet plain_eq_loop _, codeAny_builtin entry_eq_loop (by rw [Around.under_plainId plain_eq_loop _]; exact all)⟩
end
section
variable {prog : Program} {w : World} {A : Around} {E : Value → Shared → Prop} {s : Shared}
theorem rc_ne {p q : Addr} {N : Nat} {Q : Value → Shared → Prop} (hu : A.units < cLine) (J : Nat → Shared → Prop) (hJ : GQ.ListI prog w A E p q N J)
    (done : ∀ s, J N s → Q (.bool false) s) (hs : J 0 s) : wpAny (model prog w) A (richCompare .NotEq (.ref p) (.ref q)) Q E s := by
  obtain ⟨xs, ys, m, m2, gp, gq, _, _, _⟩ := hJ _ _ hs
  refine wpAny_richCompare_same_room (op := .NotEq) ⟨_, gp, rfl⟩ ⟨_, gq, rfl⟩ F.slot_list_ne (GQ.call_here F.slot_list_ne ⟨_, gp, rfl⟩ F.entry_list_ne (F.args_list_ne_2 _ _) ?_) hu
  exact ne_lists (R := wants (fun v s' => v ≠ .notImplemented ∧ Q v s') E) p q N J hJ (fun s' z => ⟨(fun x => nomatch x), done s' z⟩) hs
end
open L2 in
/-- xs != ys, where the items are equal by their own == : False -/
def rNeG (D : Eqv) : R2 := fun x y H Q => DList D x y H ∧ ∀ H', Ext H H' → Q (.bl false) H'
open L2 in
theorem op_neG {X : Cx} {n : Nat} {D : Eqv} (hD : Mon D) (h : EqG X n D) (hr : Room (n + 1) X.A) : OpR X (compareOp .NotEq) (rNeG D) := by
  intro pins s σ H x y v u Q I rx ry hq
  obtain ⟨⟨a, b, xs, ys, rfl, rfl, ha, hb, p⟩, q⟩ := hq
  cases rx
  cases ry
  show wpAny (model X.prog X.w) X.A (richCompare .NotEq (.ref a) (.ref b)) (EP X pins σ Q) X.xe s
  refine rc_ne (N := xs.length) hr.units0 (fun _ s' => LoopI X pins σ H s') (fun i s' z => ?_) (fun s' z => ?_) ⟨H, I, Ext.rfl'⟩
  · obtain ⟨H1, I1, e1⟩ := id z
    obtain ⟨_, its, k, r, e⟩ := I1.hok a _ (e1 _ _ ha)
    obtain ⟨_, its2, k2, r2, e2⟩ := I1.hok b _ (e1 _ _ hb)
    exact ⟨its.toArray, its2.toArray, k, k2, e, e2, by rw [List.size_toArray, ← r.length], by rw [List.size_toArray, ← r2.length, ← p.1], fun g1 g2 => turnG hD h ⟨hr, rfl⟩ p r r2 i g1 g2 s' z⟩
  · obtain ⟨H1, I1, e1⟩ := z
    exact ⟨.bl false, H1, I1, rfl, q H1 e1⟩
end KA
namespace KA
open PySem PySem.Spec PyProof.Rows L2
/-! ### shares as pairs -/
/-- by what both are divided -/
def prt (n d : Int) : Int := if d < 0 then -(Int.gcd n d : Int) else (Int.gcd n d : Int)
def shr (n d : Int) : Int × Int := (n.fdiv (prt n d), d.fdiv (prt n d))
theorem gcd_pos {n d : Int} (h : d ≠ 0) : 0 < Int.gcd n d := by
  have : Int.gcd n d ≠ 0 := fun z => h (Int.gcd_eq_zero_iff.mp z).2
  omega
theorem prt_ne {n d : Int} (h : d ≠ 0) : prt n d ≠ 0 := by
  have := gcd_pos (n := n) h
  unfold prt
  split <;> omega
theorem prt_dvd1 (n d : Int) : prt n d ∣ n := by
  unfold prt
  split
  · exact Int.neg_dvd.mpr (Int.gcd_dvd_left ..)
  · exact Int.gcd_dvd_left ..
theorem prt_dvd2 (n d : Int) : prt n d ∣ d := by
  unfold prt
  split
  · exact Int.neg_dvd.mpr (Int.gcd_dvd_right ..)
  · exact Int.gcd_dvd_right ..
theorem shr1 (n d : Int) : prt n d * (shr n d).1 = n := by
  show prt n d * n.fdiv (prt n d) = n
  rw [Int.fdiv_eq_ediv_of_dvd (prt_dvd1 n d)]
  exact Int.mul_ediv_cancel' (prt_dvd1 n d)
theorem shr2 (n d : Int) : prt n d * (shr n d).2 = d := by
  show prt n d * d.fdiv (prt n d) = d
  rw [Int.fdiv_eq_ediv_of_dvd (prt_dvd2 n d)]
  exact Int.mul_ediv_cancel' (prt_dvd2 n d)
theorem shr_pos {n d : Int} (h : d ≠ 0) : 0 < (shr n d).2 := by
  have e := shr2 n d
  have g := gcd_pos (n := n) h
  by_cases hd : d < 0
  · have hp : prt n d < 0 := by unfold prt; rw [if_pos hd]; omega
    rcases Int.lt_trichotomy (shr n d).2 0 with z | z | z
    · have := Int.mul_pos_of_neg_of_neg hp z
      omega
    · rw [z] at e
      omega
    · exact z
  · have hp : 0 < prt n d := by unfold prt; rw [if_neg hd]; omega
    rcases Int.lt_trichotomy (shr n d).2 0 with z | z | z
    · have := Int.mul_neg_of_pos_of_neg hp z
      omega
    · rw [z] at e
      omega
    · exact z
theorem prt_abs (n d : Int) : (prt n d).natAbs = Int.gcd n d := by
  unfold prt
  split <;> omega
theorem shr_low {n d : Int} (h : d ≠ 0) : Int.gcd (shr n d).1 (shr n d).2 = 1 := by
  have g := gcd_pos (n := n) h
  have e : Int.gcd (prt n d * (shr n d).1) (prt n d * (shr n d).2) = (prt n d).natAbs * Int.gcd (shr n d).1 (shr n d).2 := Int.gcd_mul_left ..
  rw [shr1, shr2, prt_abs] at e
  have : Int.gcd n d * 1 = Int.gcd n d * Int.gcd (shr n d).1 (shr n d).2 := by omega
  exact (Nat.eq_of_mul_eq_mul_left g this).symm
/-- of the worth u over g -/
def Eqf (x : Int × Int) (u g : Int) : Prop := x.1 * g = u * x.2
theorem shr_eqf (n d : Int) : Eqf (shr n d) n d := by
  have a := shr1 n d
  have b := shr2 n d
  show (shr n d).1 * d = n * (shr n d).2
  generalize prt n d = p at a b
  generalize (shr n d).1 = x at a ⊢
  generalize (shr n d).2 = y at b ⊢
  subst a b
  grind
theorem eqf_trans {n d u g : Int} (h : d ≠ 0) (e : n * g = u * d) : Eqf (shr n d) u g := by
  have a := shr_eqf n d
  unfold Eqf at a ⊢
  refine Int.eq_of_mul_eq_mul_right h ?_
  grind
theorem eqf_plus {x y : Int × Int} {a b c d : Int} (hx : Eqf x a b) (hy : Eqf y c d) (x0 : 0 < x.2) (y0 : 0 < y.2) : Eqf (shr (x.1 * y.2 + y.1 * x.2) (x.2 * y.2)) (a * d + c * b) (b * d) := by
  unfold Eqf at hx hy
  refine eqf_trans (Int.mul_ne_zero (by omega) (by omega)) ?_
  grind
theorem eqf_minus {x y : Int × Int} {a b c d : Int} (hx : Eqf x a b) (hy : Eqf y c d) (x0 : 0 < x.2) (y0 : 0 < y.2) : Eqf (shr (x.1 * y.2 - y.1 * x.2) (x.2 * y.2)) (a * d - c * b) (b * d) := by
  unfold Eqf at hx hy
  refine eqf_trans (Int.mul_ne_zero (by omega) (by omega)) ?_
  grind
theorem eqf_times {x y : Int × Int} {a b c d : Int} (hx : Eqf x a b) (hy : Eqf y c d) (x0 : 0 < x.2) (y0 : 0 < y.2) : Eqf (shr (x.1 * y.1) (x.2 * y.2)) (a * c) (b * d) := by
  unfold Eqf at hx hy
  refine eqf_trans (Int.mul_ne_zero (by omega) (by omega)) ?_
  grind
def sgn (m : Int) : Int := if m < 0 then -1 else 1
theorem below_iff {x y : Int × Int} {a b c d : Int} (hx : Eqf x a b) (hy : Eqf y c d) (x0 : 0 < x.2) (y0 : 0 < y.2) (hb : b ≠ 0) (hd : d ≠ 0) : (x.1 * y.2 < y.1 * x.2) ↔ (sgn (b * d) * a * d < sgn (b * d) * c * b) := by
  unfold Eqf at hx hy
  have bd : b * d ≠ 0 := Int.mul_ne_zero hb hd
  have hp : 0 < sgn (b * d) * (b * d) := by
    unfold sgn
    split <;> omega
  have xy : 0 < x.2 * y.2 := Int.mul_pos x0 y0
  rw [← Int.mul_lt_mul_right hp, ← Int.mul_lt_mul_right (a := x.2 * y.2) (b := sgn (b * d) * a * d) xy]
  have e1 : x.1 * y.2 * (sgn (b * d) * (b * d)) = sgn (b * d) * a * d * (x.2 * y.2) := by grind
  have e2 : y.1 * x.2 * (sgn (b * d) * (b * d)) = sgn (b * d) * c * b * (x.2 * y.2) := by grind
  rw [e1, e2]
/-! ### sums -/
def PP : List (Int × Int) → Int
  | [] => 1
  | x :: l => x.2 * PP l
def NN : List (Int × Int) → Int
  | [] => 0
  | x :: l => x.1 * PP l + NN l * x.2
theorem PP_app : ∀ l m : List (Int × Int), PP (l ++ m) = PP l * PP m
  | [], m => by show PP m = 1 * PP m; omega
  | x :: l, m => by
    show x.2 * PP (l ++ m) = x.2 * PP l * PP m
    rw [PP_app l m, Int.mul_assoc]
theorem NN_app : ∀ l m : List (Int × Int), NN (l ++ m) = NN l * PP m + NN m * PP l
  | [], m => by
    show NN m = 0 * PP m + NN m * 1
    omega
  | x :: l, m => by
    show x.1 * PP (l ++ m) + NN (l ++ m) * x.2 = (x.1 * PP l + NN l * x.2) * PP m + NN m * (x.2 * PP l)
    rw [NN_app l m, PP_app l m]
    grind
theorem PP_snoc (l : List (Int × Int)) (x : Int × Int) : PP (l ++ [x]) = PP l * x.2 := by
  rw [PP_app]
  show PP l * (x.2 * 1) = _
  rw [Int.mul_one]
theorem NN_snoc (l : List (Int × Int)) (x : Int × Int) : NN (l ++ [x]) = NN l * x.2 + x.1 * PP l := by
  rw [NN_app]
  show NN l * (x.2 * 1) + (x.1 * 1 + 0 * x.2) * PP l = _
  grind
theorem PP_rev : ∀ l : List (Int × Int), PP l.reverse = PP l
  | [] => rfl
  | x :: l => by
    rw [List.reverse_cons, PP_snoc, PP_rev l]
    exact Int.mul_comm ..
theorem NN_rev : ∀ l : List (Int × Int), NN l.reverse = NN l
  | [] => rfl
  | x :: l => by
    rw [List.reverse_cons, NN_snoc, NN_rev l, PP_rev l]
    show NN l * x.2 + x.1 * PP l = x.1 * PP l + NN l * x.2
    omega
/-! ### sizes -/
def Sz (k : Nat) (n : Int) : Prop := n.natAbs < 2 ^ k
theorem Sz.mono {k m : Nat} {n : Int} (h : Sz k n) (e : k ≤ m) : Sz m n := Nat.lt_of_lt_of_le h (Nat.pow_le_pow_right (by decide) e)
theorem Sz.mul {k m : Nat} {a b : Int} (ha : Sz k a) (hb : Sz m b) : Sz (k + m) (a * b) := by
  unfold Sz
  rw [Int.natAbs_mul, Nat.pow_add]
  exact Nat.mul_lt_mul'' ha hb
theorem Sz.add {k : Nat} {a b : Int} (ha : Sz k a) (hb : Sz k b) : Sz (k + 1) (a + b) := by
  unfold Sz at *
  rw [Nat.pow_succ]
  omega
theorem Sz.sub {k : Nat} {a b : Int} (ha : Sz k a) (hb : Sz k b) : Sz (k + 1) (a - b) := by
  unfold Sz at *
  rw [Nat.pow_succ]
  omega
theorem Sz.mw {k m : Nat} {a b : Int} (ha : Sz k a) (hb : Sz m b) (h : k + m + 2 ≤ 1000000) : CMulW a b := wide_mul (ha.mono (Nat.le_succ k)) (hb.mono (Nat.le_succ m)) (by omega) (by omega) (by omega)
theorem Sz.div {k : Nat} {n d : Int} (p : Int) (h : Sz k n) (e : p * d = n) (hp : p ≠ 0) : Sz k d := by
  unfold Sz at *
  subst e
  rw [Int.natAbs_mul] at h
  refine Nat.lt_of_le_of_lt ?_ h
  exact Nat.le_mul_of_pos_left _ (by omega)
theorem shr_sz {k : Nat} {n d : Int} (hd : d ≠ 0) (hn : Sz k n) (h : Sz k d) : Sz k (shr n d).1 ∧ Sz k (shr n d).2 := ⟨hn.div (prt n d) (shr1 n d) (prt_ne hd), h.div (prt n d) (shr2 n d) (prt_ne hd)⟩
/-- // by any number but 0 below 2 ^ 9000 -/
def CDivX (_ j : Int) : Prop := j ≠ 0 ∧ j.natAbs.log2 < 9000
theorem op_fdivX {X : Cx} : OpR X (binaryOp .FloorDiv) (rI CDivX fun i j => .int (i.fdiv j)) := opI fun i j _ _ _ _ _ hc q => floordiv_int hc.1 q (.inl (PyProof.noPylong_of_log2 hc.2))
theorem gcd_turn (a b : Nat) (h : 0 < b) : Nat.gcd b (a % b) = Nat.gcd a b := by
  rw [Nat.gcd_comm a b, Nat.gcd_rec b a, Nat.gcd_comm]
theorem pg_tupK {X : Cx} {K' : PySem.W.Frag} (hK : X.K = K') {es : List Expr} {k : Nat} {pos : Pos} {t : TGs} {n : Nat} (hc : X.calm = true) (h : PGs X es t)
    (hn : (assignEach es X.env).length = n := by rfl) (hst : (assignEach es X.env).findIdx? (·.1) = none := by rfl) : PG X (.Tuple es k pos) (gTup K' n t) := by
  subst hK
  exact pg_tup hc h hn hst
end KA
namespace KA
open PySem PySem.Spec PyProof.Rows L2
/-- what isinstance asks of an own class -/
structure ICls (K : PySem.W.Frag) (C : Addr) : Prop where
  ha : PySem.W.findIn K (.ref C) "__class__" = some (some (.builtin "object.__class__"))
  hn : PySem.W.specialIn K (.builtin "object.__class__") "__get__" = some (some (.builtin "getset_descriptor.__get__"))
  htk : PySem.W.takesIn K (.builtin "object.__class__") = some true
  hm : PySem.W.mroIn K C (.type "object") = some true
  kit : PySem.W.kitOne K (.ref C) (.ref C) = some true
theorem ICls.ty {K : PySem.W.Frag} {C : Addr} (i : ICls K C) (cl : Cls K C) {H : Hp} {p dx : Addr} {fs : List (Str × V)} (h : H p = some (.ins C dx fs)) : TyX K H (.ref p) (.ref C) := .base (.ins h cl i.ha i.hn i.htk i.hm)
theorem prt_log {n d : Int} {k : Nat} (hd : d ≠ 0) (h : Sz k d) (hk : k ≤ 8000) : (prt n d).natAbs.log2 < 9000 := by
  rw [prt_abs]
  refine Nat.lt_of_lt_of_le (PySem.Flt.log2_lt_of (k := k + 1) (by omega) ?_) (by omega : k + 1 ≤ 9000)
  have : Int.gcd n d ≤ d.natAbs := Nat.le_of_dvd (by omega) (Int.gcd_dvd_natAbs_right n d)
  exact Nat.lt_of_le_of_lt this (h.mono (Nat.le_succ k))
theorem abs_nat (n : Int) : (if n < 0 then -n else n) = (n.natAbs : Int) := by
  split <;> omega
end KA
namespace KA
open PySem PySem.Spec PyProof.Rows L2
/-! ### isinstance of a caught error that has fields of its own -/
theorem xd_at {P : Program} {w : World} {H : Hp} {h : Heap} {dd : Addr} {fs : List (Str × V)} (hok : HOk P w H h) (e : H dd = some (.xd fs)) : ∃ od, h.get? dd = some od := by
  obtain ⟨mA, ⟨od, es, ep, ho, _⟩, _⟩ := (show ObjOk P w H h dd (.xd fs) from hok dd _ e)
  exact ⟨od, ho⟩
theorem kit_exc {K : PySem.W.Frag} {D x : Addr} {ox : Obj} {od : Option Obj} (C : ExcC K D) : PySem.W.KitX K (.ref x) (.ref D) (fun h => PySem.W.InstAt h x ox D od) :=
  PySem.W.kitx_exc (by obtain ⟨cd, hc, _⟩ := PySem.W.any_some C.hd; rw [hc]; rfl) C.hg C.hk C.hs C.ha C.hn C.ht C.hm
def rIsD (K : PySem.W.Frag) (a : Addr) (cls : Value) (d : Option Addr) : List V → Hp → VK → Prop := fun xs H Q => ∃ (D dd : Addr) (fs : List (Str × V)) (c : V) (u : Value) (b : Bool), xs = [.ref a, c] ∧ cls = .ref D ∧ d = some dd ∧ H dd = some (.xd fs) ∧ ExcC K D ∧ ClsV c u ∧ PySem.W.kitOne K (.ref D) u = some b ∧ Q (.bl b) H
def rIsDT (K : PySem.W.Frag) (a : Addr) (cls : Value) (d : Option Addr) : List V → Hp → VK → Prop := fun xs H Q => ∃ (D dd tp : Addr) (fs : List (Str × V)) (cs : List V) (us : List Value) (b : Bool), xs = [.ref a, .ref tp] ∧ cls = .ref D ∧ d = some dd ∧ H dd = some (.xd fs) ∧ ExcC K D ∧ H tp = some (.tup cs) ∧ Paired ClsV cs us ∧ PySem.W.kitAny K (.ref D) us = some b ∧ Q (.bl b) H
section
variable {X : Cx} {a : Addr} {oe : Obj} {cls : Value} {d : Option Addr} {pn : List (Addr × Obj)}
theorem inst_of {pins : List (Addr × Obj)} {σ : L2.St} {H : Hp} {s : Shared} {D dd : Addr} {fs : List (Str × V)} (hz : Zc (.ref D) (some dd) oe) (hf : ∃ vs, oe.data = .fields vs) (I : Inv (X.suite a ((a, oe) :: pn)) pins σ H s) (e : H dd = some (.xd fs)) : ∃ od, PySem.W.InstAt s.heap a oe D (some od) := by
  obtain ⟨hget, _⟩ := I.pin (a, oe) (List.mem_append.mpr (.inl List.mem_cons_self))
  obtain ⟨vs, hv⟩ := hf
  obtain ⟨od, ho⟩ := xd_at I.hok e
  exact ⟨od, hget, hz.1, by unfold PySem.W.notCls; rw [hv] <;> rfl, by rw [hz.2]; exact ho⟩
theorem call_isD (hz : Zc cls d oe) (hf : ∃ vs, oe.data = .fields vs) : CallR (X.suite a ((a, oe) :: pn)) (.builtin "isinstance") (rIsD X.K a cls d) := by
  intro pins s σ H xs us Q I r h
  obtain ⟨D, dd, fs, c, u, b, rfl, rfl, rfl, e, C, k, hk, q⟩ := h
  obtain ⟨u1, u2, rfl, r1, r2⟩ := vals2 r
  cases (show u1 = Value.ref a from r1)
  have e2 := k.eq r2
  subst e2
  obtain ⟨od, J⟩ := inst_of hz hf I e
  exact PySem.W.kia_one (kit_exc C) I.kIn J hk (fun z => nomatch z) fun tk => ⟨.bl b, H, I.tok tk, rfl, q⟩
theorem call_isDT (hz : Zc cls d oe) (hf : ∃ vs, oe.data = .fields vs) : CallR (X.suite a ((a, oe) :: pn)) (.builtin "isinstance") (rIsDT X.K a cls d) := by
  intro pins s σ H xs us Q I r h
  obtain ⟨D, dd, tp, fs, cs, ws, b, rfl, rfl, rfl, e, C, hT, k, hk, q⟩ := h
  obtain ⟨u1, u2, rfl, r1, r2⟩ := vals2 r
  cases (show u1 = Value.ref a from r1)
  cases (show u2 = Value.ref tp from r2)
  obtain ⟨od, J⟩ := inst_of hz hf I e
  obtain ⟨_, its, rv, o, h1, h2, n, h3⟩ := (show ObjOk X.prog X.w H s.heap tp (.tup cs) from I.hok tp _ hT)
  have e3 := ClsV.all k rv
  subst e3
  obtain ⟨oc, od', dt, sl⟩ := o
  simp only at h2 h3
  subst h2 h3
  exact PySem.W.kia_tup (kit_exc C) I.kIn J h1 hk (fun z => nomatch z) fun tk => ⟨.bl b, H, I.tok tk, rfl, q⟩
end
theorem call_isiS {X : Cx} {K' : PySem.W.Frag} (hK : X.K = K') : CallR X (.builtin "isinstance") (rIsi K') := by
  subst hK
  exact call_isi
/-! ### calls that let nothing out, bodies that are never run -/
theorem passF {X : Cx} : Passes (L2.CX X.prog X.w) X E0 := passes_call takes0 (fun _ _ _ _ h => h)
/-! ### keywords: which of what is handed in, of the defaults, of the keywords stands where -/
def kw1 {α : Type} (p : Nat × Nat) (us its ws : List α) : List α := match p with
  | (0, i) => us[i]?.toList
  | (1, i) => its[i]?.toList
  | (_, i) => ws[i]?.toList
def kw {α : Type} : List (Nat × Nat) → List α → List α → List α → List α
  | [], _, _, _ => []
  | p :: f, us, its, ws => kw1 p us its ws ++ kw f us its ws
theorem vals_at : ∀ {xs : List V} {us : List Value}, Vals xs us → ∀ i : Nat, (xs[i]? = none ∧ us[i]? = none) ∨ ∃ x u, xs[i]? = some x ∧ us[i]? = some u ∧ RelV x u
  | _, _, .nil, _ => .inl ⟨rfl, rfl⟩
  | _, _, .cons r _, 0 => .inr ⟨_, _, rfl, rfl, r⟩
  | _, _, .cons _ t, i + 1 => by
    rw [List.getElem?_cons_succ, List.getElem?_cons_succ]
    exact vals_at t i
theorem vals_one {xs : List V} {us : List Value} (h : Vals xs us) (i : Nat) : Vals xs[i]?.toList us[i]?.toList := by
  rcases vals_at h i with ⟨e1, e2⟩ | ⟨x, u, e1, e2, r⟩
  · rw [e1, e2]
    exact .nil
  · rw [e1, e2]
    exact .cons r .nil
theorem kw_rel : ∀ (f : List (Nat × Nat)) {vs ds zs : List V} {us is ws : List Value}, Vals vs us → Vals ds is → Vals zs ws → Vals (kw f vs ds zs) (kw f us is ws)
  | [], _, _, _, _, _, _, _, _, _ => .nil
  | (0, i) :: f, _, _, _, _, _, _, h1, h2, h3 => (vals_one h1 i).append (kw_rel f h1 h2 h3)
  | (1, i) :: f, _, _, _, _, _, _, h1, h2, h3 => (vals_one h2 i).append (kw_rel f h1 h2 h3)
  | (_ + 2, i) :: f, _, _, _, _, _, _, h1, h2, h3 => (vals_one h3 i).append (kw_rel f h1 h2 h3)
/-! ### PearlError's own way: one field -/
def spPearl (K : PySem.W.Frag) (f : Str) : Sp := fun vs H Q _ => ∃ (a C : Addr) (v : V), vs = [.ref a, v] ∧ OexC K C ∧ PySem.W.findIn K (.ref C) f = some none ∧ H a = some (exo a C none) ∧
  ∀ dx, H dx = none → dx ≠ a → Q .non (upd (upd H dx (exd dx [(f, v)])) a (exo a C (some dx)))
theorem pearl_same {H : Hp} {a dx : Addr} {o1 o2 o3 : HO} {fs : List (Str × V)} (ha : H a = none) (hd : H dx = none) : Same H (upd (del (upd (upd (upd H a o1) dx o2) a o3) a) dx (.xd fs)) := fun b o e => by
  rw [upd_ne (ne_of_none e hd), del_ne (ne_of_none e ha), upd_ne (ne_of_none e ha), upd_ne (ne_of_none e hd), upd_ne (ne_of_none e ha)]
  exact e
end KA
/-! errors of own classes over any built-in class of errors: made, stored into -/
namespace KA
open PySem PySem.W PySem.Calls PyProof.Rows
section
open Builtin Builtin.ObjectAttr
variable {prog : Program} {w : World} {A : Around} {E : Value → Shared → Prop} {R : Result → Shared → Prop} {hp : Heap} {g : Array GenState} {d : Drawn} {t : Nat} {os : OsState} {B : String} {bmB : List Value}
theorem gosa {K : W.Frag} {name : Str} {tk : Tok} {v : Value} {x C : Addr} {fv : Array Value} {cd : ClassData} {bm : List Value} (SF : StoreFacts B bmB "object.__setattr__" "object")
    (X : K.In hp) (hx : hp.get? x = some { cls := .ref C, data := .fields fv }) (hcd : W.clsIn K C = some cd) (hmr : cd.mro = .ref C :: bm) (hm : W.excTail bmB bm = true) (hh : cd.hasDict = true) (ha : W.findIn K (.ref C) name = some none)
    (hq : ∀ h' tk' dx, (∀ b o, b ≠ x → hp.get? b = some o → h'.get? b = some o) → hp.objs.size ≤ dx → dx ≠ x → h'.get? x = some { cls := .ref C, dict := some dx, data := .fields fv } →
      h'.Ns1 dx (fun y => if y = name then some v else none) → R (.ok (.ret .none)) ⟨h', g, d, tk', os⟩) :
    codeAny (model prog w) A (.call (.builtin "object.__setattr__") ⟨[.ref x, .str name tk, v], []⟩) R ⟨hp, g, d, t, os⟩ := by
  have I : W.InstAt hp x { cls := .ref C, data := .fields fv } C none := ⟨hx, rfl, rfl, trivial⟩
  have hxs : x ≠ hp.objs.size := Nat.ne_of_lt (Heap.lt_size hx)
  have tl : W.excTail bmB cd.mro = true := by rw [hmr]; exact hm
  have hob : cd.mro.contains (.type "object") = true := (W.excTail_contains "object" _ tl).trans SF.hasOwner
  have sub : W.Looks (model prog w) hp (isInstance (.ref x) (.type "object")) true := I.type.andThen (W.looks_mroIn X (by unfold W.mroIn; rw [hcd, Option.bind_some, if_neg (by rw [hmr]; simp), hob]))
  have SO := F.store_object
  refine codeAny_call_builtin SO.slot.plain SO.entry (@W.check_slot (model prog w) _ _ ⟨hp, g, d, t, os⟩ "object.__setattr__" "object" "__setattr__" (.ref x) [.str name tk, v] [] _ SO.kind SO.split sub (SO.args (.ref x) (.str name tk) v) ?_)
  have L1 : W.Looks (model prog w) hp (mroOf (.ref C)) cd.mro := (W.looks_clsIn X hcd).andThen .now
  have L2 : W.Looks (model prog w) hp (storeTaker? none) none := .now
  have L3 : W.Looks (model prog w) hp (classData C) cd := W.looks_clsIn X hcd
  rw [W.osa_eq, refuse_eq]
  refine wpAny_bind (wpAny_bind (I.type.at (wpAny_bind (L1.at ?_))))
  rw [W.excTail_pass _ (SF.passes _) _ tl]
  refine wpAny_pure (wpAny_bind (I.type.at (wpAny_bind ((W.looks_findIn X ha).at (wpAny_bind (L2.at ?_))))))
  show wpAny _ _ (storeInOwnDict (.ref x) (.ref C) (.str name tk) name v false) _ _ _
  obtain ⟨nm, bs, mro, ns, qn, hd, sn, sb, ab, col, del⟩ := cd
  dsimp only at hh
  subst hh
  unfold storeInOwnDict ownDictForStores
  repeat (first | with_reducible refine HandSPX.store_in_new ?_ ?_ | with_reducible refine wpAny_loadPart_at hx ?_ | with_reducible refine L3.at ?_ | wp_step)
  · exact ⟨_, #[], _, (Heap.get?_update_ne _ _ _ _ hxs.symm).trans (Heap.get?_push_at rfl rfl), rfl, fun e he => absurd he (by simp), fun _ => rfl⟩
  · intro h' tk' hn' hs
    have hx₁ : (hp.push { cls := .type "dict", data := .dict #[] }).get? x = some { cls := .ref C, data := .fields fv } := Heap.get?_push_of_some _ hx
    refine hq h' tk' hp.objs.size (fun b o hb ho => ?_) (Nat.le_refl _) hxs.symm ?_ hn'
    · exact (hs.2 b (Nat.ne_of_lt (Heap.lt_size ho))).trans ((Heap.get?_update_ne _ _ _ _ hb).trans (Heap.get?_push_of_some _ ho))
    · exact (hs.2 x hxs).trans (Heap.get?_update_self _ hx₁ rfl)
theorem gosa_old {K : W.Frag} {name : Str} {tk : Tok} {v : Value} {x C dx : Addr} {fv : Array Value} {cd : ClassData} {bm : List Value} {m0 : Str → Option Value} {nl : List Str} (SF : StoreFacts B bmB "object.__setattr__" "object")
    (X : K.In hp) (hx : hp.get? x = some { cls := .ref C, dict := some dx, data := .fields fv }) (hns : hp.Ns1 dx m0) (hw : Within m0 nl) (hz : nl.length ≤ 1000) (hcd : W.clsIn K C = some cd) (hmr : cd.mro = .ref C :: bm) (hm : W.excTail bmB bm = true) (hh : cd.hasDict = true)
    (ha : W.findIn K (.ref C) name = some none)
    (hq : ∀ h' tk', (∀ b o, b ≠ dx → hp.get? b = some o → h'.get? b = some o) → h'.Ns1 dx (fun y => if y = name then some v else m0 y) → R (.ok (.ret .none)) ⟨h', g, d, tk', os⟩) :
    codeAny (model prog w) A (.call (.builtin "object.__setattr__") ⟨[.ref x, .str name tk, v], []⟩) R ⟨hp, g, d, t, os⟩ := by
  obtain ⟨oD, esD, epD, hoD, hdD, _⟩ := hns.count hw
  have I : W.InstAt hp x { cls := .ref C, dict := some dx, data := .fields fv } C (some oD) := ⟨hx, rfl, rfl, hoD⟩
  have tl : W.excTail bmB cd.mro = true := by rw [hmr]; exact hm
  have hob : cd.mro.contains (.type "object") = true := (W.excTail_contains "object" _ tl).trans SF.hasOwner
  have sub : W.Looks (model prog w) hp (isInstance (.ref x) (.type "object")) true := I.type.andThen (W.looks_mroIn X (by unfold W.mroIn; rw [hcd, Option.bind_some, if_neg (by rw [hmr]; simp), hob]))
  have SO := F.store_object
  refine codeAny_call_builtin SO.slot.plain SO.entry (@W.check_slot (model prog w) _ _ ⟨hp, g, d, t, os⟩ "object.__setattr__" "object" "__setattr__" (.ref x) [.str name tk, v] [] _ SO.kind SO.split sub (SO.args (.ref x) (.str name tk) v) ?_)
  have L1 : W.Looks (model prog w) hp (mroOf (.ref C)) cd.mro := (W.looks_clsIn X hcd).andThen .now
  have L2 : W.Looks (model prog w) hp (storeTaker? none) none := .now
  have L3 : W.Looks (model prog w) hp (classData C) cd := W.looks_clsIn X hcd
  rw [W.osa_eq, refuse_eq]
  refine wpAny_bind (wpAny_bind (I.type.at (wpAny_bind (L1.at ?_))))
  rw [W.excTail_pass _ (SF.passes _) _ tl]
  refine wpAny_pure (wpAny_bind (I.type.at (wpAny_bind ((W.looks_findIn X ha).at (wpAny_bind (L2.at ?_))))))
  show wpAny _ _ (storeInOwnDict (.ref x) (.ref C) (.str name tk) name v false) _ _ _
  obtain ⟨nm, bs, mro, ns, qn, hd, sn, sb, ab, col, del⟩ := cd
  dsimp only at hh
  subst hh
  unfold storeInOwnDict ownDictForStores
  repeat (first | with_reducible refine OEX.store_in_old hns hw hz ?_ | with_reducible refine wpAny_loadPart_at hx ?_ | with_reducible refine L3.at ?_ | wp_step)
  intro h' tk' hn' hs
  exact hq h' tk' (fun b o hb ho => (hs.2 b hb).trans ho) hn'
end
end KA
namespace KA
open PySem PySem.Spec PyProof.Rows L2
/-- what the written part says of a class of errors over the built-in one B -/
structure OexB (newId : String) (bmB : List Value) (K : PySem.W.Frag) (C : Addr) : Prop where
  cls : ∃ nm q N bs bm sn sub ab col dd k0 k1 k2 k3 k5, K.lookup C = some (excClassObj nm q C N bs bm true sn sub ab col dd k0 k1 k2 k3 k5 newId) ∧ PySem.W.excTail bmB bm = true
  sa : PySem.W.findIn K (.ref C) "__setattr__" = some (some (.builtin "object.__setattr__"))
  exC : PySem.W.subIn K (.ref C) (.type "BaseException") = some true
  tyC : PySem.W.typeIn K (.ref C) = some (.type "type")
  kC : PySem.W.keepIn K (.ref C) = true
section
variable {X : Cx} {pins : List (Addr × Obj)} {σ : L2.St} {H : Hp} {s : Shared} {a C dx : Addr} {f : Str} {y : V} {u : Value} {fs : List (Str × V)} {Q : Unit → Shared → Prop} {E : Value → Shared → Prop} {A : Around} {B newId initId : String} {bmB : List Value}
theorem gost_new (SF : StoreFacts B bmB "object.__setattr__" "object") (T : OexB newId bmB X.K C) (I : L2.Inv X pins σ H s) (e : H a = some (exo a C none)) (hno : PySem.W.findIn X.K (.ref C) f = some none) (ry : RelV y u)
    (h : ∀ dx s', H dx = none → dx ≠ a → L2.Inv X pins σ (upd (upd H dx (exd dx [(f, y)])) a (exo a C (some dx))) s' → Q () s') : wpAny (model X.prog X.w) A (setAttr (.ref a) f u) Q E s := by
  obtain ⟨nm, q, N, bs, bm, sn, sub, ab, col, dd, k0, k1, k2, k3, k5, hC, hbm⟩ := T.cls
  have hcl : PySem.W.clsIn X.K C = some { name := nm, bases := bs, mro := .ref C :: bm, ns := N, qualname := q, hasDict := true, slotNames := sn, subclasses := sub, abstract := ab, collection := col, hasDel := false } := by unfold PySem.W.clsIn; rw [hC] <;> rfl
  obtain ⟨t1, ho⟩ := exo_at I.hok e
  obtain ⟨hp, g, d, t, os⟩ := s
  refine PySem.W.set_plain I.kIn (ox := { cls := .ref C, dict := none, data := .fields #[.ref t1, .none, .none, .none, .bool false, .none] }) (od := none) ⟨ho, rfl, rfl, trivial⟩ T.sa ?_
  refine gosa SF I.kIn ho hcl rfl hbm rfl hno (fun h' tk' dx k dn dne hx hn => ?_)
  have hnd : H dx = none := I.hok.fresh dn
  have nd : ∀ {b : Addr} {o : Obj}, hp.get? b = some o → b ≠ dx := fun {b o} q => Nat.ne_of_lt (Nat.lt_of_lt_of_le (Heap.lt_size q) dn)
  have na : ∀ {b : Addr}, H b = none → b ≠ a := fun {b} n z => by
    rw [z, e] at n
    cases n
  have U : Un X.fs [] H (upd (upd H dx (exd dx [(f, y)])) a (exo a C (some dx))) hp h' := {
    keep := fun b o q n _ _ => k b o (na n) q
    slot := fun b o q n _ _ => ⟨o.slots, k b o (na n) q⟩
    free := fun b o q n _ => by rw [upd_ne (na n), upd_ne (nd q)]; exact n
    there := fun b o q _ => by
      by_cases hb : b = a
      · exact ⟨_, by rw [hb]; exact hx⟩
      · exact ⟨o, k b o hb q⟩
    tups := fun b xs q => by rw [upd_ne (at_ne e q exo_tup), upd_ne (ne_of_none q hnd)]; exact q
    frzs := fun b o v q => by rw [upd_ne (at_ne e q exo_frz), upd_ne (ne_of_none q hnd)]; exact q
    tbls := fun b ps q => ⟨#[], by rw [upd_ne (at_ne e q exo_tbl), upd_ne (ne_of_none q hnd), q]; simp⟩ }
  refine h dx _ hnd dne (I.un (t' := tk') U fun b o q => ?_)
  by_cases hb : b = a
  · subst hb
    rw [upd_same] at q
    cases q
    exact exo_ok hx
  · rw [upd_ne hb] at q
    by_cases hd : b = dx
    · subst hd
      rw [upd_same] at q
      cases q
      exact exd_ok hn (relO_put (fs := []) ry fun g => True.intro)
    · rw [upd_ne hd] at q
      exact (I.hok b o q).stay (fun c v hc z => k c v (by
          rcases hc with hc | hc
          · rw [hc]
            exact hb
          · exact at_ne e hc exo_own) z)
        (fun c hc => by rw [upd_ne (at_ne e hc exo_own), upd_ne (ne_of_none hc hnd)]; exact hc) (fun c xs hc => by rw [upd_ne (at_ne e hc exo_tup), upd_ne (ne_of_none hc hnd)]; exact hc)
theorem gost_old (SF : StoreFacts B bmB "object.__setattr__" "object") (T : OexB newId bmB X.K C) (I : L2.Inv X pins σ H s) (e : H a = some (exo a C (some dx))) (ed : H dx = some (exd dx fs)) (hl : fs.length ≤ 900) (hno : PySem.W.findIn X.K (.ref C) f = some none) (ry : RelV y u)
    (h : ∀ s', L2.Inv X pins σ (upd H dx (exd dx ((f, y) :: fs))) s' → Q () s') : wpAny (model X.prog X.w) A (setAttr (.ref a) f u) Q E s := by
  obtain ⟨nm, q, N, bs, bm, sn, sub, ab, col, dd, k0, k1, k2, k3, k5, hC, hbm⟩ := T.cls
  have hcl : PySem.W.clsIn X.K C = some { name := nm, bases := bs, mro := .ref C :: bm, ns := N, qualname := q, hasDict := true, slotNames := sn, subclasses := sub, abstract := ab, collection := col, hasDel := false } := by unfold PySem.W.clsIn; rw [hC] <;> rfl
  obtain ⟨t1, ho⟩ := exo_at I.hok e
  obtain ⟨mA, hns, rel⟩ := exd_at I.hok ed
  have hw := within_of rel
  obtain ⟨hp, g, d, t, os⟩ := s
  obtain ⟨oD, _, _, hoD, _, _⟩ := hns.count hw
  refine PySem.W.set_plain I.kIn (ox := { cls := .ref C, dict := some dx, data := .fields #[.ref t1, .none, .none, .none, .bool false, .none] }) (od := some oD) ⟨ho, rfl, rfl, hoD⟩ T.sa ?_
  refine gosa_old SF I.kIn ho hns hw (by rw [List.length_map]; omega) hcl rfl hbm rfl hno (fun h' tk' k hn => ?_)
  have hd : ∃ o, h'.get? dx = some o := by
    obtain ⟨o, _, _, e', _⟩ := hn
    exact ⟨o, e'⟩
  exact h _ (I.write (t' := tk') (x := dx) (e := dx) (o := exd dx ((f, y) :: fs)) (by rw [ed]; exact True.intro) (.inl rfl) k hd (exd_ok hn (relO_put ry rel)))
theorem goinit {us : List Value} {Q : Value → Shared → Prop} (FB : ExcBaseFacts B newId initId bmB) (T : OexB newId bmB X.K C) (I : L2.Inv X pins σ H s) (e : H a = some (exo a C none)) (hl : us.length ≤ sizeLine) (h : ∀ s', L2.Inv X pins σ H s' → Q .none s') :
    wpAny (model X.prog X.w) A (call (.builtin initId) (.ref a :: us)) Q E s := by
  obtain ⟨nm, q, N, bs, bm, sn, sub, ab, col, dd, k0, k1, k2, k3, k5, hC, hbm⟩ := T.cls
  obtain ⟨t1, ho⟩ := exo_at I.hok e
  obtain ⟨hp, g, d, t, os⟩ := s
  refine wpAny_call (PySem.HandSPX.init_base FB (fun Y => PySem.W.excTail_contains Y bm hbm) (I.kIn _ _ hC) ho hl fun h' t2 k hx => ?_)
  have J := I.write (t' := t) (x := a) (e := a) (o := exo a C none) (by rw [e]; exact True.intro) (.inl rfl) k ⟨_, hx⟩ (exo_ok hx)
  have eu : upd H a (exo a C none) = H := by
    funext b
    by_cases hb : b = a
    · rw [hb, upd_same, e]
    · rw [upd_ne hb]
  rw [eu] at J
  exact h _ J
end
/-- B.__init__(self, ..) -/
def tBI (newId : String) (bmB : List Value) (K : PySem.W.Frag) (ta : TA) : TE := fun σ H Q => ta σ H fun vs H1 => ∃ (a C : Addr) (ws : List V), vs = .ref a :: ws ∧ ws.length ≤ 1000 ∧ OexB newId bmB K C ∧ H1 a = some (exo a C none) ∧ Q .non H1
/-- self.f = e -/
def tOstB (newId : String) (bmB : List Value) (K : PySem.W.Frag) (f : Str) (to te : TE) : TS := fun D σ H => te σ H fun y H1 => to σ H1 fun x H2 => ∃ a C : Addr, x = .ref a ∧ OexB newId bmB K C ∧ PySem.W.findIn K (.ref C) f = some none ∧
  ((H2 a = some (exo a C none) ∧ ∀ dx, H2 dx = none → dx ≠ a → D.nx σ (upd (upd H2 dx (exd dx [(f, y)])) a (exo a C (some dx)))) ∨
    ∃ (dx : Addr) (fs : List (Str × V)), H2 a = some (exo a C (some dx)) ∧ H2 dx = some (exd dx fs) ∧ fs.length ≤ 900 ∧ D.nx σ (upd H2 dx (exd dx ((f, y) :: fs))))
section
variable {X : Cx} {o e : Expr} {es : List Expr} {to te : TE} {ta : TA} {f : Str} {p p' p1 p2 pos : Pos} {B newId initId : String} {bmB : List Value}
/-- B.__init__(self, ..) of a built-in class of errors -/
theorem pe_binit {pl : Sem Bool} {x : Str} (FB : ExcBaseFacts B newId initId bmB) (hg : Gl X x) (hm : X.mg x = none) (hv : bootBuiltins x = some (.type B)) (htp : typeOf (.type B) = pure (.type "type")) (hst : Manifest.isStub B = false) (hhi : PySem.W.handedIn (.builtin initId) = true)
    (vV : PySem.W.findCls X.K (.type B) (.type "type") "__init__" = some (.val (.builtin initId))) (ha : PA X (e :: es) ta)
    (hc : eval (.Call (.Attribute (.Name x p1) "__init__" p2) (e :: es) [] pos) X.env = (do
      let ov ← eval (.Name x p1) X.env
      standAt p2.atName
      let (f, first) ← holding [ov] (getMethod ov "__init__" pl)
      callWith pos f first (backTo pos (starEach (e :: es) X.env)) (backToKw pos (keywordEach [] X.env))) := by rfl)
    (he : starEach (e :: es) X.env = (false, eval e X.env) :: starEach es X.env := by rfl) (hpl : (backTo pos (starEach es X.env)).any (·.1) = false := by rfl) (hn : x ≠ "__name__" := by decide) (hdb : (x == ("__debug__" : Str)) = false := by decide) :
    PE X (.Call (.Attribute (.Name x p1) "__init__" p2) (e :: es) [] pos) (tBI newId bmB X.K ta) := by
  refine ⟨fun pins s σ H Q I h => ?_⟩
  refine PySem.W.methodCall_KW (ld_blt I hg hm hv ?_ hn hdb) hc
  obtain ⟨m, fr⟩ := I.fr
  refine PySem.W.method_type fr I.ok.mod.kin htp hst vV hhi ?_
  show wpAny _ _ (callWith pos (Value.builtin initId) [] (backTo pos (starEach (e :: es) X.env)) []) _ _ _
  refine PyProof.Rows.callWith_method1 (thn (ha.run pos pins _ σ H _ (I.tok _) h) fun us s1 ⟨vs, H1, I1, r1, a, C, ws, ev, hl, T, ea, q⟩ => ?_) he hpl
  subst ev
  cases r1 with
  | @cons _ u0 _ ur ra rw' =>
    obtain rfl : u0 = Value.ref a := ra
    have hlen : ur.length ≤ sizeLine := by
      rw [← Paired.length rw', sizeLine_eq]
      omega
    exact goinit FB T I1 ea hlen fun s' J => ⟨.non, H1, J, rfl, q⟩
theorem ps_ostB (SF : StoreFacts B bmB "object.__setattr__" "object") (ho : PE X o to) (he : PE X e te) (hs : swapsWith e (some (.Attribute o f p')) pos.line X.env = pure false := by rfl) : PS X (.Assign [.Attribute o f p'] e pos) (tOstB newId bmB X.K f to te) := by
  refine ⟨fun pins s σ H D I h => ?_⟩
  refine plainObj_wpAny_Assign_Attribute (thn (he.run pins s σ H _ I h) fun v s1 ⟨y, H1, I1, r1, q1⟩ => thn (ho.run pins s1 σ H1 _ I1 q1) fun u s2 ⟨x, H2, I2, r2, a, C, ex, T, hno, q⟩ => ?_) hs
  subst ex
  obtain rfl : u = Value.ref a := r2
  rcases q with ⟨ea, q⟩ | ⟨dx, fs, ea, ed, hl, q⟩
  · exact gost_new SF T I2 ea hno r1 fun dx s' n ne J => ⟨σ, _, J, q dx n ne⟩
  · exact gost_old SF T I2 ea ed hl hno r1 fun s' J => ⟨σ, _, J, q⟩
theorem pmk_gex {CX : CXT} {x : Str} {C fI : Addr} {k : Nat} {fd : FuncData} {ps : List Str} {sp : Sp} {ds : List Value} {dvs : List V} (FB : ExcBaseFacts B newId initId bmB) (T : OexB newId bmB X.K C) (iC : PySem.W.findIn X.K (.ref C) "__init__" = some (some (.ref fI))) (tI : PySem.W.typeIn X.K (.ref fI) = some (.type "function"))
    (F1 : FnOk X.prog X.w X.K X.mg X.base CX k fI fd ps sp) (hr : Room (k + 1) X.A) (hb : Binds X.K fd ps ds) (hd : Vals dvs ds) (hx : Passes CX X (fun _ _ _ => False)) (hg : Gl X x) (hm : X.mg x = some (.ref C)) (ha : PA X (e :: es) ta)
    (hdb : (x == ("__debug__" : Str)) = false := by decide) (he : starEach (e :: es) X.env = (false, eval e X.env) :: starEach es X.env := by rfl) (hpl : (backTo pos (starEach es X.env)).any (·.1) = false := by rfl) :
    PMk X (.Call (.Name x p) (e :: es) [] pos) (tMkO C sp dvs ta) := by
  intro pins s σ H Q I h
  obtain ⟨nm, q, N, bs, bm, sn, sub, ab, col, dd, k0, k1, k2, k3, k5, hC, hbm⟩ := T.cls
  refine wpAny_Call_Name_kw (ld_glob I hg hm ?_ hdb)
  refine PySem.W.callWith_K (h₀ := X.base) I.ok.mod.kin T.kC (thn (ha.run pos pins s σ H _ I h) fun us s1 ⟨vs, H1, I1, r1, hz, q1⟩ => ⟨I1.kIn, ?_⟩) he hpl
  show wpAny _ _ (call (.ref C) us) _ _ _
  obtain ⟨hp, g, dr, tk, os⟩ := s1
  have hsz : hp.objs.size ≤ hp.objs.size + 1 := Nat.le_succ _
  have hn : H1 (hp.objs.size + 1) = none := I1.hok.fresh hsz
  have hq := q1 (hp.objs.size + 1) hn
  have kk : ∀ b o, hp.get? b = some o → ((hp.push (PySem.W.kdv_tup us)).push (PySem.HandSPX.excO C hp.objs.size)).get? b = some o := fun b o e => Heap.get?_push_of_some _ (Heap.get?_push_of_some _ e)
  have hget : ((hp.push (PySem.W.kdv_tup us)).push (PySem.HandSPX.excO C hp.objs.size)).get? (hp.objs.size + 1) = some (PySem.HandSPX.excO C hp.objs.size) := by heap_get
  have I2 : L2.Inv X pins σ (upd H1 (hp.objs.size + 1) (exo (hp.objs.size + 1) C none)) ⟨(hp.push (PySem.W.kdv_tup us)).push (PySem.HandSPX.excO C hp.objs.size), g, dr, tk, os⟩ :=
    I1.laid (t' := tk) (a := hp.objs.size + 1) (o := exo (hp.objs.size + 1) C none) (h' := (hp.push (PySem.W.kdv_tup us)).push (PySem.HandSPX.excO C hp.objs.size)) kk hsz (exo_ok hget)
  have r2 : Vals (V.ref (hp.objs.size + 1) :: (vs ++ dvs)) (Value.ref (hp.objs.size + 1) :: (us ++ ds)) := .cons rfl (r1.append hd)
  have hl : (Value.ref (hp.objs.size + 1) :: us ++ ds).length = ps.length := by
    have e := r2.length
    rw [F1.len _ _ _ _ hq] at e
    exact e.symm
  have hus : us.length ≤ sizeLine := by
    rw [← Paired.length r1, sizeLine_eq]
    omega
  refine wpAny_call (PySem.HandSPX.call_own FB (fun Y => PySem.W.excTail_contains Y bm hbm) (I1.kIn _ _ hC) (PySem.W.looks_findIn I1.kIn iC) (fun self => PySem.W.bind_fn I1.kIn self tI) hus
    (codeAny_mono (F1.run _ X.stack _ _ ⟨Value.ref (hp.objs.size + 1) :: us, []⟩ (Value.ref (hp.objs.size + 1) :: (us ++ ds)) _ _ (fun _ _ _ => False) (hr.make C us []) (I2.env0.make C us []) (hb _ (Value.ref (hp.objs.size + 1) :: us) I2.kIn hl) r2 hq) fun r s' hq' => ?_))
  cases r with
  | error er => exact hx pins σ _ _ er s' I2 hq'
  | ok fl =>
    cases fl with
    | ret u =>
      obtain ⟨v, H2, os2, bare2, un2, hok2, rv, ev, d, fs, ea, ed, hd1, q2⟩ := hq'
      subst ev
      obtain ⟨h2, g2, d2, t2, os'⟩ := s'
      exact ⟨rv, mk_end (raises_own T.exC T.tyC) I1 hsz kk un2 hok2 os2 bare2 ea ed hd1 q2⟩
    | next => exact False.elim hq'
    | brk => exact False.elim hq'
    | cont => exact False.elim hq'
end
/-- what a B.__init__ + one field of its own promises: E(v) with field f -/
def spErr (newId : String) (bmB : List Value) (K : PySem.W.Frag) (f : Str) : Sp := fun vs H Q _ => ∃ (a C : Addr) (v : V), vs = [.ref a, v] ∧ OexB newId bmB K C ∧ PySem.W.findIn K (.ref C) f = some none ∧ H a = some (exo a C none) ∧
  ∀ dx, H dx = none → dx ≠ a → Q .non (upd (upd H dx (exd dx [(f, v)])) a (exo a C (some dx)))
abbrev zdT : List Value := [.type "ZeroDivisionError", .type "ArithmeticError", .type "Exception", .type "BaseException", .type "object"]
abbrev ixT : List Value := [.type "IndexError", .type "LookupError", .type "Exception", .type "BaseException", .type "object"]
abbrev luT : List Value := [.type "LookupError", .type "Exception", .type "BaseException", .type "object"]
theorem typ_ZD : typeOf (.type "ZeroDivisionError") = pure (.type "type") := by kernel_rfl
theorem typ_IX : typeOf (.type "IndexError") = pure (.type "type") := by kernel_rfl
theorem typ_LU : typeOf (.type "LookupError") = pure (.type "type") := by kernel_rfl
end KA
namespace KA
open PySem PySem.Spec PyProof.Rows L2
/-! a try with several except clauses, each with a name of its own -/
def endsAs (D : Ends) (j : Nat) : Ends where
  nx := fun τ G => D.nx (τ.set j none) G
  rt := D.rt
  bk := fun τ G => D.bk (τ.set j none) G
  ct := fun τ G => D.ct (τ.set j none) G
abbrev HSpec := Value × Nat × (Addr → Value → Option Addr → TS)
def wAll (K : PySem.W.Frag) (Wo : WX) (D : Ends) : List HSpec → WX
  | [] => Wo
  | (c, j, t) :: more => fun k o τ G => ∃ b, PySem.W.exmOne K k c = some b ∧ (b = true → ∀ z, G z = none → t z k o (endsAs D j) (τ.set j (some (.ref z))) G) ∧ (b = false → wAll K Wo D more k o τ G)
inductive HAs (X : Cx) : List ExceptHandler → List HSpec → Prop
  | nil : HAs X [] []
  | cons {x n : Str} {c : Value} {j : Nat} {t : Addr → Value → Option Addr → TS} {s0 : Stmt} {su : List Stmt} {np hp : Pos} {hs : List ExceptHandler} {l : List HSpec} (nm : Names X x c) (hj : X.N[j]? = some n) (hl : X.env.kindOf n = some .local)
      (run : ∀ (z : Addr) (ob : Obj) (k : Value) (o : Option Addr) (pn : List (Addr × Obj)), Zc k o ob → (∃ ws, ob.data = .fields ws) → PSs (X.suite z ((z, ob) :: pn)) (s0 :: su) (t z k o)) (more : HAs X hs l) :
      HAs X (.ExceptHandler (some (.Name x np)) (some n) (s0 :: su) hp :: hs) ((c, j, t) :: l)
section
variable {X : Cx} {body : List Stmt} {h1 : ExceptHandler} {hs : List ExceptHandler} {l : List HSpec} {pos : Pos} {tb : WX → TS} {Wo : WX}
theorem ps_try_all (st : X.stack = X.env :: X.outer) (fr : X.env.frame = some X.env.locals) (nd : X.N.Nodup) (tk : Takes X Wo)
    (hb : ∀ (W : WX) (pn : List (Addr × Obj)) (xe : Value → Shared → Prop), Takes (X.tr pn xe) W → PassesOwn (model X.prog X.w) X.A X.env xe → PSs (X.tr pn xe) body (tb W))
    (hh : HAs X (h1 :: hs) l) : PS X (.Try body (h1 :: hs) [] [] pos) (fun D σ H => tb (wAll X.K Wo D l) D σ H) := by
  constructor
  intro pins s σ H D I h
  have ok := I.ok
  have frs' : X.A.frames = some (X.env :: X.outer) := ok.frames.trans (congrArg some st)
  apply wpAny_Try_except
  let xe' : Value → Shared → Prop := fun u s1 => wpAny (model X.prog X.w) X.A (noteFrame u X.env) (fun _ s2 => wpAny (model X.prog X.w) X.A (setFlight u none) (fun _ s3 => wpAny (model X.prog X.w) X.A (handleBy u X.env (h1 :: hs)) (SP X pins D) X.xe s3) X.xe s2) X.xe s1
  have land : Takes (X.tr (X.pn ++ pins) xe') (wAll X.K Wo D l) := by
    rintro u s' ⟨z, B, sI, qins, τ, G, k, o, rfl, J0, c1, c2, c3, c4, c5, c6, c7⟩
    have J : Inv X pins τ G sI := J0.ofTry ok
    have sky : Sky B (X.env :: X.outer) z (Zc k o) X.env.locals s'.heap := by
      rw [← st]
      exact c3
    show wpAny (model X.prog X.w) X.A (noteFrame (.ref z) X.env) _ _ _
    refine Sky.land Zc.steady frs' fr sky fun g fl u3 => ?_
    have J3 : Inv X pins τ G { s' with heap := g } := J.landed c1 fl.1 (c2.trans u3) c5 c6
    obtain ⟨ob, ws, e3, z3, d3⟩ := fl.there
    have noFr : z ∉ frs (X.env :: X.outer) := fun hm => by
      obtain ⟨_, ob', e', nf⟩ := Heap.FunFrames.mem fl.2.2.1 hm
      have := e3.symm.trans e'
      cases this
      exact nf _ d3
    have noL : z ≠ X.env.locals := fun q => noFr (List.mem_filterMap.mpr ⟨X.env, List.mem_cons_self, fr.trans (congrArg some q.symm)⟩)
    have noS : z ∉ X.fs := fun hm => by
      obtain ⟨en, hen, q⟩ := List.mem_filterMap.mp hm
      exact noFr (List.mem_filterMap.mpr ⟨en, List.mem_cons_of_mem _ hen, q⟩)
    have S3 := J3.suite e3 d3 c4 noL noS
    have LT : PySem.W.Looks (model X.prog X.w) g (typeOf (.ref z)) k := fun A Q E t0 kk q => wpAny_typeOf_ref (kk _ _ e3) (by rw [z3.1]; exact q)
    have each : ∀ {hs' : List ExceptHandler} {l' : List HSpec}, HAs X hs' l' → wAll X.K Wo D l' k o τ G → wpAny (model X.prog X.w) X.A (handleBy (.ref z) X.env hs') (SP X pins D) X.xe { s' with heap := g } := by
      intro hs' l' hk
      induction hk with
      | nil =>
        intro wo
        apply wpAny_handleBy_nil
        obtain ⟨k1, k2, k3, oe, vs, T, oT, ts', he, hz, hd, hT, hr⟩ := id fl
        unfold PySem.passOn
        refine wpAny_bind (wpAny_field he hd hT ?_)
        have nn : ¬ ((Value.ref T == Value.none) = true) := by simp
        rw [if_neg nn]
        have out : wpAny (model X.prog X.w) X.A (setFlight (.ref z) X.env.frame) (fun _ s4 => wpAny (model X.prog X.w) X.A (throw (.ref z) : Sem Flow) (SP X pins D) X.xe s4) X.xe { s' with heap := g } := by
          rw [fr]
          refine HandSPX.setFlight_upZ fl fun g4 f4 u4 => wpAny_throw (tk _ _ ⟨z, B, sI, pins, τ, G, k, o, rfl, J, c1, (c2.trans u3).trans u4, .inr (.inr ?_), c4, c5, c6, wo⟩)
          rw [st]
          exact f4
        first
          | exact wpAny_bind (wpAny_pure (wpAny_bind out))
          | exact wpAny_bind out
      | @cons x n c j t s0 su np hp hs2 l2 nm hj hl run more ih =>
        rintro ⟨b, hb1, yes, no⟩
        refine wpAny_handleBy_cons (codeAny_handlers_test ?_) (fun q => by cases q)
        have ask : ∀ {Q : Value → Shared → Prop} {E : Value → Shared → Prop}, Q c { s' with heap := g } → wpAny (model X.prog X.w) (X.A.mark (some (.ref z))) (eval (.Name x np) X.env) Q E { s' with heap := g } := fun {Q E} q => by
          rcases nm with ⟨n1, n2, m1 | ⟨m1, m2, m3⟩⟩
          · exact ld_glob (X := X.suite z ((z, ob) :: (X.pn ++ pins))) S3 n1 m1 q n2
          · exact ld_blt (X := X.suite z ((z, ob) :: (X.pn ++ pins))) S3 n1 m1 m2 q m3 n2
        refine ask ((PySem.W.exm_one (M := model X.prog X.w) J3.kIn LT hb1).here ?_)
        cases b with
        | false => exact ih (no rfl)
        | true =>
          refine codeAny_handlers_suite_as (HandSPX.lands_againZ fl fun g4 f4 u4 => ?_)
          have J4 : Inv X pins τ G { s' with heap := g4 } := J.landed c1 f4.1 ((c2.trans u3).trans u4) c5 c6
          obtain ⟨ob4, ws4, e4, z4, d4⟩ := f4.there
          have S4 := J4.suite e4 d4 c4 noL noS
          refine store_ok (X := X.suite z ((z, ob4) :: (X.pn ++ pins))) (v := .ref z) S4 nd hj (.inl hl) rfl (fun s5 S5 => ?_) (.inr hl)
          have ran := (run z ob4 k o (X.pn ++ pins) z4 ⟨_, d4⟩).run [] s5 _ G _ S5 (yes rfl z c4)
          have close : ∀ {s6 : Shared} {τ6 : L2.St} {G6 : Hp} {Q : Shared → Prop}, Inv (X.suite z ((z, ob4) :: (X.pn ++ pins))) [] τ6 G6 s6 → (∀ s7, Inv X pins (τ6.set j none) G6 s7 → Q s7) →
              wpAny (model X.prog X.w) X.A (do bindName X.env n .none; unbindBehindTheSuite X.env n hp) (fun _ s7 => Q s7) X.xe s6 := fun S6 hq => gone_ok (S6.unsuite ok) nd hj hl hq
          refine wpAny_mono ran (fun fl6 s6 hsp => ?_) (fun _ _ q => q.elim)
          cases fl6 with
          | ret u =>
            obtain ⟨v6, τ6, G6, S6, r6, q6⟩ := hsp
            exact close S6 fun s7 J7 => ⟨_, _, _, J7, r6, q6⟩
          | next =>
            obtain ⟨τ6, G6, S6, q6⟩ := hsp
            exact close S6 fun s7 J7 => ⟨_, _, J7, q6⟩
          | brk =>
            obtain ⟨τ6, G6, S6, q6⟩ := hsp
            exact close S6 fun s7 J7 => ⟨_, _, J7, q6⟩
          | cont =>
            obtain ⟨τ6, G6, S6, q6⟩ := hsp
            exact close S6 fun s7 J7 => ⟨_, _, J7, q6⟩
    exact each hh c7
  refine wpAny_mono ((hb (wAll X.K Wo D l) (X.pn ++ pins) xe' land PassesOwn.looking).run [] s σ H D (I.toTry _) h) (fun fl s1 hsp => ?_) (fun u s1 hu => hu)
  cases fl with
  | ret u =>
    obtain ⟨v, τ, G, J, r, q⟩ := hsp
    exact ⟨v, τ, G, J.ofTry ok, r, q⟩
  | next =>
    obtain ⟨τ, G, J, q⟩ := hsp
    exact wpAny_execs_nil ⟨τ, G, J.ofTry ok, q⟩
  | brk =>
    obtain ⟨τ, G, J, q⟩ := hsp
    exact ⟨τ, G, J.ofTry ok, q⟩
  | cont =>
    obtain ⟨τ, G, J, q⟩ := hsp
    exact ⟨τ, G, J.ofTry ok, q⟩
end
end KA
namespace KA
open PySem PySem.Spec PyProof.Rows L2
/-- C(e, .., k = v) within a try: what it raises is told with the names as they stand -/
def tMakeNS (C : Addr) (n m : Nat) (sp : Sp) (gV : List V → List V → List V) (E : L2.St → XK) (t tk : TA) : TE := fun σ H Q => tMakeN C n m sp gV (E σ) t tk σ H Q
section
variable {X : Cx} {CX : CXT} {k n : Nat} {f C : Addr} {fd : FuncData} {ps ks : List Str} {sp : Sp} {E : L2.St → XK} {x : Str} {p pos : Pos} {e : Expr} {es : List Expr} {kws : List Keyword} {t tk : TA} {g : List Value → List Value → List Value} {gV : List V → List V → List V}
theorem pe_makeNS (M : Mk X.K C f) (F : FnOk X.prog X.w X.K X.mg X.base CX k f fd ps sp) (hr : Room (k + 1) X.A) (hg : Gl X x) (hm : X.mg x = some (.ref C)) (hb : KBn X.K fd ps (n + 1) ks g gV) (hx : ∀ σ, PassesAt CX X σ (E σ))
    (ha : PA X (e :: es) t) (hkw : PK X kws tk) (hall : (backToKw pos (keywordEach kws X.env)).all (·.1.isSome) = true := by rfl) (hks : (backToKw pos (keywordEach kws X.env)).filterMap (·.1) = ks := by rfl)
    (hdb : (x == ("__debug__" : Str)) = false := by decide) (he : starEach (e :: es) X.env = (false, eval e X.env) :: starEach es X.env := by rfl)
    (hpl : ((backTo pos (starEach (e :: es) X.env)).any (·.1) || (backToKw pos (keywordEach kws X.env)).any (·.1.isNone)) = false := by rfl) :
    PE X (.Call (.Name x p) (e :: es) kws pos) (tMakeNS C n ks.length sp gV E t tk) := by
  refine ⟨fun pins s σ H Q I h => ?_⟩
  refine wpAny_Call_Name_kw (ld_glob I hg hm ?_ hdb)
  refine PySem.W.callWith_KW (h₀ := X.base) I.ok.mod.kin M.kp hall (thn (ha.run pos pins s σ H _ I h) fun us s1 ⟨vs, H1, I1, r, q⟩ => ?_) hpl he
  refine thn (hkw.run pos pins s1 σ H1 _ I1 q) fun ws s2 ⟨zs, H2, I2, rz, l1, l2, q2⟩ => ⟨I2.kIn, ?_⟩
  rw [hks]
  have hq := q2 (s2.heap.objs.size + 1) s2.heap.objs.size (I2.hok.fresh (Nat.le_succ _)) (I2.hok.fresh (Nat.le_refl _)) (Nat.ne_of_lt (Nat.lt_succ_self _))
  have J := Inv.made (C := C) I2
  have r1 : Vals (V.ref (s2.heap.objs.size + 1) :: vs) (Value.ref (s2.heap.objs.size + 1) :: us) := .cons rfl r
  have e1 : (Value.ref (s2.heap.objs.size + 1) :: us).length = n + 1 := r1.length.symm.trans (congrArg Nat.succ l1)
  refine wpAny_call (make_map (f := f) I2.kIn M.makes M.init (beq_iff_eq.mp M.fn) (codeAny_mono (F.run _ X.stack _ _ ⟨Value.ref (s2.heap.objs.size + 1) :: us, ks.zip ws⟩ (g (Value.ref (s2.heap.objs.size + 1) :: us) ws) _ _ (E σ) (hr.make C us (ks.zip ws))
    (J.env0.make C us (ks.zip ws)) (hb.to _ (Value.ref (s2.heap.objs.size + 1) :: us) ws J.kIn e1 (rz.length.symm.trans l2)) (hb.rel r1 rz) hq) fun r s' hq' => ?_))
  match r, hq' with
  | .error er, hq' => exact hx σ pins _ _ er s' J hq'
  | .ok (.ret u), hq' =>
    obtain ⟨v, H', I3, rv, ev, q3⟩ := J.after hq'
    subst ev
    exact ⟨rv, ⟨V.ref (s2.heap.objs.size + 1), H', I3, rfl, q3⟩⟩
end
end KA
namespace KA
open PySem PySem.Spec PyProof.Rows L2
section
variable {X : Cx} {n : Nat}
/-- x == y (or another comparison), x an instance of the class at C whose own def keeps sp, y of any kind -/
def rOwn (K : PySem.W.Frag) (C : Addr) (sp : Sp) (E : XK) : R2 := fun x y H Q => ∃ (a dx : Addr) (fs : List (Str × V)) (t : Value), x = .ref a ∧ H a = some (.ins C dx fs) ∧ TyX K H y t ∧ PySem.W.notFirst K C t = true ∧ sp [.ref a, y] H (fun v H' => (∃ b, v = .bl b) ∧ Q v H') E
theorem op_own {op : CmpOp} {CX : CXT} {C f : Addr} {fd : FuncData} {ps : List Str} {sp : Sp} {E : XK} (F : FnOk X.prog X.w X.K X.mg X.base CX n f fd ps sp)
    (hs : PySem.W.findIn X.K (.ref C) (cmpInfo op).2.1 = some (some (.ref f))) (hf : PySem.W.isFn X.K (.ref f) = true) (hb : Binds X.K fd ps []) (hx : Passes CX X E) (hr : Room n X.A) (ho : compareOp op = richCompare op := by rfl) : OpR X (compareOp op) (rOwn X.K C sp E) := by
  intro pins s σ H x y u v Q I rx ry d
  obtain ⟨a, dx, fs, t, rfl, ha, ty, hn, hsp⟩ := d
  cases rx
  obtain ⟨mA, J, _⟩ := ins_get I.hok ha
  obtain ⟨od, J, _⟩ := J.look
  obtain ⟨Pz, Z, p, _⟩ := kit_of I ry ty
  obtain ⟨m, hF⟩ := I.fr
  rw [ho]
  refine PySem.W.cmp_K (op := op) (tb := t) hr.units0 hF I.ok.mod.kin J (Z.ty _ _ I.kIn p) hn hs hf ?_
  have hl := F.len _ _ _ _ hsp
  have r2 : Vals [V.ref a, y] [Value.ref a, v] := .cons rfl (.cons ry .nil)
  refine wpAny_call (codeAny_mono (F.run X.A X.stack s H ⟨[.ref a, v], []⟩ [.ref a, v] [.ref a, y] _ E hr I.env0 (by
    have := hb s [.ref a, v] I.kIn (by simpa using hl)
    simpa using this) r2 hsp) fun r s' hq => ?_)
  cases r with
  | error e => exact hx pins σ H s e s' I hq
  | ok fl =>
    cases fl with
    | ret w =>
      obtain ⟨z, H', I', rz, ⟨b, ez⟩, q⟩ := I.after hq
      subst ez
      cases rz
      exact ⟨.bl b, H', I', rfl, q⟩
    | next => exact False.elim hq
    | brk => exact False.elim hq
    | cont => exact False.elim hq
end
end KA
namespace KA
open PySem PySem.Spec PySem.W PyProof.Rows
section
variable {prog : Program} {w : World} {A : Around} {E : Value → Shared → Prop} {s : Shared} {K : Frag} {x C f : Addr} {ox : Obj} {od : Option Obj}
theorem repr_K {Q : Value → Shared → Prop} (hu : A.in1.units < cLine) (X : K.In s.heap) (I : InstAt s.heap x ox C od) (hs : findIn K (.ref C) "__repr__" = some (some (.ref f))) (hf : isFn K (.ref f) = true)
    (hcall : wpAny (model prog w) A.in1 (call (.ref f) [.ref x]) (fun r s' => ∃ m tk, r = .str m tk ∧ Q (.str m tk) s') E s) :
    wpAny (model prog w) A (call (.builtin "repr") [.ref x]) Q E s := by
  refine Calls.call_function_entry F.kind_repr F.plain_repr F.entry_repr (F.args_repr1 _) ?_
  unfold Builtin.«repr»
  refine wpAny_bind (m := oneArg "repr" _) (wpAny_pure ?_)
  refine wpAny_bind (wpAny_cRoomFor hu ?_)
  refine wpAny_bind (wpAny_bind (I.type.here ((looks_findIn X hs).here ?_)))
  show wpAny _ _ (if (some (Value.ref f)).isNone = true then _ else _) _ _ _
  rw [if_neg (by simp)]
  refine wpAny_bind (m := callSpecialIfBound? (.ref x) (Str.ofString "__repr__") _) (ifBound_K X I hs hf (wpAny_mono hcall (fun r s' hr => ?_) fun _ _ y => y))
  obtain ⟨m, tk, rfl, hq⟩ := hr
  refine wpAny_bind (wpAny_isInstance (typeIs_str _ _ _) isSubtype_str_str ?_)
  first
    | exact wpAny_pure ⟨_, rfl, hq⟩
    | (rw [if_pos rfl]; exact wpAny_pure ⟨_, rfl, hq⟩)
    | (simp only [if_true]; exact wpAny_pure ⟨_, rfl, hq⟩)
end
end KA
namespace KA
open PySem PySem.Spec PyProof.Rows L2
section
variable {X : Cx} {n : Nat} {CX : CXT} {C f : Addr} {fd : FuncData} {ps : List Str} {sp : Sp} {E : XK}
/-- repr(x), str(x): x an instance of the class at C, whose own def keeps sp -/
def rShow (C : Addr) (sp : Sp) (E : XK) : List V → Hp → VK → Prop := fun xs H Q => ∃ (a dx : Addr) (fs : List (Str × V)), xs = [.ref a] ∧ H a = some (.ins C dx fs) ∧ sp [.ref a] H (fun v H' => (∃ m, v = .str m) ∧ Q v H') E
theorem run_self {A : Around} {pins : List (Addr × Obj)} {σ : L2.St} {H : Hp} {s : Shared} {a : Addr} {Q : VK} (F : FnOk X.prog X.w X.K X.mg X.base CX n f fd ps sp) (hb : Binds X.K fd ps []) (hx : Passes CX X E) (hr : Room n A) (hA : A.frames = X.A.frames) (I : L2.Inv X pins σ H s)
    (hsp : sp [.ref a] H (fun v H' => (∃ m, v = .str m) ∧ Q v H') E) : wpAny (model X.prog X.w) A (call (.ref f) [.ref a]) (fun r s' => ∃ m tk, r = .str m tk ∧ EP X pins σ Q (.str m tk) s') X.xe s := by
  have e0 : Env0 X.prog X.w X.K X.mg X.base A X.stack s H := by
    have e := I.env0
    exact ⟨by rw [hA]; exact e.frames, e.mod, e.bs, e.bsz, e.funs, e.frf, e.hok, e.bare⟩
  have hl := F.len _ _ _ _ hsp
  have r2 : Vals [V.ref a] [Value.ref a] := .cons rfl .nil
  refine wpAny_call (codeAny_mono (F.run A X.stack s H ⟨[.ref a], []⟩ [.ref a] [.ref a] _ E hr e0 (by
    have := hb s [.ref a] I.kIn (by simpa using hl)
    simpa using this) r2 hsp) fun r s' hq => ?_)
  cases r with
  | error e => exact hx pins σ H s e s' I hq
  | ok fl =>
    cases fl with
    | ret w =>
      obtain ⟨z, H', I', rz, ⟨m, ez⟩, q⟩ := I.after hq
      subst ez
      obtain ⟨tk, rfl⟩ := (show ∃ t, w = Value.str m t from rz)
      exact ⟨m, tk, rfl, .str m, H', I', ⟨tk, rfl⟩, q⟩
    | next => exact False.elim hq
    | brk => exact False.elim hq
    | cont => exact False.elim hq
theorem call_reprO (F : FnOk X.prog X.w X.K X.mg X.base CX n f fd ps sp) (hs : PySem.W.findIn X.K (.ref C) "__repr__" = some (some (.ref f))) (hf : PySem.W.isFn X.K (.ref f) = true) (hb : Binds X.K fd ps []) (hx : Passes CX X E) (hr : Room (n + 1) X.A) :
    CallR X (.builtin "repr") (rShow C sp E) := by
  intro pins s σ H xs us Q I r h
  obtain ⟨a, dx, fs, rfl, ha, hsp⟩ := h
  obtain ⟨u, rfl, r1⟩ := vals1 r
  cases (show u = Value.ref a from r1)
  obtain ⟨mA, J, _⟩ := ins_get I.hok ha
  obtain ⟨od, J, _⟩ := J.look
  exact repr_K hr.in1.units0 I.kIn J hs hf (run_self F hb hx hr.in1 rfl I hsp)
theorem call_strO (F : FnOk X.prog X.w X.K X.mg X.base CX n f fd ps sp) (hs : PySem.W.findIn X.K (.ref C) "__str__" = some (some (.ref f))) (hf : PySem.W.isFn X.K (.ref f) = true) (hb : Binds X.K fd ps []) (hx : Passes CX X E) (hr : Room (n + 2) X.A) :
    CallR X (.type "str") (rShow C sp E) := by
  intro pins s σ H xs us Q I r h
  obtain ⟨a, dx, fs, rfl, ha, hsp⟩ := h
  obtain ⟨u, rfl, r1⟩ := vals1 r
  cases (show u = Value.ref a from r1)
  obtain ⟨mA, J, _⟩ := ins_get I.hok ha
  obtain ⟨od, J, _⟩ := J.look
  refine PySem.W.kso_call hr.in1.in1.units0 I.kIn J hs hf (wpAny_mono (run_self F hb hx hr.in1.in1 rfl I hsp) (fun r s' hr => ?_) fun _ _ y => y)
  obtain ⟨m, tk, rfl, q⟩ := hr
  exact q
/-- {x}: a text, an int, a truth -/
def tFmtB (te : TE) : TE := fun σ H Q => te σ H fun x H1 => (∃ y : Str, x = .str y ∧ y.length ≤ sizeLine ∧ Q (.str y) H1) ∨ (∃ i : Int, x = .int i ∧ i.natAbs.log2 < 1920 ∧ Q (.str (toString i)) H1) ∨ ∃ b : Bool, x = .bl b ∧ Q (.str (if b then "True" else "False")) H1
theorem pe_fmtB {e : Expr} {te : TE} {pos : Pos} (he : PE X e te) : PE X (.FormattedValue e (-1) none pos) (tFmtB te) := by
  refine ⟨fun pins s σ H Q I h => ?_⟩
  refine wpAny_FormattedValue_plain (thn (he.run pins s σ H _ I h) fun v s1 hv => ?_)
  obtain ⟨x, H1, I1, r1, q⟩ := hv
  rcases q with ⟨y, rfl, hz, q⟩ | ⟨i, rfl, hz, q⟩ | ⟨b, rfl, q⟩
  · obtain ⟨t, rfl⟩ := r1
    exact wpAny_formatField_str ⟨.str y, H1, I1, ⟨t, rfl⟩, q⟩ ⟨.str y, H1, I1.tok _, ⟨_, rfl⟩, q⟩ hz
  · obtain ⟨t, rfl⟩ := r1
    exact wpAny_formatField_int hz ⟨.str (toString i), H1, I1.tok _, ⟨_, rfl⟩, q⟩
  · cases (show v = Value.bool b from r1)
    exact wpAny_formatField_bool ⟨.str (if b then "True" else "False"), H1, I1.tok _, ⟨_, rfl⟩, q⟩
end
end KA
namespace KA
open PySem PySem.Spec PyProof.Rows L2
section
variable {prog : Program} {w : World} {A : Around} {E : Value → Shared → Prop} {s : Shared} {a : Addr} {o : Obj}
theorem lrep_head {Q : Fin → Shared → Prop} {x : Value} {l : List Value} {n : Nat} {b : Nat} (hget : s.heap.get? a = some o) (hd : o.data = .seq (x :: l).toArray n)
    (h1 : wpAny (model prog w) A (do again (.builtin "list.__repr__.loop" ⟨[.ref a, rawInt 0, ← newList [], rawInt b], []⟩)) Q E s) (h2 : ∀ u tk, Q (.done (.ret (.str "[...]" u))) { s with toks := tk }) :
    wpAny (model prog w) A (Builtin.listReprAt b ⟨[.ref a], []⟩) Q E s := by
  unfold Builtin.listReprAt
  show wpAny _ _ (Builtin.List.listItems (.ref a) >>= _) _ _ s
  refine wpAny_bind (wpAny_listItems hget hd ?_)
  refine PySem.W.KFB.if_not rfl ?_
  refine wpAny_bind (wpAny_stack_any fun st => ?_)
  dsimp only
  split
  · refine wpAny_bind (wpAny_rule ?_)
    exact wpAny_bind (wpAny_mkStr (wpAny_pure (h2 _ _)) (by decide +kernel))
  · exact h1
theorem lrep_way : ("[...]" : Str).length ≤ 5 := by decide +kernel
/-- list.__repr__, whatever is under way -/
theorem lrep_call {Q : Value → Shared → Prop} {x : Value} {l : List Value} {n : Nat} {ts : List Str} (hc : o.cls = .type "list") (ha : s.heap.get? a = some o) (hd : o.data = .seq (x :: l).toArray n) (hlen : ts.length = (x :: l).toArray.size)
    (hT : ∀ (i : Nat) (y : Value), (x :: l).toArray[i]? = some y → ∃ t, ts[i]? = some t ∧ ReprIs prog w y t) (hsz : (listText ts).length ≤ sizeLine)
    (h : ∀ h' (m : Str) u tk, (∀ b z, s.heap.get? b = some z → h'.get? b = some z) → m.length ≤ (listText ts).length + 5 → Q (.str m u) { s with heap := h', toks := tk }) :
    wpAny (model prog w) A (call (.builtin "list.__repr__") [.ref a]) Q E s := by
  refine wpAny_call (codeAny_call_builtin F.slot_list_repr.plain F.entry_list_repr (F.slot_list_repr.check _ _ _ _ _ _ _ _ ⟨o, ha, hc⟩ (F.args_list_repr_1 _) ?_))
  refine lrep_head (b := 0) ha hd ?_ (fun u tk => h s.heap _ u tk (fun _ _ e => e) (Nat.le_trans lrep_way (Nat.le_add_left _ _)))
  refine wpAny_bind (m := newList []) (wpAny_newObj_type ?_)
  refine wpAny_pure ⟨F.quiet_list_repr_loop _, ?_⟩
  refine codeAny_list_repr_start (P := s.heap.objs.size) (Nat.ne_of_lt (Heap.lt_size ha)) hlen hT (Heap.get?_push_of_some _ ha) hd (Heap.get?_push_size _ rfl) (fun h' u tk hk => ?_) (by omega)
  exact h h' _ u tk (fun b z e => hk b z (Nat.ne_of_lt (Heap.lt_size e)) (Heap.get?_push_of_some _ e)) (Nat.le_add_right _ _)

theorem drep_way : ("{...}" : Str).length ≤ 5 := by decide +kernel
/-- dict.__repr__ of {}, whatever is under way -/
theorem drep_call {Q : Value → Shared → Prop} {ep : Nat} (hc : o.cls = .type "dict") (ha : s.heap.get? a = some o) (hd : o.data = .dict #[] ep) (hsys : (a == sysModules) = false)
    (h : ∀ (m : Str) u tk, m.length ≤ 10 → Q (.str m u) { s with toks := tk }) : wpAny (model prog w) A (call (.builtin "dict.__repr__") [.ref a]) Q E s := by
  refine wpAny_call (codeAny_call_builtin_own (Code.quiet_builtin _ (by decide +kernel)) F.entry_dict_repr (F.slot_dict_repr.check _ _ _ _ _ _ _ _ ⟨o, ha, hc⟩ (F.args_dict_repr_1 _) (wpOwn_of_wpAny ?_)))
  show wpAny _ _ (Builtin.dictReprAt 0 ⟨[.ref a], []⟩) _ _ s
  unfold Builtin.dictReprAt
  refine wpAny_bind ?_
  unfold Builtin.Dict.dictSlotNone
  refine wpAny_bind (wpAny_notOrdered_dict ⟨o, ha, hc⟩ ?_)
  show wpAny _ _ (pure (Value.ref a)) _ _ s
  refine wpAny_pure ?_
  rw [dictReprRunning_eq]
  refine wpAny_bind (wpAny_bind (wpAny_stack_any fun st => wpAny_pure ?_))
  split
  · refine wpAny_bind (wpAny_rule ?_)
    exact wpAny_bind (wpAny_mkStr (wpAny_pure (h _ _ _ (Nat.le_trans drep_way (by decide)))) (by decide +kernel))
  · show wpAny _ _ (Builtin.Dict.addrOf (.ref a) >>= _) _ _ s
    refine wpAny_bind (wpAny_pure ?_)
    show wpAny _ _ (Builtin.Dict.showsAll a >>= _) _ _ s
    unfold Builtin.Dict.showsAll
    rw [if_neg (by rw [hsys]; exact Bool.false_ne_true)]
    refine wpAny_bind (wpAny_pure (wpAny_bind (wpAny_dictEpoch ha hd (wpAny_bind (wpAny_dictEntries ha hd ?_)))))
    refine wpAny_bind ?_
    rw [Std.Legacy.Range.forIn_eq_forIn_range']
    show wpAny _ _ (forIn [] _ _) _ _ s
    refine wpAny_pure ?_
    refine wpAny_bind (wpAny_mkStr (wpAny_pure (h _ _ _ ?_)) (by decide +kernel))
    decide +kernel
end
/-- str() of what is shown by its __repr__ -/
theorem str_by {prog : Program} {w : World} {A : Around} {E : Value → Shared → Prop} {s : Shared} {a : Addr} {o : Obj} {Q : Value → Shared → Prop} {T idr : String} {N : Nat} (hu : A.units + 3 < cLine) (hc : o.cls = .type T) (ha : s.heap.get? a = some o)
    (slotStr : Slot T "__str__" "object.__str__") (slotRepr : SlotG T "__repr__" idr)
    (rep : ∀ (prog' : Program) (w' : World) (A' : Around) (E' : Value → Shared → Prop) (s' : Shared) (Q' : Value → Shared → Prop), s'.heap.get? a = some o →
      (∀ h' (m : Str) u tk, (∀ b z, s'.heap.get? b = some z → h'.get? b = some z) → m.length ≤ N → Q' (.str m u) { s' with heap := h', toks := tk }) → wpAny (model prog' w') A' (call (.builtin idr) [.ref a]) Q' E' s')
    (h : ∀ h' (m : Str) u tk, (∀ b z, s.heap.get? b = some z → h'.get? b = some z) → m.length ≤ N → Q (.str m u) { s with heap := h', toks := tk }) :
    wpAny (model prog w) A (call (.type "str") [.ref a]) Q E s :=
  callType_new F.called_str (by decide) (F.typeCall_str_1 _) (F.newCall_str_1 _) (fun obj => F.args_object_init_2 obj _) F.entry_str_new
    (meets_str_new (S := fun A' R s' => A'.units + 2 < cLine ∧ s'.heap.get? a = some o ∧
        ∀ h' (m : Str) u tk, (∀ b z, s'.heap.get? b = some z → h'.get? b = some z) → m.length ≤ N → R (.ok (.ret (.str m u))) { s' with heap := h', toks := tk })
      fun prog' w' A' R s' g => wpAny_strOf_slot rfl (by show A'.units + 1 + 1 < cLine; have := g.1; omega) ⟨o, g.2.1, hc⟩ slotStr slotRepr (rep prog' w' _ _ s' _ g.2.1 fun h' m u tk hk hm => ⟨m, u, rfl, g.2.2 h' m u tk hk hm⟩))
    ⟨by show A.units + 1 + 2 < cLine; omega, ha, fun h' m u tk hk hm => ⟨typeIs_str _ _ _, h h' m u tk hk hm⟩⟩
/-- a thing without parts, of bounded text -/
inductive Leaf : V → Prop
  | int (i : Int) (h : i.natAbs.log2 < 1000) : Leaf (.int i)
  | str (z : Str) (h : z.length ≤ 1000) (hc : ∀ c ∈ z.cps.toList, c < 16 ^ 8) : Leaf (.str z)
  | bl (b : Bool) : Leaf (.bl b)
  | non : Leaf .non
theorem size_20k : (20000 : Nat) ≤ sizeLine := by decide
theorem leaf_repr {prog : Program} {w : World} {v : V} {u : Value} (h : Leaf v) (r : RelV v u) : ∃ t : Str, ReprIs prog w u t ∧ t.length ≤ 12000 := by
  cases h with
  | int i hi =>
    obtain ⟨t, rfl⟩ := r
    refine ⟨_, ReprIs.int t (by omega), ?_⟩
    have e := int_text_length_le (k := 1000) (by decide) hi
    show (Str.ofString (toString i)).length ≤ 12000
    rw [PySem.ofString_length]
    omega
  | str z hz hc =>
    obtain ⟨t, rfl⟩ := r
    have h1 := StrLaws.reprText_len z hc
    have := size_20k
    exact ⟨_, ReprIs.str z t (by omega), by omega⟩
  | bl b =>
    cases r
    exact ⟨_, ReprIs.bool b, by cases b <;> decide⟩
  | non =>
    cases r
    exact ⟨_, ReprIs.none, by decide⟩
section
variable {X : Cx}
theorem list_text_one (t : Str) : (listText [t]).length ≤ t.length + 4 := by
  have h := piled_le_listText [t]
  have h2 := textFrom_len [t] 0 "["
  show (textFrom 0 "[" [t] ++ "]").length ≤ _
  rw [strLen_append]
  show (("[" : Str) ++ (if 0 > 0 then ", " else "" : String) ++ t).length + 1 ≤ _
  rw [strLen_append, strLen_append]
  show 1 + 0 + t.length + 1 ≤ _
  omega
/-- the same, of texts of any signs -/
inductive LeafW : V → Prop
  | int (i : Int) (h : i.natAbs.log2 < 1000) : LeafW (.int i)
  | str (z : Str) (h : z.length ≤ 3000) : LeafW (.str z)
  | bl (b : Bool) : LeafW (.bl b)
  | non : LeafW .non
theorem Leaf.w {v : V} (h : Leaf v) : LeafW v := by
  cases h with
  | int i h => exact .int i h
  | str z h _ => exact .str z (by omega)
  | bl b => exact .bl b
  | non => exact .non
/-- what str() is asked of: a thing without parts, or one list, tuple of one, or {} -/
inductive Leaf1 (K : PySem.W.Frag) (H : Hp) : V → Prop
  | leaf {v : V} (h : LeafW v) : Leaf1 K H v
  | lst {a : Addr} {v : V} (e : H a = some (.lst [v])) (h : Leaf v) : Leaf1 K H (.ref a)
  | tup {a : Addr} {v : V} (e : H a = some (.tup [v])) (h : Leaf v) : Leaf1 K H (.ref a)
  | dct {a : Addr} (e : H a = some (.dK [])) : Leaf1 K H (.ref a)
def rStrL (K : PySem.W.Frag) : List V → Hp → VK → Prop := fun xs H Q => ∃ x, xs = [x] ∧ Leaf1 K H x ∧ ∀ m : Str, m.length ≤ 20000 → (Leaf x → m.length ≤ 1002) → Q (.str m) H
theorem call_str_leaf {k : Nat} (hr : Room k X.A) : CallR X (.type "str") (rStrL X.K) := by
  intro pins s σ H xs us Q I r h
  obtain ⟨x, rfl, hx, q⟩ := h
  obtain ⟨u, rfl, rx⟩ := vals1 r
  have hz := size_20k
  have hu := hr.units
  cases hx with
  | leaf hl =>
    cases hl with
    | int i hi =>
      obtain ⟨t, rfl⟩ := rx
      have e : (Str.ofString (toString i)).length ≤ 1002 := by
        have e := int_text_length_le (k := 1000) (by decide) hi
        rw [PySem.ofString_length]
        omega
      exact PySem.P.str_of_int (by omega) ⟨.str _, H, I.tok _, ⟨_, rfl⟩, q _ (Nat.le_trans e (by decide)) (fun _ => e)⟩
    | str z hz' =>
      obtain ⟨t, rfl⟩ := rx
      refine PySem.P.str_of_str ⟨.str _, H, I, ⟨_, rfl⟩, q _ (by omega) (fun l => ?_)⟩
      cases l
      omega
    | bl b =>
      cases rx
      exact PySem.P.str_of_bool ⟨.str _, H, I.tok _, ⟨_, rfl⟩, q _ (by cases b <;> decide) (fun _ => by cases b <;> decide)⟩
    | non =>
      cases rx
      exact PySem.P.str_of_none ⟨.str _, H, I.tok _, ⟨_, rfl⟩, q _ (by decide) (fun _ => by decide)⟩
  | @lst a v e hl =>
    cases rx
    obtain ⟨_, its, n, rv, ho⟩ : _ ≤ sizeLine ∧ ∃ (its : List Value) (n : Nat), Vals [v] its ∧ s.heap.get? a = some { cls := .type "list", data := .seq its.toArray n } := I.hok a _ e
    obtain ⟨u, rfl, ru⟩ := vals1 rv
    refine str_by (N := 13000) (by omega) rfl ho F.slot_list_str F.slot_list_repr.toG (fun prog' w' A' E' s' Q' hg hq => ?_) (fun h' m u tk hk hm => ⟨.str m, H, I.kept hk, ⟨_, rfl⟩, q m (by omega) (fun l => nomatch l)⟩)
    obtain ⟨t, ht, hl⟩ := leaf_repr (prog := prog') (w := w') hl ru
    have ht2 := list_text_one t
    refine lrep_call (ts := [t]) rfl hg rfl rfl (fun i y hy => ?_) (by omega) (fun h' m u tk hk hm => hq h' m u tk hk (by omega))
    cases i with
    | zero => cases hy; exact ⟨t, rfl, ht⟩
    | succ i => cases hy
  | @tup a v e hl =>
    cases rx
    obtain ⟨_, its, rv, o, ho, hc, n, hd⟩ : _ ≤ sizeLine ∧ ∃ its : List Value, Vals [v] its ∧ IsTup s.heap a its.toArray := I.hok a _ e
    obtain ⟨u, rfl, ru⟩ := vals1 rv
    refine str_by (N := 13000) (by omega) hc ho F.slot_tuple_str F.slot_tuple_repr (fun prog' w' A' E' s' Q' hg hq => ?_) (fun h' m u tk hk hm => ⟨.str m, H, I.kept hk, ⟨_, rfl⟩, q m (by omega) (fun l => nomatch l)⟩)
    obtain ⟨t, ht, hl⟩ := leaf_repr (prog := prog') (w := w') hl ru
    have ht2 := fmt_text [t]
    have ht3 : piled [t] = t.length + 2 := rfl
    exact fmt_tuple_repr (ts := [t]) hg hc hd (.cons ht .nil) (by omega) (fun m u tk hm => hq s'.heap m u tk (fun _ _ e => e) (by omega))
  | @dct a e =>
    cases rx
    obtain ⟨_, hs, vs, kv, o, es, ep, ho, hx, hd, _, he, _⟩ := dk_of I.hok e
    cases kv
    have : es = #[] := by
      cases es
      cases he
      rfl
    subst this
    refine str_by (N := 13000) (by omega) hx.1 ho F.slot_dict_str F.slot_dict_repr (fun prog' w' A' E' s' Q' hg hq => ?_) (fun h' m u tk hk hm => ⟨.str m, H, I.kept hk, ⟨_, rfl⟩, q m (by omega) (fun l => nomatch l)⟩)
    exact drep_call hx.1 hg hd hs (fun m u tk hm => hq s'.heap m u tk (fun _ _ e => e) (by omega))
end
end KA
namespace KA
open PySem PySem.SeqAt
open AutoSeq1 (wpAny_loadPart')
open MeetsSeq MeetsSeq2 MeetsSeq3 SeqRoads2
section
variable {prog : Program} {w : World} {A : Around} {R : Result → Shared → Prop}
/-- two lists as long, read anew at each turn: the two items are told equal (then J goes on) or not (then F) -/
def LstI (prog : Program) (w : World) (A : Around) (E : Value → Shared → Prop) (p q : Addr) (N : Nat) (J : Nat → Shared → Prop) (F : Shared → Prop) : Prop :=
  ∀ i s, J i s → ∃ (xs ys : Array Value) (m m2 : Nat), s.heap.get? p = some { cls := .type "list", data := .seq xs m } ∧ s.heap.get? q = some { cls := .type "list", data := .seq ys m2 } ∧ xs.size = N ∧ ys.size = N ∧
    ∀ (g1 : i < xs.size) (g2 : i < ys.size), wpAny (model prog w) A.in1 (eqBool xs[i] ys[i]) (fun r s' => (r = true → J (i + 1) s') ∧ (r = false → F s' ∧ ∃ (xs ys : Array Value) (m m2 : Nat), s'.heap.get? p = some { cls := .type "list", data := .seq xs m } ∧ s'.heap.get? q = some { cls := .type "list", data := .seq ys m2 } ∧ xs.size = N ∧ ys.size = N)) E s
/-- op: 2 is ==, 3 is != ; what is told where all items are equal is no -/
theorem turnsB (op : Nat) (yes : Bool) (hop : (op = 2 ∧ yes = true) ∨ (op = 3 ∧ yes = false)) (p q : Addr) (N : Nat) (J : Nat → Shared → Prop) (F : Shared → Prop) (hJ : LstI prog w A (fun e s' => R (.error e) s') p q N J F)
    (done : ∀ s, J N s → R (.ok (.ret (.bool yes))) s) (fail : ∀ s, F s → R (.ok (.ret (.bool (!yes)))) s) : ∀ (k i : Nat), N - i = k → i ≤ N → ∀ s, J i s →
      wpAny (model prog w) A.in1 (Builtin.«list.__eq__.loop» ⟨[.ref p, .ref q, rawInt i, rawInt op], []⟩) (GQ.FinOf prog w A R) (fun e s' => R (.error e) s') s
  | 0, i, hk, hi, s, hs => by
    obtain ⟨xs, ys, m, m2, gp, gq, zp, zq, _⟩ := hJ _ _ hs
    have iN : i = N := by omega
    have last : R (.ok (.ret (.bool yes))) s := done s (iN ▸ hs)
    have n1 : xs[((i : Nat) : Int).toNat]? = none := by simp; omega
    have n2 : ys[((i : Nat) : Int).toNat]? = none := by simp; omega
    rcases hop with ⟨rfl, rfl⟩ | ⟨rfl, rfl⟩
    · obtain ⟨hh, gg, dd, kk, oo⟩ := s
      wp_walk using wpAny_loadPart' gp, wpAny_loadPart' gq
      rw [n1, n2]
      wp_walk using wpAny_loadPart' gp, wpAny_loadPart' gq
      show R (.ok (.ret (.bool (xs.size == ys.size)))) _
      rw [zp, zq]
      simpa using last
    · obtain ⟨hh, gg, dd, kk, oo⟩ := s
      wp_walk using wpAny_loadPart' gp, wpAny_loadPart' gq
      rw [n1, n2]
      wp_walk using wpAny_loadPart' gp, wpAny_loadPart' gq
      show R (.ok (.ret (.bool (xs.size != ys.size)))) _
      rw [zp, zq]
      simpa using last
  | k + 1, i, hk, hi, s, hs => by
    obtain ⟨xs, ys, m, m2, gp, gq, zp, zq, tn⟩ := hJ _ _ hs
    have ip : i < xs.size := by omega
    have iq : i < ys.size := by omega
    have tt := tn ip iq
    have n1 : xs[((i : Nat) : Int).toNat]? = some xs[i] := by simp [ip]
    have n2 : ys[((i : Nat) : Int).toNat]? = some ys[i] := by simp [iq]
    have up : ((i : Int) + 1) = ((i + 1 : Nat) : Int) := by omega
    have next := fun s2 h2 => turnsB op yes hop p q N J F hJ done fail k (i + 1) (by omega) (by omega) s2 h2
    rcases hop with ⟨rfl, rfl⟩ | ⟨rfl, rfl⟩
    · obtain ⟨hh, gg, dd, kk, oo⟩ := s
      wp_walk using wpAny_loadPart' gp, wpAny_loadPart' gq
      rw [n1, n2]
      refine wpAny_bind (wpAny_mono tt (fun r s2 h2 => ?_) fun _ _ x => x)
      cases r with
      | true =>
        have h3 := next s2 (h2.1 rfl)
        obtain ⟨hh2, gg2, dd2, kk2, oo2⟩ := s2
        wp_walk
        rw [up]
        exact ⟨plainId_quiet plain_eq_loop _, codeAny_builtin entry_eq_loop (by rw [Around.under_plainId plain_eq_loop _]; exact h3)⟩
      | false =>
        obtain ⟨hF, xs2, ys2, m3, m4, gp2, gq2, zp2, zq2⟩ := h2.2 rfl
        have h3 := fail s2 hF
        have n3 : xs2[((i : Nat) : Int).toNat]? = some (xs2[i]'(by omega)) := by simp
        have n4 : ys2[((i : Nat) : Int).toNat]? = some (ys2[i]'(by omega)) := by simp
        obtain ⟨hh2, gg2, dd2, kk2, oo2⟩ := s2
        wp_walk using wpAny_loadPart' gp2, wpAny_loadPart' gq2
        rw [n3, n4]
        wp_walk
        exact h3
    · obtain ⟨hh, gg, dd, kk, oo⟩ := s
      wp_walk using wpAny_loadPart' gp, wpAny_loadPart' gq
      rw [n1, n2]
      refine wpAny_bind (wpAny_mono tt (fun r s2 h2 => ?_) fun _ _ x => x)
      cases r with
      | true =>
        have h3 := next s2 (h2.1 rfl)
        obtain ⟨hh2, gg2, dd2, kk2, oo2⟩ := s2
        wp_walk
        rw [up]
        exact ⟨plainId_quiet plain_eq_loop _, codeAny_builtin entry_eq_loop (by rw [Around.under_plainId plain_eq_loop _]; exact h3)⟩
      | false =>
        obtain ⟨hF, xs2, ys2, m3, m4, gp2, gq2, zp2, zq2⟩ := h2.2 rfl
        have h3 := fail s2 hF
        have n3 : xs2[((i : Nat) : Int).toNat]? = some (xs2[i]'(by omega)) := by simp
        have n4 : ys2[((i : Nat) : Int).toNat]? = some (ys2[i]'(by omega)) := by simp
        obtain ⟨hh2, gg2, dd2, kk2, oo2⟩ := s2
        wp_walk using wpAny_loadPart' gp2, wpAny_loadPart' gq2
        rw [n3, n4]
        wp_walk
        exact h3
theorem listsB (ne yes : Bool) (hop : ne = !yes) (p q : Addr) (N : Nat) (J : Nat → Shared → Prop) (F : Shared → Prop) (hJ : LstI prog w A (fun e s' => R (.error e) s') p q N J F)
    (done : ∀ s, J N s → R (.ok (.ret (.bool yes))) s) (fail : ∀ s, F s → R (.ok (.ret (.bool (!yes)))) s) {s : Shared} (hs : J 0 s) :
    wpAny (model prog w) A.in1 ((if ne then Builtin.«list.__ne__» else Builtin.«list.__eq__») ⟨[.ref p, .ref q], []⟩) (GQ.FinOf prog w A R) (fun e s' => R (.error e) s') s := by
  obtain ⟨xs, ys, m, m2, gp, gq, zp, zq, _⟩ := hJ _ _ hs
  have same : ¬ (xs.size != ys.size) = true := by simp [zp, zq]
  have sub := AutoSeq1.sub_list_list
  cases yes with
  | true =>
    subst hop
    have all := turnsB (A := A) (R := R) 2 true (.inl ⟨rfl, rfl⟩) p q N J F hJ done fail _ 0 rfl (Nat.zero_le _) s hs
    obtain ⟨hh, gg, dd, kk, oo⟩ := s
    show wpAny _ _ (Builtin.«list.__eq__» ⟨[.ref p, .ref q], []⟩) _ _ _
    wp_walk using wpAny_loadPart' gp, wpAny_loadPart' gq
    exact ⟨plainId_quiet plain_eq_loop _, codeAny_builtin entry_eq_loop (by rw [Around.under_plainId plain_eq_loop _]; exact all)⟩
  | false =>
    subst hop
    have all := turnsB (A := A) (R := R) 3 false (.inr ⟨rfl, rfl⟩) p q N J F hJ done fail _ 0 rfl (Nat.zero_le _) s hs
    obtain ⟨hh, gg, dd, kk, oo⟩ := s
    show wpAny _ _ (Builtin.«list.__ne__» ⟨[.ref p, .ref q], []⟩) _ _ _
    wp_walk using wpAny_loadPart' gp, wpAny_loadPart' gq
    exact ⟨plainId_quiet plain_eq_loop _, codeAny_builtin entry_eq_loop (by rw [Around.under_plainId plain_eq_loop _]; exact all)⟩
/-- lists of unlike lengths -/
theorem listsN (ne : Bool) (p q : Addr) {xs ys : Array Value} {m m2 : Nat} {s : Shared} (gp : s.heap.get? p = some { cls := .type "list", data := .seq xs m }) (gq : s.heap.get? q = some { cls := .type "list", data := .seq ys m2 }) (h : xs.size ≠ ys.size)
    (fail : R (.ok (.ret (.bool ne))) s) : wpAny (model prog w) A.in1 ((if ne then Builtin.«list.__ne__» else Builtin.«list.__eq__») ⟨[.ref p, .ref q], []⟩) (GQ.FinOf prog w A R) (fun e s' => R (.error e) s') s := by
  have unl : (xs.size != ys.size) = true := by simpa using h
  have sub := AutoSeq1.sub_list_list
  cases ne with
  | true =>
    obtain ⟨hh, gg, dd, kk, oo⟩ := s
    show wpAny _ _ (Builtin.«list.__ne__» ⟨[.ref p, .ref q], []⟩) _ _ _
    wp_walk using wpAny_loadPart' gp, wpAny_loadPart' gq
    exact fail
  | false =>
    obtain ⟨hh, gg, dd, kk, oo⟩ := s
    show wpAny _ _ (Builtin.«list.__eq__» ⟨[.ref p, .ref q], []⟩) _ _ _
    wp_walk using wpAny_loadPart' gp, wpAny_loadPart' gq
    exact fail
end
end KA
namespace KA
open PySem PySem.SeqAt
open AutoSeq1 (wpAny_loadPart')
open MeetsSeq MeetsSeq2 MeetsSeq3 SeqRoads2
section
variable {prog : Program} {w : World} {A : Around} {R : Result → Shared → Prop}
theorem tupsB (ne : Bool) (p q : Addr) (xs ys : Array Value) (n n2 : Nat) (d1 d2 : Option Addr) (l1 l2 : Array (Option Value)) (J : Nat → Shared → Prop) (F : Shared → Prop)
    (turn : ∀ i (h1 : i < xs.size) (h2 : i < ys.size) s, J i s → wpAny (model prog w) A.in1 (eqBool xs[i] ys[i]) (fun r s' => (r = true → J (i + 1) s') ∧ (r = false → F s')) (fun e s' => R (.error e) s') s)
    (done : ∀ s, J (min xs.size ys.size) s → R (.ok (.ret (.bool (ne ^^ (xs.size == ys.size))))) s) (fail : ∀ s, F s → R (.ok (.ret (.bool ne))) s)
    {s : Shared} (gp : s.heap.get? p = some { cls := .type "tuple", dict := d1, data := .seq xs n, slots := l1 }) (gq : s.heap.get? q = some { cls := .type "tuple", dict := d2, data := .seq ys n2, slots := l2 }) (h : J 0 s) :
    wpAny (model prog w) A.in1 ((if ne then Builtin.«tuple.__ne__» else Builtin.«tuple.__eq__») ⟨[.ref p, .ref q], []⟩) (GQ.FinOf prog w A R) (fun e s' => R (.error e) s') s := by
  have sub := AutoSeq1.sub_tuple_tuple
  have hZ : (xs.toList.zip ys.toList).length = min xs.size ys.size := by simp
  have h0 := h
  have at_ : ∀ {i : Nat} {z : Value × Value} {rest : List (Value × Value)}, z :: rest = (xs.toList.zip ys.toList).drop i → ∃ (h1 : i < xs.size) (h2 : i < ys.size), z = (xs[i], ys[i]) ∧ rest = (xs.toList.zip ys.toList).drop (i + 1) := fun {i z rest} hz => by
    have lt : i < (xs.toList.zip ys.toList).length := by
      rcases Nat.lt_or_ge i (xs.toList.zip ys.toList).length with h' | h'
      · exact h'
      · rw [List.drop_of_length_le h'] at hz
        cases hz
    have h1 : i < xs.size := by omega
    have h2 : i < ys.size := by omega
    rw [List.drop_eq_getElem_cons lt] at hz
    injection hz with e1 e2
    exact ⟨h1, h2, by rw [e1]; simp, e2⟩
  have end_ : ∀ {i : Nat}, ([] : List (Value × Value)) = (xs.toList.zip ys.toList).drop i → i ≤ min xs.size ys.size → i = min xs.size ys.size := fun {i} hz hi => by
    rcases Nat.lt_or_ge i (xs.toList.zip ys.toList).length with h' | h'
    · rw [List.drop_eq_getElem_cons h'] at hz
      cases hz
    · omega
  cases ne with
  | false =>
    obtain ⟨hh, gg, dd, kk, oo⟩ := s
    show wpAny _ _ (Builtin.«tuple.__eq__» ⟨[.ref p, .ref q], []⟩) _ _ _
    wp_walk using wpAny_loadPart' gp, wpAny_loadPart' gq, wpAny_forIn_list _ (fun rest b s' => b.1 = none ∧ ∃ i, rest = (xs.toList.zip ys.toList).drop i ∧ i ≤ min xs.size ys.size ∧ J i s') _
    case turn =>
      rintro ⟨y, x⟩ rest b s' ⟨hb', i, hz, hi, hI⟩
      obtain ⟨h1, h2, e, hrest⟩ := at_ hz
      injection e with e1 e2
      subst e1 e2
      refine wpAny_bind (wpAny_mono (turn i h1 h2 s' hI) (fun r s2 q2 => ?_) fun _ _ x => x)
      cases r with
      | true =>
        wp_walk
        exact ⟨rfl, i + 1, hrest, by omega, q2.1 rfl⟩
      | false =>
        have h3 := fail s2 (q2.2 rfl)
        wp_walk
        exact h3
    case fin =>
      rintro ⟨b1, b2⟩ s' ⟨hb', i, hz, hi, hI⟩
      simp only at hb'
      subst hb'
      have hR := done s' (end_ hz hi ▸ hI)
      wp_walk
      simpa [Builtin.Tuple.tupleCompareSizes] using hR
    case h =>
      exact ⟨rfl, 0, rfl, Nat.zero_le _, h0⟩
  | true =>
    obtain ⟨hh, gg, dd, kk, oo⟩ := s
    show wpAny _ _ (Builtin.«tuple.__ne__» ⟨[.ref p, .ref q], []⟩) _ _ _
    wp_walk using wpAny_loadPart' gp, wpAny_loadPart' gq, wpAny_forIn_list _ (fun rest b s' => b.1 = none ∧ ∃ i, rest = (xs.toList.zip ys.toList).drop i ∧ i ≤ min xs.size ys.size ∧ J i s') _
    case turn =>
      rintro ⟨y, x⟩ rest b s' ⟨hb', i, hz, hi, hI⟩
      obtain ⟨h1, h2, e, hrest⟩ := at_ hz
      injection e with e1 e2
      subst e1 e2
      refine wpAny_bind (wpAny_mono (turn i h1 h2 s' hI) (fun r s2 q2 => ?_) fun _ _ x => x)
      cases r with
      | true =>
        wp_walk
        exact ⟨rfl, i + 1, hrest, by omega, q2.1 rfl⟩
      | false =>
        have h3 := fail s2 (q2.2 rfl)
        wp_walk
        exact h3
    case fin =>
      rintro ⟨b1, b2⟩ s' ⟨hb', i, hz, hi, hI⟩
      simp only at hb'
      subst hb'
      have hR := done s' (end_ hz hi ▸ hI)
      wp_walk
      simpa [Builtin.Tuple.tupleCompareSizes, bne] using hR
    case h =>
      exact ⟨rfl, 0, rfl, Nat.zero_le _, h0⟩
end
section
variable {prog : Program} {w : World} {A : Around} {E : Value → Shared → Prop} {s : Shared}
def opNe (ne : Bool) : CmpOp := if ne then .NotEq else .Eq
theorem rcL {p q : Addr} {N : Nat} {Q : Value → Shared → Prop} (ne : Bool) (hu : A.units < cLine) (J : Nat → Shared → Prop) (F : Shared → Prop) (hJ : LstI prog w A E p q N J F)
    (done : ∀ s, J N s → Q (.bool (!ne)) s) (fail : ∀ s, F s → Q (.bool ne) s) (hs : J 0 s) : wpAny (model prog w) A (richCompare (opNe ne) (.ref p) (.ref q)) Q E s := by
  obtain ⟨xs, ys, m, m2, gp, gq, _, _, _⟩ := hJ _ _ hs
  cases ne with
  | false =>
    refine wpAny_richCompare_same_room (op := .Eq) ⟨_, gp, rfl⟩ ⟨_, gq, rfl⟩ PySem.F.slot_list_eq (GQ.call_here PySem.F.slot_list_eq ⟨_, gp, rfl⟩ PySem.F.entry_list_eq (PySem.F.args_list_eq_2 _ _) ?_) hu
    exact listsB (R := wants (fun v s' => v ≠ .notImplemented ∧ Q v s') E) false true rfl p q N J F hJ (fun s' z => ⟨(fun x => nomatch x), done s' z⟩) (fun s' z => ⟨(fun x => nomatch x), fail s' z⟩) hs
  | true =>
    refine wpAny_richCompare_same_room (op := .NotEq) ⟨_, gp, rfl⟩ ⟨_, gq, rfl⟩ PySem.F.slot_list_ne (GQ.call_here PySem.F.slot_list_ne ⟨_, gp, rfl⟩ PySem.F.entry_list_ne (PySem.F.args_list_ne_2 _ _) ?_) hu
    exact listsB (R := wants (fun v s' => v ≠ .notImplemented ∧ Q v s') E) true false rfl p q N J F hJ (fun s' z => ⟨(fun x => nomatch x), done s' z⟩) (fun s' z => ⟨(fun x => nomatch x), fail s' z⟩) hs
theorem rcN {p q : Addr} {xs ys : Array Value} {m m2 : Nat} {Q : Value → Shared → Prop} (ne : Bool) (hu : A.units < cLine) (gp : s.heap.get? p = some { cls := .type "list", data := .seq xs m }) (gq : s.heap.get? q = some { cls := .type "list", data := .seq ys m2 }) (h : xs.size ≠ ys.size)
    (fail : Q (.bool ne) s) : wpAny (model prog w) A (richCompare (opNe ne) (.ref p) (.ref q)) Q E s := by
  cases ne with
  | false =>
    refine wpAny_richCompare_same_room (op := .Eq) ⟨_, gp, rfl⟩ ⟨_, gq, rfl⟩ PySem.F.slot_list_eq (GQ.call_here PySem.F.slot_list_eq ⟨_, gp, rfl⟩ PySem.F.entry_list_eq (PySem.F.args_list_eq_2 _ _) ?_) hu
    exact listsN (R := wants (fun v s' => v ≠ .notImplemented ∧ Q v s') E) false p q gp gq h ⟨(fun x => nomatch x), fail⟩
  | true =>
    refine wpAny_richCompare_same_room (op := .NotEq) ⟨_, gp, rfl⟩ ⟨_, gq, rfl⟩ PySem.F.slot_list_ne (GQ.call_here PySem.F.slot_list_ne ⟨_, gp, rfl⟩ PySem.F.entry_list_ne (PySem.F.args_list_ne_2 _ _) ?_) hu
    exact listsN (R := wants (fun v s' => v ≠ .notImplemented ∧ Q v s') E) true p q gp gq h ⟨(fun x => nomatch x), fail⟩
theorem rcT {p q : Addr} {xs ys : Array Value} {Q : Value → Shared → Prop} (ne : Bool) (hu : A.units < cLine) (J : Nat → Shared → Prop) (F : Shared → Prop) (hl : s.heap.IsTuple p xs) (hb : s.heap.IsTuple q ys)
    (turn : ∀ i (h1 : i < xs.size) (h2 : i < ys.size) s, J i s → wpAny (model prog w) A.in1 (eqBool xs[i] ys[i]) (fun r s' => (r = true → J (i + 1) s') ∧ (r = false → F s')) E s)
    (done : ∀ s, J (min xs.size ys.size) s → Q (.bool (ne ^^ (xs.size == ys.size))) s) (fail : ∀ s, F s → Q (.bool ne) s) (h : J 0 s) : wpAny (model prog w) A (richCompare (opNe ne) (.ref p) (.ref q)) Q E s := by
  obtain ⟨⟨cls, dd, data, sl⟩, ho, hc, n, hd⟩ := id hl
  obtain ⟨⟨cls2, dd2, data2, sl2⟩, ho2, hc2, n2, hd2⟩ := id hb
  simp only at hc hd hc2 hd2
  subst hc hd hc2 hd2
  cases ne with
  | false =>
    refine wpAny_richCompare_same_room (op := .Eq) ⟨_, ho, rfl⟩ ⟨_, ho2, rfl⟩ PySem.F.slot_tuple_eq (GQ.call_here PySem.F.slot_tuple_eq ⟨_, ho, rfl⟩ PySem.F.entry_tuple_eq (PySem.F.args_tuple_eq_2 _ _) ?_) hu
    exact tupsB (R := wants (fun v s' => v ≠ .notImplemented ∧ Q v s') E) false p q xs ys n n2 dd dd2 sl sl2 J F turn (fun s' z => ⟨(fun x => nomatch x), done s' z⟩) (fun s' z => ⟨(fun x => nomatch x), fail s' z⟩) ho ho2 h
  | true =>
    refine wpAny_richCompare_same_room (op := .NotEq) ⟨_, ho, rfl⟩ ⟨_, ho2, rfl⟩ PySem.F.slot_tuple_ne (GQ.call_here PySem.F.slot_tuple_ne ⟨_, ho, rfl⟩ PySem.F.entry_tuple_ne (PySem.F.args_tuple_ne_2 _ _) ?_) hu
    exact tupsB (R := wants (fun v s' => v ≠ .notImplemented ∧ Q v s') E) true p q xs ys n n2 dd dd2 sl sl2 J F turn (fun s' z => ⟨(fun x => nomatch x), done s' z⟩) (fun s' z => ⟨(fun x => nomatch x), fail s' z⟩) ho ho2 h
end
end KA
namespace KA
open PySem PySem.Spec PyProof.Rows L2
/-- two values, and what == tells of them -/
abbrev BEq2 := V → V → Bool → Hp → Prop
def MonB (D : BEq2) : Prop := ∀ x y b H H', Ext H H' → D x y b H → D x y b H'
def EqB (X : Cx) (n : Nat) (D : BEq2) : Prop :=
  ∀ (A : Around) (pins : List (Addr × Obj)) (s : Shared) (σ : L2.St) (H : Hp) (x y : V) (u v : Value) (b : Bool), Sub X n A → L2.Inv X pins σ H s → RelV x u → RelV y v → D x y b H →
    wpAny (model X.prog X.w) A (eqBool u v) (fun r s' => r = b ∧ ∃ H', L2.Inv X pins σ H' s' ∧ Ext H H') X.xe s
def RcB (X : Cx) (n : Nat) (ne : Bool) (D : BEq2) : Prop :=
  ∀ (A : Around) (pins : List (Addr × Obj)) (s : Shared) (σ : L2.St) (H : Hp) (x y : V) (u v : Value) (b : Bool), Sub X n A → L2.Inv X pins σ H s → RelV x u → RelV y v → D x y b H →
    wpAny (model X.prog X.w) A (richCompare (opNe ne) u v) (fun r s' => r = .bool (ne ^^ b) ∧ ∃ H', L2.Inv X pins σ H' s' ∧ Ext H H') X.xe s
section
variable {X : Cx} {n m : Nat} {D D' : BEq2}
theorem EqB.mono (h : EqB X n D) (hn : n ≤ m) : EqB X m D := fun A pins s σ H x y u v b sb => h A pins s σ H x y u v b (sb.mono hn)
theorem EqB.or (h : EqB X n D) (h' : EqB X n D') : EqB X n (fun x y b H => D x y b H ∨ D' x y b H) := fun A pins s σ H x y u v b sb I rx ry d => d.elim (fun d => h A pins s σ H x y u v b sb I rx ry d) (fun d => h' A pins s σ H x y u v b sb I rx ry d)
theorem MonB.or (h : MonB D) (h' : MonB D') : MonB (fun x y b H => D x y b H ∨ D' x y b H) := fun x y b H H' e d => d.elim (fun d => .inl (h x y b H H' e d)) fun d => .inr (h' x y b H H' e d)
/-- flat values -/
def BFlat : BEq2 := fun x y b _ => flatV x = true ∧ flatV y = true ∧ eqV x y = b
theorem monB_flat : MonB BFlat := fun _ _ _ _ _ _ d => d
theorem eqB_flat : EqB X 0 BFlat := by
  intro A pins s σ H x y u v b sb I rx ry d
  obtain ⟨fx, fy, e⟩ := d
  have q := eqAt_V (A := A) (s := s) rx ry fx fy
  rw [e] at q
  exact q X.prog X.w X.xe _ ⟨rfl, H, I, Ext.rfl'⟩
/-- item by item, as far as both go -/
def PrsB (D : BEq2) (xs ys : List V) (f : Nat → Bool) (H : Hp) : Prop := ∀ (i : Nat) x y, xs[i]? = some x → ys[i]? = some y → D x y (f i) H
theorem turnB (hD : MonB D) (h : EqB X n D) {A : Around} (sb : Sub X (n + 1) A) {pins : List (Addr × Obj)} {σ : L2.St} {H : Hp} {xs ys : List V} {its its2 : List Value} {f : Nat → Bool} (p : PrsB D xs ys f H) (r : Vals xs its) (r2 : Vals ys its2)
    (i : Nat) (h1 : i < its.toArray.size) (h2 : i < its2.toArray.size) (s' : Shared) (l : LoopI X pins σ H s') :
    wpAny (model X.prog X.w) A.in1 (eqBool its.toArray[i] its2.toArray[i]) (fun r s2 => r = f i ∧ LoopI X pins σ H s2) X.xe s' := by
  obtain ⟨H1, I1, e1⟩ := l
  have l1 : i < its.length := by simpa using h1
  have l2 : i < its2.length := by simpa using h2
  have k1 : i < xs.length := by rw [r.length]; exact l1
  have k2 : i < ys.length := by rw [r2.length]; exact l2
  obtain ⟨u, hu, ru⟩ := r.get (List.getElem?_eq_getElem k1)
  obtain ⟨v, hv, rv⟩ := r2.get (List.getElem?_eq_getElem k2)
  have g1 : its.toArray[i] = u := by
    rw [List.getElem?_eq_getElem l1] at hu
    simpa using Option.some.inj hu
  have g2 : its2.toArray[i] = v := by
    rw [List.getElem?_eq_getElem l2] at hv
    simpa using Option.some.inj hv
  rw [g1, g2]
  refine wpAny_mono (h A.in1 pins s' σ H1 _ _ u v _ sb.in1 I1 ru rv (hD _ _ _ _ _ e1 (p i _ _ (List.getElem?_eq_getElem k1) (List.getElem?_eq_getElem k2)))) (fun r s2 q => ?_) fun _ _ x => x
  obtain ⟨hr, H2, I2, e2⟩ := q
  exact ⟨hr, H2, I2, e1.trans e2⟩
def allF (N : Nat) (f : Nat → Bool) : Bool := (List.range N).all f
theorem allF_true {N : Nat} {f : Nat → Bool} (h : ∀ j, j < N → f j = true) : allF N f = true := by
  unfold allF
  rw [List.all_eq_true]
  exact fun j hj => h j (List.mem_range.mp hj)
theorem allF_false {N j : Nat} {f : Nat → Bool} (h : j < N) (e : f j = false) : allF N f = false := by
  unfold allF
  rw [List.all_eq_false]
  exact ⟨j, List.mem_range.mpr h, by rw [e]; exact Bool.false_ne_true⟩
def BList (D : BEq2) : BEq2 := fun x y b H => ∃ (p q : Addr) (xs ys : List V) (f : Nat → Bool), x = .ref p ∧ y = .ref q ∧ H p = some (.lst xs) ∧ H q = some (.lst ys) ∧ (xs.length = ys.length → PrsB D xs ys f H) ∧ b = (decide (xs.length = ys.length) && allF xs.length f)
def BTup (K : PySem.W.Frag) (D : BEq2) : BEq2 := fun x y b H => ∃ (p q : Addr) (xs ys : List V) (f : Nat → Bool), x = .ref p ∧ y = .ref q ∧ SqT K H p xs ∧ SqT K H q ys ∧ PrsB D xs ys f H ∧ b = (decide (xs.length = ys.length) && allF xs.length f)
theorem PrsB.mon (hD : MonB D) {xs ys : List V} {f : Nat → Bool} {H H' : Hp} (e : Ext H H') (p : PrsB D xs ys f H) : PrsB D xs ys f H' := fun i x y h1 h2 => hD x y _ H H' e (p i x y h1 h2)
theorem monB_list (hD : MonB D) : MonB (BList D) := fun x y b H H' e d => by
  obtain ⟨p, q, xs, ys, f, hx, hy, h1, h2, pr, hb⟩ := d
  exact ⟨p, q, xs, ys, f, hx, hy, e _ _ h1, e _ _ h2, fun z => (pr z).mon hD e, hb⟩
theorem monB_tup {K : PySem.W.Frag} (hD : MonB D) : MonB (BTup K D) := fun x y b H H' e d => by
  obtain ⟨p, q, xs, ys, f, hx, hy, h1, h2, pr, hb⟩ := d
  exact ⟨p, q, xs, ys, f, hx, hy, h1.ext e, h2.ext e, pr.mon hD e, hb⟩
theorem rcB_list (ne : Bool) (hD : MonB D) (h : EqB X n D) : RcB X (n + 1) ne (BList D) := by
  intro A pins s σ H x y u v b sb I rx ry d
  obtain ⟨p, q, xs, ys, f, rfl, rfl, hp, hq, pr, rfl⟩ := d
  cases rx
  cases ry
  by_cases hl : xs.length = ys.length
  · have pr := pr hl
    have look : ∀ s', LoopI X pins σ H s' → ∃ (as bs : List Value) (m m2 : Nat), Vals xs as ∧ Vals ys bs ∧ s'.heap.get? p = some { cls := .type "list", data := .seq as.toArray m } ∧ s'.heap.get? q = some { cls := .type "list", data := .seq bs.toArray m2 } ∧ as.toArray.size = xs.length ∧ bs.toArray.size = xs.length := fun s' z => by
      obtain ⟨H1, I1, e1⟩ := id z
      obtain ⟨_, its, k, r, e⟩ := I1.hok p _ (e1 _ _ hp)
      obtain ⟨_, its2, k2, r2, e2⟩ := I1.hok q _ (e1 _ _ hq)
      exact ⟨its, its2, k, k2, r, r2, e, e2, by rw [List.size_toArray, ← r.length], by rw [List.size_toArray, ← r2.length, hl]⟩
    refine rcL (N := xs.length) ne sb.room.units0 (fun i s' => LoopI X pins σ H s' ∧ ∀ j, j < i → f j = true) (fun s' => LoopI X pins σ H s' ∧ ∃ j, j < xs.length ∧ f j = false) (fun i s' z => ?_) (fun s' z => ?_) (fun s' z => ?_) ⟨⟨H, I, Ext.rfl'⟩, fun j hj => absurd hj (Nat.not_lt_zero _)⟩
    · obtain ⟨z, hf⟩ := z
      obtain ⟨as, bs, k, k2, r, r2, e, e2, z1, z2⟩ := look s' z
      refine ⟨_, _, k, k2, e, e2, z1, z2, fun g1 g2 => wpAny_mono (turnB hD h sb pr r r2 i g1 g2 s' z) (fun r s2 q2 => ?_) fun _ _ x => x⟩
      obtain ⟨rfl, q2⟩ := q2
      refine ⟨fun t => ⟨q2, fun j hj => ?_⟩, fun t => ⟨⟨q2, i, by omega, t⟩, ?_⟩⟩
      · by_cases hji : j = i
        · rw [hji]; exact t
        · exact hf j (by omega)
      · obtain ⟨as, bs, k, k2, r, r2, e, e2, z1, z2⟩ := look s2 q2
        exact ⟨_, _, k, k2, e, e2, z1, z2⟩
    · obtain ⟨⟨H1, z⟩, hf⟩ := z
      refine ⟨?_, H1, z⟩
      rw [decide_eq_true hl, allF_true hf]
      cases ne <;> rfl
    · obtain ⟨⟨H1, z⟩, j, hj, e⟩ := z
      refine ⟨?_, H1, z⟩
      rw [allF_false hj e, Bool.and_false, Bool.xor_false]
  · obtain ⟨_, its, k, r, e⟩ := I.hok p _ hp
    obtain ⟨_, its2, k2, r2, e2⟩ := I.hok q _ hq
    refine rcN ne sb.room.units0 e e2 (by rw [List.size_toArray, List.size_toArray, ← r.length, ← r2.length]; exact hl) ⟨?_, H, I, Ext.rfl'⟩
    rw [decide_eq_false hl, Bool.false_and, Bool.xor_false]
theorem rcB_tup (ne : Bool) (hD : MonB D) (h : EqB X n D) : RcB X (n + 1) ne (BTup X.K D) := by
  intro A pins s σ H x y u v b sb I rx ry d
  obtain ⟨p, q, xs, ys, f, rfl, rfl, hp, hq, pr, rfl⟩ := d
  cases rx
  cases ry
  obtain ⟨its, r, e, z⟩ := I.tuple hp
  obtain ⟨its2, r2, e2, z2⟩ := I.tuple hq
  have w1 : its.toArray.size = xs.length := by rw [List.size_toArray, ← r.length]
  have w2 : its2.toArray.size = ys.length := by rw [List.size_toArray, ← r2.length]
  refine rcT ne sb.room.units0 (fun i s' => LoopI X pins σ H s' ∧ ∀ j, j < i → f j = true) (fun s' => LoopI X pins σ H s' ∧ ∃ j, j < xs.length ∧ f j = false) e e2 (fun i g1 g2 s' z => ?_) (fun s' z => ?_) (fun s' z => ?_) ⟨⟨H, I, Ext.rfl'⟩, fun j hj => absurd hj (Nat.not_lt_zero _)⟩
  · obtain ⟨z, hf⟩ := z
    refine wpAny_mono (turnB hD h sb pr r r2 i g1 g2 s' z) (fun r s2 q2 => ?_) fun _ _ x => x
    obtain ⟨rfl, q2⟩ := q2
    refine ⟨fun t => ⟨q2, fun j hj => ?_⟩, fun t => ⟨q2, i, by omega, t⟩⟩
    by_cases hji : j = i
    · rw [hji]; exact t
    · exact hf j (by omega)
  · obtain ⟨⟨H1, z⟩, hf⟩ := z
    refine ⟨?_, H1, z⟩
    rw [w1, w2] at hf ⊢
    by_cases hl : xs.length = ys.length
    · rw [decide_eq_true hl, allF_true (fun j hj => hf j (by omega)), hl]
      simp
    · rw [decide_eq_false hl]
      have : (xs.length == ys.length) = false := by simpa using hl
      rw [this]
      rfl
  · obtain ⟨⟨H1, z⟩, j, hj, e⟩ := z
    refine ⟨?_, H1, z⟩
    rw [allF_false hj e, Bool.and_false, Bool.xor_false]
/-- x == y, x != y as expressions -/
def rEqB (ne : Bool) (D : BEq2) : R2 := fun x y H Q => ∃ b, D x y b H ∧ ∀ H', Ext H H' → Q (.bl (ne ^^ b)) H'
theorem op_eqB (h : RcB X n false D) (hr : Room n X.A) : OpR X (compareOp .Eq) (rEqB false D) := by
  intro pins s σ H x y v u Q I rx ry hq
  obtain ⟨b, d, q⟩ := hq
  show wpAny (model X.prog X.w) X.A (richCompare .Eq v u) (EP X pins σ Q) X.xe s
  refine wpAny_mono (h X.A pins s σ H x y v u b ⟨hr, rfl⟩ I rx ry d) (fun r s' z => ?_) fun _ _ x => x
  obtain ⟨rfl, H', I', e⟩ := z
  exact ⟨.bl _, H', I', rfl, q H' e⟩
theorem op_neB (h : RcB X n true D) (hr : Room n X.A) : OpR X (compareOp .NotEq) (rEqB true D) := by
  intro pins s σ H x y v u Q I rx ry hq
  obtain ⟨b, d, q⟩ := hq
  show wpAny (model X.prog X.w) X.A (richCompare .NotEq v u) (EP X pins σ Q) X.xe s
  refine wpAny_mono (h X.A pins s σ H x y v u b ⟨hr, rfl⟩ I rx ry d) (fun r s' z => ?_) fun _ _ x => x
  obtain ⟨rfl, H', I', e⟩ := z
  exact ⟨.bl _, H', I', rfl, q H' e⟩
end
end KA
namespace KA
open PySem PySem.Spec PySem.W PyProof.Rows
section
variable {prog : Program} {w : World} {A : Around} {E : Value → Shared → Prop} {s : Shared} {K : Frag} {x C f : Addr} {ox : Obj} {od : Option Obj}
theorem none_eq_ref {Q : Value → Shared → Prop} (h : Q .notImplemented s) : wpAny (model prog w) A (call (.builtin "NoneType.__eq__") [.none, .ref x]) Q E s := by
  refine wpAny_call_entry PySem.F.slot_NoneType_eq (typeIs_none s) PySem.F.entry_NoneType_eq ?_ (PySem.F.args_NoneType_eq_2 _ _)
  unfold Builtin.«NoneType.__eq__»
  wp_walk
  exact ⟨_, rfl, h⟩
/-- None == x, x an instance whose class has its own == : that one is asked -/
theorem cmp_none {Q : Value → Shared → Prop} (hu : A.units < cLine) (X : K.In s.heap) (I : InstAt s.heap x ox C od) (hn : subIn K (.ref C) (.type "NoneType") = some false)
    (hs : findIn K (.ref C) "__eq__" = some (some (.ref f))) (hf : isFn K (.ref f) = true)
    (h : wpAny (model prog w) A (call (.ref f) [.ref x, .none]) (PySem.W.CmpBack Q) E s) : wpAny (model prog w) A (richCompare .Eq .none (.ref x)) Q E s := by
  have one : wpAny (model prog w) A (tryCompare (.ref x) "__eq__" .none) (fun r s' => ∃ v, r = some v ∧ Q v s') E s := by
    unfold tryCompare
    refine wpAny_bind (ifBound_K X I hs hf (wpAny_mono h (fun v s' hv => ?_) fun _ _ e => e))
    cases v <;> first | exact hv.elim | exact wpAny_pure ⟨_, rfl, hv⟩
  have two : wpAny (model prog w) A (tryCompare .none "__eq__" (.ref x)) (fun r s' => r = none ∧ s' = s) E s := by
    unfold tryCompare
    refine wpAny_bind (wpAny_callSpecialIfBound?_slot (name := (cmpInfo .Eq).2.1) (typeIs_none s) PySem.F.slot_NoneType_eq (none_eq_ref ?_))
    exact wpAny_pure ⟨rfl, rfl⟩
  unfold richCompare
  refine wpAny_holding (wpAny_bind (wpAny_cRoomFor hu ?_))
  rw [show oneThing? .Eq .none (.ref x) = none from rfl]
  refine wpAny_bind (wpAny_typeOf (typeIs_none s) (wpAny_bind (I.type.here ?_)))
  refine PySem.W.KFB.if_so rfl (wpAny_bind ((looks_subIn X hn).here ?_))
  refine PySem.W.KFB.if_not rfl ?_
  refine wpAny_bind (wpAny_mono two (fun r s' z => ?_) fun _ _ e => e)
  obtain ⟨rfl, rfl⟩ := z
  refine PySem.W.KFB.if_so rfl (wpAny_bind (wpAny_mono one (fun r s' z => ?_) fun _ _ e => e))
  obtain ⟨v, rfl, hq⟩ := z
  exact wpAny_pure hq
end
end KA

namespace KA
open PySem PySem.Spec PyProof.Rows L2
/-- eqBool of what is not one thing, by the rich comparison -/
theorem eqBool_by {prog : Program} {w : World} {A : Around} {E : Value → Shared → Prop} {s : Shared} {u v : Value} {Q : Bool → Shared → Prop} (hu : (∃ a, u = .ref a) ∨ u = .none) (hne : (u == v) = false)
    (h : wpAny (model prog w) A (richCompare .Eq u v) (fun r s' => ∃ b, r = .bool b ∧ Q b s') E s) : wpAny (model prog w) A (eqBool u v) Q E s := by
  unfold eqBool
  refine wpAny_holding ?_
  refine wpAny_ite_split (fun hab => by rw [hne] at hab; cases hab) (fun _ => ?_)
  rcases hu with ⟨a, rfl⟩ | rfl
  · refine wpAny_bind (wpAny_mono h (fun r s' hv => ?_) fun _ _ x => x)
    obtain ⟨b, rfl, q⟩ := hv
    exact wpAny_truthy_bool q
  · refine wpAny_bind (wpAny_mono h (fun r s' hv => ?_) fun _ _ x => x)
    obtain ⟨b, rfl, q⟩ := hv
    exact wpAny_truthy_bool q
/-- what an own == promises: R tells its answer -/
def spEqO (R : Addr → V → Bool → Hp → Prop) : Sp := fun vs H Q _ => ∃ (a : Addr) (y : V) (b : Bool), vs = [.ref a, y] ∧ R a y b H ∧ ∀ H', Ext H H' → Q (.bl b) H'
section
variable {X : Cx} {n : Nat} {CX : CXT} {C f : Addr} {fd : FuncData} {ps : List Str} {R : Addr → V → Bool → Hp → Prop} {E : XK}
theorem run_eqO {A : Around} {pins : List (Addr × Obj)} {σ : L2.St} {H : Hp} {s : Shared} {a : Addr} {y : V} {v : Value} {b : Bool} (F : FnOk X.prog X.w X.K X.mg X.base CX n f fd ps (spEqO R)) (hb : Binds X.K fd ps []) (hx : Passes CX X E) (sb : Sub X n A) (I : L2.Inv X pins σ H s)
    (ry : RelV y v) (d : R a y b H) : wpAny (model X.prog X.w) A (call (.ref f) [.ref a, v]) (PySem.W.CmpBack fun r s' => r = .bool b ∧ ∃ H', L2.Inv X pins σ H' s' ∧ Ext H H') X.xe s := by
  have hsp : spEqO R [.ref a, y] H (fun z H' => z = .bl b ∧ Ext H H') E := ⟨a, y, b, rfl, d, fun H' e => ⟨rfl, e⟩⟩
  have e0 : Env0 X.prog X.w X.K X.mg X.base A X.stack s H := by
    have e := I.env0
    exact ⟨by rw [sb.fr]; exact e.frames, e.mod, e.bs, e.bsz, e.funs, e.frf, e.hok, e.bare⟩
  have hl := F.len _ _ _ _ hsp
  have r2 : Vals [V.ref a, y] [Value.ref a, v] := .cons rfl (.cons ry .nil)
  refine wpAny_call (codeAny_mono (F.run A X.stack s H ⟨[.ref a, v], []⟩ [.ref a, v] [.ref a, y] _ E sb.room e0 (by
    have := hb s [.ref a, v] I.kIn (by simpa using hl)
    simpa using this) r2 hsp) fun r s' hq => ?_)
  cases r with
  | error e => exact hx pins σ H s e s' I hq
  | ok fl =>
    cases fl with
    | ret z =>
      obtain ⟨z, H', I', rz, ez, ex⟩ := I.after hq
      subst ez
      cases rz
      exact ⟨rfl, H', I', ex⟩
    | next => exact False.elim hq
    | brk => exact False.elim hq
    | cont => exact False.elim hq
/-- an instance of the class at C beside anything, or None beside an instance -/
def BOwn (K : PySem.W.Frag) (C : Addr) (R : Addr → V → Bool → Hp → Prop) : BEq2 := fun x y b H =>
  (∃ (a dx : Addr) (fs : List (Str × V)) (t : Value), x = .ref a ∧ H a = some (.ins C dx fs) ∧ TyX K H y t ∧ PySem.W.notFirst K C t = true ∧ R a y b H ∧ (y = .ref a → b = true)) ∨
  ∃ (a dx : Addr) (fs : List (Str × V)), x = .non ∧ y = .ref a ∧ H a = some (.ins C dx fs) ∧ R a .non b H
theorem rcB_own (F : FnOk X.prog X.w X.K X.mg X.base CX n f fd ps (spEqO R)) (hs : PySem.W.findIn X.K (.ref C) "__eq__" = some (some (.ref f))) (hf : PySem.W.isFn X.K (.ref f) = true) (hb : Binds X.K fd ps []) (hx : Passes CX X E)
    (hn : PySem.W.subIn X.K (.ref C) (.type "NoneType") = some false) : RcB X n false (BOwn X.K C R) := by
  intro A pins s σ H x y u v b sb I rx ry d
  have fin : (false ^^ b) = b := Bool.false_xor b
  rw [fin]
  rcases d with ⟨a, dx, fs, t, rfl, ha, ty, nf, hR, _⟩ | ⟨a, dx, fs, rfl, rfl, ha, hR⟩
  · cases rx
    obtain ⟨mA, J, _⟩ := ins_get I.hok ha
    obtain ⟨od, J, _⟩ := J.look
    obtain ⟨Pz, Z, p, _⟩ := kit_of I ry ty
    obtain ⟨m, hF⟩ := I.fr
    exact PySem.W.cmp_K (op := .Eq) (tb := t) sb.room.units0 hF I.ok.mod.kin J (Z.ty _ _ I.kIn p) nf hs hf (run_eqO F hb hx sb I ry hR)
  · cases rx
    cases ry
    obtain ⟨mA, J, _⟩ := ins_get I.hok ha
    obtain ⟨od, J, _⟩ := J.look
    exact cmp_none sb.room.units0 I.kIn J hn hs hf (run_eqO (y := .non) F hb hx sb I rfl hR)
theorem eqB_own (F : FnOk X.prog X.w X.K X.mg X.base CX n f fd ps (spEqO R)) (hs : PySem.W.findIn X.K (.ref C) "__eq__" = some (some (.ref f))) (hf : PySem.W.isFn X.K (.ref f) = true) (hb : Binds X.K fd ps []) (hx : Passes CX X E)
    (hn : PySem.W.subIn X.K (.ref C) (.type "NoneType") = some false) : EqB X n (BOwn X.K C R) := by
  intro A pins s σ H x y u v b sb I rx ry d
  by_cases hsame : (u == v) = true
  · have e := eq_of_beq hsame
    subst e
    have hb1 : b = true := by
      rcases d with ⟨a, dx, fs, t, rfl, ha, ty, nf, hR, h⟩ | ⟨a, dx, fs, rfl, rfl, ha, hR⟩
      · cases rx
        refine h ?_
        cases y with
        | ref c =>
          cases ry
          rfl
        | non => cases ry
        | bl _ => cases ry
        | int _ => obtain ⟨_, z⟩ := ry; cases z
        | str _ => obtain ⟨_, z⟩ := ry; cases z
        | byt _ => obtain ⟨_, z⟩ := ry; cases z
        | flt _ => obtain ⟨_, z⟩ := ry; cases z
        | ty _ => cases ry
      · cases rx
        cases ry
    rw [hb1]
    exact SeqAt.EqAt.same (A := A) (s := s) u X.prog X.w X.xe _ ⟨rfl, H, I, Ext.rfl'⟩
  · have hu : (∃ a, u = .ref a) ∨ u = .none := by
      rcases d with ⟨a, dx, fs, t, rfl, ha, ty, nf, hR, h⟩ | ⟨a, dx, fs, rfl, rfl, ha, hR⟩
      · cases rx
        exact .inl ⟨_, rfl⟩
      · cases rx
        exact .inr rfl
    refine eqBool_by hu (by simpa using hsame) (wpAny_mono (rcB_own F hs hf hb hx hn A pins s σ H x y u v b sb I rx ry d) (fun r s' q => ?_) fun _ _ x => x)
    obtain ⟨hr, q⟩ := q
    exact ⟨b, by rw [hr, Bool.false_xor], rfl, q⟩
theorem monB_own {K : PySem.W.Frag} (hR : ∀ a y b H H', Ext H H' → R a y b H → R a y b H') : MonB (BOwn K C R) := fun x y b H H' e d => by
  rcases d with ⟨a, dx, fs, t, hx, ha, ty, nf, r, h⟩ | ⟨a, dx, fs, hx, hy, ha, r⟩
  · exact .inl ⟨a, dx, fs, t, hx, e _ _ ha, tyx_same e ty, nf, hR _ _ _ _ _ e r, h⟩
  · exact .inr ⟨a, dx, fs, hx, hy, e _ _ ha, hR _ _ _ _ _ e r⟩
end
end KA
namespace KA
open PySem PySem.Spec PyProof.Rows L2
section
variable {X : Cx} {a b : Expr} {ta tb : TE} {rest : List Expr} {pos : Pos} {K' : PySem.W.Frag}
/-- the truth of a value, of an instance of an own class without __bool__ and __len__, too -/
def TruW (K : PySem.W.Frag) (x : V) (H : Hp) (k : Bool) : Prop := TruV K x H k ∨ ∃ (a C dx : Addr) (fs : List (Str × V)), x = .ref a ∧ H a = some (.ins C dx fs) ∧ PySem.W.findIn K (.ref C) "__bool__" = some none ∧ PySem.W.findIn K (.ref C) "__len__" = some none ∧ k = true
theorem truW_ok : TruR X (fun x H Q => ∃ k, TruW X.K x H k ∧ Q k H) := by
  intro pins s σ H x v Q I rx h
  obtain ⟨k, h | ⟨a, C, dx, fs, rfl, ha, hb, hl, rfl⟩, q⟩ := h
  · exact tru_ok pins s σ H x v Q I rx ⟨k, h, q⟩
  · cases rx
    obtain ⟨mA, J, _⟩ := ins_get I.hok ha
    obtain ⟨od, J, _⟩ := J.look
    obtain ⟨m, hF⟩ := I.fr
    exact PySem.W.truthy_K0 hF I.ok.mod.kin J hb hl ⟨H, I, q⟩
def tAndW (K : PySem.W.Frag) (ta tb : TE) : TE := fun σ H Q => ta σ H fun x H1 => ∃ k, TruW K x H1 k ∧ if k = true then tb σ H1 Q else Q x H1
theorem pe_andW (hK : X.K = K') (ha : PE X a ta) (hb : PE X (.BoolOp .And (b :: rest) pos) tb) : PE X (.BoolOp .And (a :: b :: rest) pos) (tAndW K' ta tb) := by
  subst hK
  refine ⟨fun pins s σ H Q I h => ?_⟩
  refine BoolOp_and (thn (ha.run pins s σ H _ I h) fun v s1 ⟨x, H1, I1, r1, k, e, q1⟩ => ?_)
  refine thn (truW_ok pins s1 σ H1 x v (fun c H2 => c = k ∧ H2 = H1) I1 r1 ⟨k, e, rfl, rfl⟩) fun c s2 ⟨H2, I2, e1, e2⟩ => ?_
  subst e2 e1
  cases c with
  | true => exact hb.run pins s2 σ H2 Q I2 q1
  | false => exact ⟨x, H2, I2, r1, q1⟩
theorem op_catAK (hK : X.K = K') : OpR X (binaryOp .Add) (rCatA K') := by
  subst hK
  exact op_catA
end
end KA
namespace KA
open PySem PySem.SeqAt
open AutoSeq1 (wpAny_loadPart')
open MeetsSeq MeetsSeq2 MeetsSeq3 SeqRoads2
section
variable {prog : Program} {w : World} {A : Around} {R : Result → Shared → Prop}
/-- a list, read anew at each turn: the item is told equal to x or not -/
def ItI (prog : Program) (w : World) (A : Around) (E : Value → Shared → Prop) (p : Addr) (x : Value) (N : Nat) (J : Nat → Nat → Shared → Prop) (T : Nat → Nat → Bool → Shared → Prop) : Prop :=
  ∀ i c s, J i c s → ∃ (xs : Array Value) (m : Nat), s.heap.get? p = some { cls := .type "list", data := .seq xs m } ∧ xs.size = N ∧
    ∀ (g1 : i < xs.size), wpAny (model prog w) A.in1 (eqBool xs[i] x) (fun r s' => T i c r s') E s
theorem inB (p : Addr) (x : Value) (N : Nat) (J : Nat → Nat → Shared → Prop) (F : Shared → Prop) (hJ : ItI prog w A (fun e s' => R (.error e) s') p x N J (fun i c r s' => (r = false → J (i + 1) c s') ∧ (r = true → F s')))
    (done : ∀ c s, J N c s → R (.ok (.ret (.bool false))) s) (hit : ∀ s, F s → R (.ok (.ret (.bool true))) s) : ∀ (k i c : Nat), N - i = k → i ≤ N → ∀ s, J i c s →
      wpAny (model prog w) A.in1 (Builtin.«list.__contains__.loop» ⟨[.ref p, x, rawInt i], []⟩) (GQ.FinOf prog w A R) (fun e s' => R (.error e) s') s
  | 0, i, c, hk, hi, s, hs => by
    obtain ⟨xs, m, gp, zp, _⟩ := hJ _ _ _ hs
    have iN : i = N := by omega
    have last : R (.ok (.ret (.bool false))) s := done c s (iN ▸ hs)
    have n1 : xs[((i : Nat) : Int).toNat]? = none := by simp; omega
    obtain ⟨hh, gg, dd, kk, oo⟩ := s
    wp_walk using wpAny_loadPart' gp
    rw [n1]
    wp_walk
    exact last
  | k + 1, i, c, hk, hi, s, hs => by
    obtain ⟨xs, m, gp, zp, tn⟩ := hJ _ _ _ hs
    have ip : i < xs.size := by omega
    have tt := tn ip
    have n1 : xs[((i : Nat) : Int).toNat]? = some xs[i] := by simp [ip]
    have up : ((i : Int) + 1) = ((i + 1 : Nat) : Int) := by omega
    have next := fun s2 h2 => inB p x N J F hJ done hit k (i + 1) c (by omega) (by omega) s2 h2
    obtain ⟨hh, gg, dd, kk, oo⟩ := s
    wp_walk using wpAny_loadPart' gp
    rw [n1]
    refine wpAny_bind (wpAny_mono tt (fun r s2 h2 => ?_) fun _ _ x => x)
    cases r with
    | false =>
      have h3 := next s2 (h2.1 rfl)
      obtain ⟨hh2, gg2, dd2, kk2, oo2⟩ := s2
      wp_walk
      rw [up]
      exact ⟨plainId_quiet plain_contains_loop _, codeAny_builtin entry_contains_loop (by rw [Around.under_plainId plain_contains_loop _]; exact h3)⟩
    | true =>
      have h3 := hit s2 (h2.2 rfl)
      obtain ⟨hh2, gg2, dd2, kk2, oo2⟩ := s2
      wp_walk
      exact h3
theorem containsB (p : Addr) (x : Value) (N : Nat) (J : Nat → Nat → Shared → Prop) (F : Shared → Prop) (hJ : ItI prog w A (fun e s' => R (.error e) s') p x N J (fun i c r s' => (r = false → J (i + 1) c s') ∧ (r = true → F s')))
    (done : ∀ c s, J N c s → R (.ok (.ret (.bool false))) s) (hit : ∀ s, F s → R (.ok (.ret (.bool true))) s) {s : Shared} (hs : J 0 0 s) :
      wpAny (model prog w) A.in1 (Builtin.«list.__contains__» ⟨[.ref p, x], []⟩) (GQ.FinOf prog w A R) (fun e s' => R (.error e) s') s := by
  have all := inB p x N J F hJ done hit _ 0 0 rfl (Nat.zero_le _) s hs
  obtain ⟨xs, m, gp, zp, _⟩ := hJ _ _ _ hs
  obtain ⟨hh, gg, dd, kk, oo⟩ := s
  wp_walk using wpAny_loadPart' gp
  exact ⟨plainId_quiet plain_contains_loop _, codeAny_builtin entry_contains_loop (by rw [Around.under_plainId plain_contains_loop _]; exact all)⟩
theorem cntB (p : Addr) (x : Value) (N : Nat) (J : Nat → Nat → Shared → Prop) (hJ : ItI prog w A (fun e s' => R (.error e) s') p x N J (fun i c r s' => J (i + 1) (if r then c + 1 else c) s'))
    (done : ∀ c s, J N c s → R (.ok (.ret (.int (c : Int) s.toks))) { s with toks := s.toks + 1 }) : ∀ (k i c : Nat), N - i = k → i ≤ N → ∀ s, J i c s →
      wpAny (model prog w) A.in1 (Builtin.«list.count.loop» ⟨[.ref p, x, rawInt i, rawInt c], []⟩) (GQ.FinOf prog w A R) (fun e s' => R (.error e) s') s
  | 0, i, c, hk, hi, s, hs => by
    obtain ⟨xs, m, gp, zp, _⟩ := hJ _ _ _ hs
    have iN : i = N := by omega
    have last := done c s (iN ▸ hs)
    have n1 : xs[((i : Nat) : Int).toNat]? = none := by simp; omega
    obtain ⟨hh, gg, dd, kk, oo⟩ := s
    wp_walk using wpAny_loadPart' gp
    rw [n1]
    wp_walk
    exact last
  | k + 1, i, c, hk, hi, s, hs => by
    obtain ⟨xs, m, gp, zp, tn⟩ := hJ _ _ _ hs
    have ip : i < xs.size := by omega
    have tt := tn ip
    have n1 : xs[((i : Nat) : Int).toNat]? = some xs[i] := by simp [ip]
    have up : ((i : Int) + 1) = ((i + 1 : Nat) : Int) := by omega
    have up2 : ((c : Int) + 1) = ((c + 1 : Nat) : Int) := by omega
    have next := fun c' s2 h2 => cntB p x N J hJ done k (i + 1) c' (by omega) (by omega) s2 h2
    obtain ⟨hh, gg, dd, kk, oo⟩ := s
    wp_walk using wpAny_loadPart' gp
    rw [n1]
    refine wpAny_bind (wpAny_mono tt (fun r s2 h2 => ?_) fun _ _ x => x)
    cases r with
    | false =>
      have h3 := next c s2 h2
      obtain ⟨hh2, gg2, dd2, kk2, oo2⟩ := s2
      wp_walk
      simp only [Bool.false_eq_true, if_false]
      rw [up]
      exact ⟨plainId_quiet plain_count_loop _, codeAny_builtin entry_count_loop (by rw [Around.under_plainId plain_count_loop _]; exact h3)⟩
    | true =>
      have h3 := next (c + 1) s2 h2
      obtain ⟨hh2, gg2, dd2, kk2, oo2⟩ := s2
      wp_walk
      simp only [if_true]
      rw [up, up2]
      exact ⟨plainId_quiet plain_count_loop _, codeAny_builtin entry_count_loop (by rw [Around.under_plainId plain_count_loop _]; exact h3)⟩
theorem countB (p : Addr) (x : Value) (N : Nat) (J : Nat → Nat → Shared → Prop) (hJ : ItI prog w A (fun e s' => R (.error e) s') p x N J (fun i c r s' => J (i + 1) (if r then c + 1 else c) s'))
    (done : ∀ c s, J N c s → R (.ok (.ret (.int (c : Int) s.toks))) { s with toks := s.toks + 1 }) {s : Shared} (hs : J 0 0 s) :
      wpAny (model prog w) A.in1 (Builtin.«list.count» ⟨[.ref p, x], []⟩) (GQ.FinOf prog w A R) (fun e s' => R (.error e) s') s := by
  have all := cntB p x N J hJ done _ 0 0 rfl (Nat.zero_le _) s hs
  obtain ⟨xs, m, gp, zp, _⟩ := hJ _ _ _ hs
  obtain ⟨hh, gg, dd, kk, oo⟩ := s
  wp_walk using wpAny_loadPart' gp
  exact ⟨plainId_quiet plain_count_loop _, codeAny_builtin entry_count_loop (by rw [Around.under_plainId plain_count_loop _]; exact all)⟩
theorem idxB (upto : Int) (p : Addr) (x : Value) (N : Nat) (hN : (N : Int) < upto) (J : Nat → Nat → Shared → Prop) (hJ : ItI prog w A (fun e s' => R (.error e) s') p x N J (fun i c r s' => (r = false → J (i + 1) c s') ∧ (r = true → R (.ok (.ret (.int (i : Int) s'.toks))) { s' with toks := s'.toks + 1 })))
    (done : ∀ c s, ¬ J N c s) : ∀ (k i c : Nat), N - i = k → i ≤ N → ∀ s, J i c s →
      wpAny (model prog w) A.in1 (Builtin.«list.index.loop» ⟨[.ref p, x, rawInt i, rawInt upto], []⟩) (GQ.FinOf prog w A R) (fun e s' => R (.error e) s') s
  | 0, i, c, hk, hi, s, hs => by
    have iN : i = N := by omega
    exact absurd (iN ▸ hs) (done c s)
  | k + 1, i, c, hk, hi, s, hs => by
    obtain ⟨xs, m, gp, zp, tn⟩ := hJ _ _ _ hs
    have ip : i < xs.size := by omega
    have tt := tn ip
    have hst : (i : Int) < upto := by omega
    have n1 : (if (i : Int) < upto then xs[((i : Nat) : Int).toNat]? else none) = some xs[i] := by rw [if_pos hst]; simp [ip]
    have up : ((i : Int) + 1) = ((i + 1 : Nat) : Int) := by omega
    have next := fun s2 h2 => idxB upto p x N hN J hJ done k (i + 1) c (by omega) (by omega) s2 h2
    obtain ⟨hh, gg, dd, kk, oo⟩ := s
    wp_walk using wpAny_loadPart' gp
    rw [n1]
    refine wpAny_bind (wpAny_mono tt (fun r s2 h2 => ?_) fun _ _ x => x)
    cases r with
    | false =>
      have h3 := next s2 (h2.1 rfl)
      obtain ⟨hh2, gg2, dd2, kk2, oo2⟩ := s2
      wp_walk
      rw [up]
      exact ⟨plainId_quiet plain_index_loop _, codeAny_builtin entry_index_loop (by rw [Around.under_plainId plain_index_loop _]; exact h3)⟩
    | true =>
      have h3 := h2.2 rfl
      obtain ⟨hh2, gg2, dd2, kk2, oo2⟩ := s2
      wp_walk
      exact h3
theorem indexB (p : Addr) (x : Value) (N : Nat) (hN : (N : Int) < 2 ^ 63 - 1) (J : Nat → Nat → Shared → Prop) (hJ : ItI prog w A (fun e s' => R (.error e) s') p x N J (fun i c r s' => (r = false → J (i + 1) c s') ∧ (r = true → R (.ok (.ret (.int (i : Int) s'.toks))) { s' with toks := s'.toks + 1 })))
    (done : ∀ c s, ¬ J N c s) {s : Shared} (hs : J 0 0 s) :
      wpAny (model prog w) A.in1 (Builtin.«list.index» ⟨[.ref p, x], []⟩) (GQ.FinOf prog w A R) (fun e s' => R (.error e) s') s := by
  have all := idxB (2 ^ 63 - 1) p x N hN J hJ done _ 0 0 rfl (Nat.zero_le _) s hs
  obtain ⟨xs, m, gp, zp, _⟩ := hJ _ _ _ hs
  obtain ⟨hh, gg, dd, kk, oo⟩ := s
  wp_walk using wpAny_loadPart' gp
  have a1 : ((fun i : Int => if i < 0 then max 0 (i + (xs.size : Int)) else i) ((none : Option Int).getD 0)) = ((0 : Nat) : Int) := by simp
  have a2 : ((fun i : Int => if i < 0 then max 0 (i + (xs.size : Int)) else i) ((none : Option Int).getD (2 ^ 63 - 1))) = 2 ^ 63 - 1 := by simp
  rw [a1, a2]
  exact ⟨plainId_quiet plain_index_loop _, codeAny_builtin entry_index_loop (by rw [Around.under_plainId plain_index_loop _]; exact all)⟩
end
end KA
namespace KA
open PySem PySem.Spec PyProof.Rows L2
def anyF (N : Nat) (f : Nat → Bool) : Bool := (List.range N).any f
def cntF (N : Nat) (f : Nat → Bool) : Nat := (List.range N).countP f
theorem anyF_true {N j : Nat} {f : Nat → Bool} (h : j < N) (e : f j = true) : anyF N f = true := by
  unfold anyF
  rw [List.any_eq_true]
  exact ⟨j, List.mem_range.mpr h, e⟩
theorem anyF_false {N : Nat} {f : Nat → Bool} (h : ∀ j, j < N → f j = false) : anyF N f = false := by
  unfold anyF
  rw [List.any_eq_false]
  exact fun j hj => by rw [h j (List.mem_range.mp hj)]; simp
theorem cntF_succ {N : Nat} {f : Nat → Bool} : cntF (N + 1) f = if f N then cntF N f + 1 else cntF N f := by
  unfold cntF
  rw [List.range_succ, List.countP_append]
  cases h : f N <;> simp [h]
section
variable {X : Cx} {n : Nat} {D : BEq2}
/-- each item beside x, and what == tells -/
def ItsB (D : BEq2) (xs : List V) (x : V) (f : Nat → Bool) (H : Hp) : Prop := ∀ (i : Nat) z, xs[i]? = some z → D z x (f i) H
theorem turnI (hD : MonB D) (h : EqB X n D) {A : Around} (sb : Sub X (n + 1) A) {pins : List (Addr × Obj)} {σ : L2.St} {H : Hp} {xs : List V} {x : V} {u : Value} {its : List Value} {f : Nat → Bool} (p : ItsB D xs x f H) (r : Vals xs its) (rx : RelV x u)
    (i : Nat) (h1 : i < its.toArray.size) (s' : Shared) (l : LoopI X pins σ H s') :
    wpAny (model X.prog X.w) A.in1 (eqBool its.toArray[i] u) (fun r s2 => r = f i ∧ LoopI X pins σ H s2) X.xe s' := by
  obtain ⟨H1, I1, e1⟩ := l
  have l1 : i < its.length := by simpa using h1
  have k1 : i < xs.length := by rw [r.length]; exact l1
  obtain ⟨v, hu, ru⟩ := r.get (List.getElem?_eq_getElem k1)
  have g1 : its.toArray[i] = v := by
    rw [List.getElem?_eq_getElem l1] at hu
    simpa using Option.some.inj hu
  rw [g1]
  refine wpAny_mono (h A.in1 pins s' σ H1 _ _ v u _ sb.in1 I1 ru rx (hD _ _ _ _ _ e1 (p i _ (List.getElem?_eq_getElem k1)))) (fun r s2 q => ?_) fun _ _ x => x
  obtain ⟨hr, H2, I2, e2⟩ := q
  exact ⟨hr, H2, I2, e1.trans e2⟩
theorem lookI {pins : List (Addr × Obj)} {σ : L2.St} {H : Hp} {p : Addr} {xs : List V} (hp : H p = some (.lst xs)) (s' : Shared) (z : LoopI X pins σ H s') : ∃ (as : List Value) (m : Nat), Vals xs as ∧ s'.heap.get? p = some { cls := .type "list", data := .seq as.toArray m } ∧ as.toArray.size = xs.length := by
  obtain ⟨H1, I1, e1⟩ := id z
  obtain ⟨_, its, k, r, e⟩ := I1.hok p _ (e1 _ _ hp)
  exact ⟨its, k, r, e, by rw [List.size_toArray, ← r.length]⟩
theorem runIn {A : Around} {Q : Value → Shared → Prop} (hD : MonB D) (h : EqB X n D) (sb : Sub X (n + 1) A) {pins : List (Addr × Obj)} {s : Shared} {σ : L2.St} {H : Hp} {p : Addr} {xs : List V} {x : V} {u : Value} {f : Nat → Bool} (I : L2.Inv X pins σ H s) (rx : RelV x u) (hp : H p = some (.lst xs)) (pr : ItsB D xs x f H)
    (q : ∀ s', LoopI X pins σ H s' → Q (.bool (anyF xs.length f)) s') : wpAny (model X.prog X.w) A (call (.builtin "list.__contains__") [.ref p, u]) Q X.xe s := by
  obtain ⟨as, m, r, e, z1⟩ := lookI hp s ⟨H, I, Ext.rfl'⟩
  refine GQ.call_here PySem.F.slot_list_contains ⟨_, e, rfl⟩ PySem.F.entry_list_contains (PySem.F.args_list_contains_2 _ _) ?_
  refine containsB (R := wants Q X.xe) p u xs.length (fun i _ s' => LoopI X pins σ H s' ∧ ∀ j, j < i → f j = false) (fun s' => LoopI X pins σ H s' ∧ ∃ j, j < xs.length ∧ f j = true) (fun i c s' z => ?_) (fun c s' z => ?_) (fun s' z => ?_) ⟨⟨H, I, Ext.rfl'⟩, fun j hj => absurd hj (Nat.not_lt_zero _)⟩
  · obtain ⟨z, hf⟩ := z
    obtain ⟨as, k, r, e, z1⟩ := lookI hp s' z
    refine ⟨_, k, e, z1, fun g1 => wpAny_mono (turnI hD h sb pr r rx i g1 s' z) (fun r s2 q2 => ?_) fun _ _ x => x⟩
    obtain ⟨rfl, q2⟩ := q2
    refine ⟨fun t => ⟨q2, fun j hj => ?_⟩, fun t => ⟨q2, i, by omega, t⟩⟩
    by_cases hji : j = i
    · rw [hji]; exact t
    · exact hf j (by omega)
  · have := q s' z.1
    rw [anyF_false z.2] at this
    exact this
  · obtain ⟨z, j, hj, e⟩ := z
    have := q s' z
    rw [anyF_true hj e] at this
    exact this
def rInB (neg : Bool) (D : BEq2) : R2 := fun x y H Q => ∃ (p : Addr) (xs : List V) (f : Nat → Bool), y = .ref p ∧ H p = some (.lst xs) ∧ ItsB D xs x f H ∧ ∀ H', Ext H H' → Q (.bl (neg ^^ anyF xs.length f)) H'
theorem op_inB (hD : MonB D) (h : EqB X n D) (hr : Room (n + 1) X.A) : OpR X (compareOp .In) (rInB false D) := by
  intro pins s σ H x y v u Q I rx ry hq
  obtain ⟨p, xs, f, rfl, hp, pr, q⟩ := hq
  cases ry
  obtain ⟨as, m, r, e, z1⟩ := lookI hp s ⟨H, I, Ext.rfl'⟩
  show wpAny (model X.prog X.w) X.A (do return Value.bool (← contains (.ref p) v)) (EP X pins σ Q) X.xe s
  refine wpAny_bind (wpAny_contains_slot ⟨_, e, rfl⟩ PySem.F.slot_list_contains (runIn hD h ⟨hr, rfl⟩ I rx hp pr fun s' z => ?_))
  obtain ⟨H', I', ex⟩ := z
  exact wpAny_truthy_bool (wpAny_pure ⟨.bl _, H', I', rfl, by have := q H' ex; rwa [Bool.false_xor] at this⟩)
theorem op_notInB (hD : MonB D) (h : EqB X n D) (hr : Room (n + 1) X.A) : OpR X (compareOp .NotIn) (rInB true D) := by
  intro pins s σ H x y v u Q I rx ry hq
  obtain ⟨p, xs, f, rfl, hp, pr, q⟩ := hq
  cases ry
  obtain ⟨as, m, r, e, z1⟩ := lookI hp s ⟨H, I, Ext.rfl'⟩
  show wpAny (model X.prog X.w) X.A (do return Value.bool (!(← contains (.ref p) v))) (EP X pins σ Q) X.xe s
  refine wpAny_bind (wpAny_contains_slot ⟨_, e, rfl⟩ PySem.F.slot_list_contains (runIn hD h ⟨hr, rfl⟩ I rx hp pr fun s' z => ?_))
  obtain ⟨H', I', ex⟩ := z
  exact wpAny_truthy_bool (wpAny_pure ⟨.bl _, H', I', rfl, by have := q H' ex; rwa [Bool.true_xor] at this⟩)
/-- l.count(x) by own == -/
def rCountB (D : BEq2) : V → List V → Hp → VK → Prop := fun x xs H Q => ∃ (p : Addr) (ys : List V) (y : V) (f : Nat → Bool), x = .ref p ∧ xs = [y] ∧ H p = some (.lst ys) ∧ ItsB D ys y f H ∧ ∀ H', Ext H H' → Q (.int (cntF ys.length f : Nat)) H'
theorem mt_countB (hD : MonB D) (h : EqB X n D) (hr : Room (n + 1) X.A) : MtR X "list.count" (rCountB D) := by
  intro pins s σ H x xs v us Q I rx rxs hq
  obtain ⟨p, ys, y, f, rfl, rfl, hp, pr, q⟩ := hq
  cases rx
  cases rxs with
  | cons ry rt =>
    rename_i u ut
    cases rt
    obtain ⟨as, m, r, e, z1⟩ := lookI hp s ⟨H, I, Ext.rfl'⟩
    refine GQ.call_here PySem.F.slot_list_count ⟨_, e, rfl⟩ PySem.F.entry_list_count (PySem.F.args_list_count_2 _ _) ?_
    refine countB (R := wants (EP X pins σ Q) X.xe) p u ys.length (fun i c s' => LoopI X pins σ H s' ∧ c = cntF i f) (fun i c s' z => ?_) (fun c s' z => ?_) ⟨⟨H, I, Ext.rfl'⟩, rfl⟩
    · obtain ⟨z, rfl⟩ := z
      obtain ⟨as, k, r, e, z1⟩ := lookI hp s' z
      refine ⟨_, k, e, z1, fun g1 => wpAny_mono (turnI hD h ⟨hr, rfl⟩ pr r ry i g1 s' z) (fun r s2 q2 => ?_) fun _ _ x => x⟩
      obtain ⟨rfl, q2⟩ := q2
      exact ⟨q2, cntF_succ.symm⟩
    · obtain ⟨⟨H', I', ex⟩, rfl⟩ := z
      exact ⟨.int _, H', I'.tok _, ⟨_, rfl⟩, q H' ex⟩
/-- l.index(x) by own ==, where it is found -/
def rIndexB (D : BEq2) : V → List V → Hp → VK → Prop := fun x xs H Q => ∃ (p : Addr) (ys : List V) (y : V) (f : Nat → Bool) (j : Nat), x = .ref p ∧ xs = [y] ∧ H p = some (.lst ys) ∧ ItsB D ys y f H ∧ j < ys.length ∧ f j = true ∧ (∀ m, m < j → f m = false) ∧ ∀ H', Ext H H' → Q (.int (j : Nat)) H'
theorem mt_indexB (hD : MonB D) (h : EqB X n D) (hr : Room (n + 1) X.A) : MtR X "list.index" (rIndexB D) := by
  intro pins s σ H x xs v us Q I rx rxs hq
  obtain ⟨p, ys, y, f, j, rfl, rfl, hp, pr, hj, ej, nj, q⟩ := hq
  cases rx
  cases rxs with
  | cons ry rt =>
    rename_i u ut
    cases rt
    obtain ⟨hz, its, k, r, e⟩ := I.hok p _ hp
    have hsl := sizeLine_eq
    refine GQ.call_here PySem.F.slot_list_index ⟨_, e, rfl⟩ PySem.F.entry_list_index (PySem.F.args_list_index_2 _ _) ?_
    refine indexB (R := wants (EP X pins σ Q) X.xe) p u ys.length (by omega) (fun i c s' => LoopI X pins σ H s' ∧ i ≤ j) (fun i c s' z => ?_) (fun c s' z => by omega) ⟨⟨H, I, Ext.rfl'⟩, Nat.zero_le _⟩
    obtain ⟨z, hi⟩ := z
    obtain ⟨as, k, r, e, z1⟩ := lookI hp s' z
    refine ⟨_, k, e, z1, fun g1 => wpAny_mono (turnI hD h ⟨hr, rfl⟩ pr r ry i g1 s' z) (fun r s2 q2 => ?_) fun _ _ x => x⟩
    obtain ⟨rfl, q2⟩ := q2
    refine ⟨fun t => ⟨q2, ?_⟩, fun t => ?_⟩
    · have : i ≠ j := fun e => by rw [e, ej] at t; cases t
      omega
    · have ij : i = j := by
        by_cases hlt : i < j
        · rw [nj i hlt] at t; cases t
        · omega
      subst ij
      obtain ⟨H', I', ex⟩ := q2
      exact ⟨.int _, H', I'.tok _, ⟨_, rfl⟩, q H' ex⟩
end
end KA
namespace KA
open PySem PySem.Spec PyProof.Rows L2
theorem cut_full {xs : List V} {lo hi : Option Int} (h : HT.sIx xs.length 0 lo = 0 ∧ HT.sIx xs.length xs.length hi = xs.length) : cutV xs lo hi = xs := by
  unfold cutV
  rw [h.1, h.2, List.drop_zero, Nat.sub_zero, List.take_of_length_le (Nat.le_refl _)]
/-- a part of a tuple, whichever -/
theorem sla_of {K : PySem.W.Frag} {a : Addr} {xs : List V} {lo hi : Option Int} {H : Hp} {Q : VK} (ha : H a = some (.tup xs)) (q : ∀ (H' : Hp) (p : Addr), Same H H' → H' p = some (.tup (cutV xs lo hi)) → Q (.ref p) H') : rSlA K (.ref a) lo hi H Q := by
  refine ⟨a, xs, rfl, .inl (.inl ha), fun h => q H a (Same.refl _) (by rw [cut_full h]; exact ha), fun _ p hp => q _ p (same_upd hp) upd_same⟩
/-- two tuples put together, whichever -/
theorem cata_of {K : PySem.W.Frag} {a b : Addr} {xs ys : List V} {H : Hp} {Q : VK} (ha : H a = some (.tup xs)) (hb : H b = some (.tup ys)) (hl : xs.length + ys.length ≤ sizeLine) (q : ∀ (H' : Hp) (p : Addr), Same H H' → H' p = some (.tup (xs ++ ys)) → Q (.ref p) H') : rCatA K (.ref a) (.ref b) H Q := by
  refine ⟨a, b, xs, ys, rfl, rfl, .inl (.inl ha), .inl (.inl hb), hl, fun h => ?_, fun _ h => ?_, fun _ _ p hp => q _ p (same_upd hp) upd_same⟩
  · subst h
    exact q H b (Same.refl _) hb
  · subst h
    exact q H a (Same.refl _) (by rw [List.append_nil]; exact ha)
end KA
namespace KA
open PySem PySem.Spec PySem.W PyProof.Rows
open AutoSeq1 (wpAny_loadPart')
section
variable {prog : Program} {w : World} {A : Around} {E : Value → Shared → Prop} {s : Shared} {K : Frag} {x C f dx : Addr} {od : Option Obj}
/-- a plain thing whose own == knows nothing of x, an instance whose class has its own == : that one is asked -/
theorem cmp_flip {T id : String} {u : Value} {Q : Value → Shared → Prop} (hu : A.units < cLine) (X : K.In s.heap) (I : InstAt s.heap x (instObj C dx) C od) (hT : s.TypeIs u T) (slot : Slot T (cmpInfo .Eq).2.1 id) (hone : oneThing? .Eq u (.ref x) = none)
    (hn : subIn K (.ref C) (.type T) = some false) (two0 : ∀ {Q : Value → Shared → Prop}, Q .notImplemented s → wpAny (model prog w) A (call (.builtin id) [u, .ref x]) Q E s)
    (hs : findIn K (.ref C) "__eq__" = some (some (.ref f))) (hf : isFn K (.ref f) = true)
    (h : wpAny (model prog w) A (call (.ref f) [.ref x, u]) (PySem.W.CmpBack Q) E s) : wpAny (model prog w) A (richCompare .Eq u (.ref x)) Q E s := by
  have one : wpAny (model prog w) A (tryCompare (.ref x) "__eq__" u) (fun r s' => ∃ v, r = some v ∧ Q v s') E s := by
    unfold tryCompare
    refine wpAny_bind (ifBound_K X I hs hf (wpAny_mono h (fun v s' hv => ?_) fun _ _ e => e))
    cases v <;> first | exact hv.elim | exact wpAny_pure ⟨_, rfl, hv⟩
  have two : wpAny (model prog w) A (tryCompare u "__eq__" (.ref x)) (fun r s' => r = none ∧ s' = s) E s := by
    unfold tryCompare
    refine wpAny_bind (wpAny_callSpecialIfBound?_slot (name := (cmpInfo .Eq).2.1) hT slot (two0 ?_))
    exact wpAny_pure ⟨rfl, rfl⟩
  unfold richCompare
  refine wpAny_holding (wpAny_bind (wpAny_cRoomFor hu ?_))
  rw [hone]
  refine wpAny_bind (wpAny_typeOf hT (wpAny_bind (I.type.here ?_)))
  refine PySem.W.KFB.if_so rfl (wpAny_bind ((looks_subIn X hn).here ?_))
  refine PySem.W.KFB.if_not rfl ?_
  refine wpAny_bind (wpAny_mono two (fun r s' z => ?_) fun _ _ e => e)
  obtain ⟨rfl, rfl⟩ := z
  refine PySem.W.KFB.if_so rfl (wpAny_bind (wpAny_mono one (fun r s' z => ?_) fun _ _ e => e))
  obtain ⟨v, rfl, hq⟩ := z
  exact wpAny_pure hq
theorem int_eq_own {i : Int} {t : Tok} {Q : Value → Shared → Prop} (hx : s.heap.get? x = some (instObj C dx)) (h : Q .notImplemented s) : wpAny (model prog w) A (call (.builtin "int.__eq__") [.int i t, .ref x]) Q E s := by
  refine wpAny_call_entry PySem.F.slot_int_eq (typeIs_int s i t) PySem.F.entry_int_eq ?_ (PySem.F.args_int_eq_2 _ _)
  unfold Builtin.«int.__eq__»
  obtain ⟨hh, gg, dd, kk, oo⟩ := s
  wp_walk using wpAny_load' hx
  exact ⟨_, rfl, h⟩
theorem bool_eq_own {b : Bool} {Q : Value → Shared → Prop} (hx : s.heap.get? x = some (instObj C dx)) (h : Q .notImplemented s) : wpAny (model prog w) A (call (.builtin "int.__eq__") [.bool b, .ref x]) Q E s := by
  refine wpAny_call_entry PySem.F.slot_bool_eq (PySem.typeIs_bool s b) PySem.F.entry_int_eq ?_ (PySem.F.args_int_eq_2 _ _)
  unfold Builtin.«int.__eq__»
  obtain ⟨hh, gg, dd, kk, oo⟩ := s
  wp_walk using wpAny_load' hx
  exact ⟨_, rfl, h⟩
theorem str_eq_own {z : Str} {t : Tok} {Q : Value → Shared → Prop} (hx : s.heap.get? x = some (instObj C dx)) (h : Q .notImplemented s) : wpAny (model prog w) A (call (.builtin "str.__eq__") [.str z t, .ref x]) Q E s := by
  refine wpAny_call_entry PySem.F.slot_str_eq (typeIs_str s z t) PySem.F.entry_str_eq ?_ (PySem.F.args_str_eq_2 _ _)
  unfold Builtin.«str.__eq__»
  obtain ⟨hh, gg, dd, kk, oo⟩ := s
  wp_walk using wpAny_load' hx
  exact ⟨_, rfl, h⟩
theorem list_eq_own {p : Addr} {Q : Value → Shared → Prop} (X : K.In s.heap) (I : InstAt s.heap x (instObj C dx) C od) (hn : subIn K (.ref C) (.type "list") = some false) (hT : s.TypeIs (.ref p) "list") (h : Q .notImplemented s) : wpAny (model prog w) A (call (.builtin "list.__eq__") [.ref p, .ref x]) Q E s := by
  refine wpAny_call_entry PySem.F.slot_list_eq hT PySem.F.entry_list_eq ?_ (PySem.F.args_list_eq_2 _ _)
  have L : Looks (model prog w) s.heap (isInstance (.ref x) (.type "list")) false := I.type.andThen (looks_subIn X hn)
  unfold Builtin.«list.__eq__»
  obtain ⟨hh, gg, dd, kk, oo⟩ := s
  wp_walk using L.here
  exact ⟨_, rfl, h⟩
theorem tup_eq_own {p : Addr} {Q : Value → Shared → Prop} (X : K.In s.heap) (I : InstAt s.heap x (instObj C dx) C od) (hn : subIn K (.ref C) (.type "tuple") = some false) (hT : s.TypeIs (.ref p) "tuple") (h : Q .notImplemented s) : wpAny (model prog w) A (call (.builtin "tuple.__eq__") [.ref p, .ref x]) Q E s := by
  refine wpAny_call_entry PySem.F.slot_tuple_eq hT PySem.F.entry_tuple_eq ?_ (PySem.F.args_tuple_eq_2 _ _)
  have L : Looks (model prog w) s.heap (isInstance (.ref x) (.type "tuple")) false := I.type.andThen (looks_subIn X hn)
  unfold Builtin.«tuple.__eq__»
  obtain ⟨hh, gg, dd, kk, oo⟩ := s
  wp_walk using L.here
  exact ⟨_, rfl, h⟩
end
end KA
namespace KA
open PySem PySem.Spec PySem.W PyProof.Rows
section
variable {prog : Program} {w : World} {A : Around} {E : Value → Shared → Prop} {s : Shared} {K : Frag} {x C f dx : Addr} {ox : Obj} {od : Option Obj} {b tb : Value}
theorem ifBound_objNe {M : Model} {args : List Value} {Q : Option Value → Shared → Prop} (X : K.In s.heap) (I : InstAt s.heap x ox C od) (hs : findIn K (.ref C) "__ne__" = some (some (.builtin "object.__ne__")))
    (h : wpAny M A (call (.builtin "object.__ne__") (.ref x :: args)) (fun v => Q (some v)) E s) : wpAny M A (callSpecialIfBound? (.ref x) "__ne__" args) Q E s := by
  simp only [callSpecialIfBound?, bindSpecialIfBound?]
  refine wpAny_holding (wpAny_bind (wpAny_bind (wpAny_bind (I.type.here ((looks_findIn X hs).here ?_)))))
  refine wpAny_bind (wpAny_askSetting (wpAny_ite ?_))
  have fin : wpAny M A (call (.builtin "object.__ne__") ([.ref x] ++ args) >>= fun v => pure (some v)) Q E s := wpAny_bind (wpAny_mono h (fun v s' h' => wpAny_pure h') fun _ _ h' => h')
  split
  · exact wpAny_bind (wpAny_of_eq (F.cmp_object.ne.bind _) (wpAny_pure (by exact fin)))
  · exact wpAny_tryCatch (wpAny_bind (wpAny_of_eq (F.cmp_object.ne.bind _) (wpAny_pure (by exact fin))))
theorem entry_objNe {Q : Fin → Shared → Prop} (hu : A.units < cLine) (X : K.In s.heap) (I : InstAt s.heap x ox C od) (hs : findIn K (.ref C) "__eq__" = some (some (.ref f))) (hf : isFn K (.ref f) = true)
    (h : wpAny (model prog w) A (call (.ref f) [.ref x, b]) (fun r s' => ∃ v, r = .bool v ∧ Q (.done (.ret (.bool (!v)))) s') E s) : wpAny (model prog w) A (Builtin.«object.__ne__» ⟨[.ref x, b], []⟩) Q E s := by
  unfold Builtin.«object.__ne__»
  repeat (first
    | with_reducible refine wpAny_cRoomFor hu ?_
    | (refine wpAny_bind (m := callSpecialIfBound? (.ref x) (Str.ofString "__eq__") [b])
        (ifBound_K X I hs hf (wpAny_mono h (fun r s' hr => by
          obtain ⟨v, rfl, hq⟩ := hr
          repeat (first | exact hq | exact wpAny_pure hq | exact wpAny_truthy_bool hq | (refine wpAny_bind (m := truthy (.bool _)) (wpAny_truthy_bool ?_)) | wp_step)) fun _ _ e => e)))
    | wp_step)
theorem ne_own {Q : Value → Shared → Prop} (hu : A.units < cLine) (hu1 : A.in1.units < cLine) (X : K.In s.heap) (I : InstAt s.heap x ox C od) (hb : Looks (model prog w) s.heap (typeOf b) tb) (hn : notFirst K C tb = true) (hm : mroIn K C (.type "object") = some true)
    (hne : findIn K (.ref C) "__ne__" = some (some (.builtin "object.__ne__"))) (hs : findIn K (.ref C) "__eq__" = some (some (.ref f))) (hf : isFn K (.ref f) = true)
    (h : wpAny (model prog w) A.in1 (call (.ref f) [.ref x, b]) (fun r s' => ∃ v, r = .bool v ∧ Q (.bool (!v)) s') E s) : wpAny (model prog w) A (richCompare .NotEq (.ref x) b) Q E s := by
  have one : wpAny (model prog w) A (tryCompare (.ref x) "__ne__" b) (fun r s' => ∃ v, r = some v ∧ Q v s') E s := by
    unfold tryCompare
    refine wpAny_bind (ifBound_objNe X I hne (wpAny_call (codeAny_call_builtin F.cmp_object.ne.plain F.cmpEntry_ne (check_slot F.cmpKind_ne F.cmpSplit_ne (I.type.andThen (looks_mroIn X hm)) (F.cmpArgs_ne _ _) (entry_objNe hu1 X I hs hf (wpAny_mono h (fun r s' hr => ?_) fun _ _ e => e))))))
    obtain ⟨v, rfl, hq⟩ := hr
    first
      | exact ⟨v, rfl, wpAny_pure ⟨_, rfl, hq⟩⟩
      | exact ⟨v, rfl, ⟨_, rfl, hq⟩⟩
  unfold richCompare
  simp only [oneThing_ref]
  refine wpAny_holding (wpAny_bind (wpAny_cRoomFor hu ?_))
  refine wpAny_bind (I.type.here (wpAny_bind (hb.here ?_)))
  split
  · rename_i q
    have e : subIn K tb (.ref C) = some false := by
      rcases Bool.or_eq_true_iff.mp hn with e | e
      · rw [beq_iff_eq.mp e] at q; simp at q
      · exact beq_iff_eq.mp e
    refine wpAny_bind ((looks_subIn X e).here ?_)
    simp only [Bool.false_eq_true, if_false]
    refine wpAny_bind (wpAny_mono one (fun r s' z => ?_) fun _ _ e => e)
    obtain ⟨v, rfl, hq⟩ := z
    exact wpAny_pure hq
  · refine wpAny_bind (wpAny_pure ?_)
    simp only [Bool.false_eq_true, if_false]
    refine wpAny_bind (wpAny_mono one (fun r s' z => ?_) fun _ _ e => e)
    obtain ⟨v, rfl, hq⟩ := z
    exact wpAny_pure hq
end
end KA
namespace KA
open PySem PySem.Spec PyProof.Rows L2
section
variable {X : Cx} {n : Nat} {CX : CXT} {C f : Addr} {fd : FuncData} {ps : List Str} {R : Addr → V → Bool → Hp → Prop} {E : XK}
/-- an instance of the class at C beside anything -/
def BOwn1 (K : PySem.W.Frag) (C : Addr) (R : Addr → V → Bool → Hp → Prop) : BEq2 := fun x y b H =>
  ∃ (a dx : Addr) (fs : List (Str × V)) (t : Value), x = .ref a ∧ H a = some (.ins C dx fs) ∧ TyX K H y t ∧ PySem.W.notFirst K C t = true ∧ R a y b H
theorem rcB_ownNe (F : FnOk X.prog X.w X.K X.mg X.base CX n f fd ps (spEqO R)) (hs : PySem.W.findIn X.K (.ref C) "__eq__" = some (some (.ref f))) (hf : PySem.W.isFn X.K (.ref f) = true) (hb : Binds X.K fd ps []) (hx : Passes CX X E)
    (hm : PySem.W.mroIn X.K C (.type "object") = some true) (hne : PySem.W.findIn X.K (.ref C) "__ne__" = some (some (.builtin "object.__ne__"))) : RcB X (n + 1) true (BOwn1 X.K C R) := by
  intro A pins s σ H x y u v b sb I rx ry d
  obtain ⟨a, dx, fs, t, rfl, ha, ty, nf, hR⟩ := d
  cases rx
  obtain ⟨mA, J, _⟩ := ins_get I.hok ha
  obtain ⟨od, J, _⟩ := J.look
  obtain ⟨Pz, Z, p, _⟩ := kit_of I ry ty
  refine ne_own (tb := t) sb.room.units0 sb.in1.room.units0 I.kIn J (Z.ty _ _ I.kIn p) nf hm hne hs hf (wpAny_mono (run_eqO F hb hx sb.in1 I ry hR) (fun r s' q => ?_) fun _ _ x => x)
  cases r with
  | bool z =>
    obtain ⟨e, q2⟩ := (show (Value.bool z = .bool b ∧ ∃ H', L2.Inv X pins σ H' s' ∧ Ext H H') from q)
    cases e
    exact ⟨b, rfl, by rw [Bool.true_xor], q2⟩
  | notImplemented => exact q.elim
  | _ => exact nomatch q.1
/-- a plain thing beside an instance: the instance is asked -/
def BFlip (K : PySem.W.Frag) (C : Addr) (R : Addr → V → Bool → Hp → Prop) : BEq2 := fun x y b H => ∃ (a dx : Addr) (fs : List (Str × V)), y = .ref a ∧ H a = some (.ins C dx fs) ∧ R a x b H ∧
  ((∃ i, x = .int i) ∨ (∃ z, x = .str z) ∨ (∃ c, x = .bl c) ∨ x = .non ∨ (∃ p xs, x = .ref p ∧ H p = some (.lst xs)) ∨ ∃ p xs, x = .ref p ∧ H p = some (.tup xs))
theorem rcB_flip (F : FnOk X.prog X.w X.K X.mg X.base CX n f fd ps (spEqO R)) (hs : PySem.W.findIn X.K (.ref C) "__eq__" = some (some (.ref f))) (hf : PySem.W.isFn X.K (.ref f) = true) (hb : Binds X.K fd ps []) (hx : Passes CX X E)
    (hn : ∀ t, t ∈ ["int", "str", "bool", "NoneType", "list", "tuple"] → PySem.W.subIn X.K (.ref C) (.type t) = some false) : RcB X n false (BFlip X.K C R) := by
  intro A pins s σ H x y u v b sb I rx ry d
  have fin : (false ^^ b) = b := Bool.false_xor b
  rw [fin]
  obtain ⟨a, dx, fs, rfl, ha, hR, hk⟩ := d
  cases ry
  obtain ⟨mA, J, _⟩ := ins_get I.hok ha
  obtain ⟨od, J, _⟩ := J.look
  have go : wpAny (model X.prog X.w) A (call (.ref f) [.ref a, u]) (PySem.W.CmpBack fun r s' => r = .bool b ∧ ∃ H', L2.Inv X pins σ H' s' ∧ Ext H H') X.xe s := run_eqO F hb hx sb I rx hR
  rcases hk with ⟨i, rfl⟩ | ⟨z, rfl⟩ | ⟨c, rfl⟩ | rfl | ⟨p, xs, rfl, hp⟩ | ⟨p, xs, rfl, hp⟩
  · obtain ⟨t, rfl⟩ := rx
    exact cmp_flip sb.room.units0 I.kIn J (PySem.typeIs_int s i t) PySem.F.slot_int_eq rfl (hn _ (by simp)) (fun h => int_eq_own J.at_ h) hs hf go
  · obtain ⟨t, rfl⟩ := rx
    exact cmp_flip sb.room.units0 I.kIn J (PySem.typeIs_str s z t) PySem.F.slot_str_eq rfl (hn _ (by simp)) (fun h => str_eq_own J.at_ h) hs hf go
  · cases rx
    exact cmp_flip sb.room.units0 I.kIn J (PySem.typeIs_bool s c) PySem.F.slot_bool_eq rfl (hn _ (by simp)) (fun h => bool_eq_own J.at_ h) hs hf go
  · cases rx
    exact cmp_none sb.room.units0 I.kIn J (hn _ (by simp)) hs hf go
  · cases rx
    obtain ⟨_, its, k, r, e⟩ := I.hok p _ hp
    exact cmp_flip sb.room.units0 I.kIn J (T := "list") ⟨_, e, rfl⟩ PySem.F.slot_list_eq rfl (hn _ (by simp)) (fun h => list_eq_own I.kIn J (hn _ (by simp)) ⟨_, e, rfl⟩ h) hs hf go
  · cases rx
    obtain ⟨its, r, ⟨o, e, ho⟩, hz⟩ := I.tuple (SqT.of hp)
    exact cmp_flip sb.room.units0 I.kIn J (T := "tuple") ⟨_, e, ho.1⟩ PySem.F.slot_tuple_eq rfl (hn _ (by simp)) (fun h => tup_eq_own I.kIn J (hn _ (by simp)) ⟨_, e, ho.1⟩ h) hs hf go
theorem RcB.or {ne : Bool} {D D' : BEq2} (h : RcB X n ne D) (h' : RcB X n ne D') : RcB X n ne (fun x y b H => D x y b H ∨ D' x y b H) := fun A pins s σ H x y u v b sb I rx ry d => d.elim (fun d => h A pins s σ H x y u v b sb I rx ry d) (fun d => h' A pins s σ H x y u v b sb I rx ry d)
end
end KA
namespace KA
open PySem PySem.Spec PyProof.Rows L2
/-- a comprehension over a list that leaves places out; what it asks may make new things -/
theorem lc_someX {K : PySem.W.Frag} {a : Addr} {xs : List V} {H : Hp} {D : Addr} (hD : H D = none) (hS : SqL K H a xs) (hl : xs.length ≤ 10000) (p : Nat → Bool) (f : Nat → V)
    {g : TG} {tt : TT} {te : TE} {vs : List Nat} {σ : L2.St} {Qd : Hp → Prop}
    (turn : ∀ (i : Nat) (x : V) (H2 : Hp) (R : V → Hp → Prop) (C : Hp → Prop), xs[i]? = some x → Same H H2 → (p i = true → ∀ H3, Same H2 H3 → R (f i) H3) → (p i = false → ∀ H3, Same H2 H3 → C H3) → g x (wipe σ vs) H2 fun σ2 H2 => wipe σ2 vs = wipe σ vs ∧ tt σ2 H2 fun b H3 => if b = true then te σ2 H3 R else C H3)
    (fin : ∀ H', Same H H' → H' D = some (.lst (((List.range xs.length).filter p).map f)) → Qd H') :
    ∃ W : Nat → Nat → Hp → Prop, (∃ m, W 0 m (upd H D (.lst []))) ∧ ∀ i m H, W i m H →
      ((Itl K a).stop i H ∧ Qd H) ∨ ((Itl K a).go i H ∧ ∃ Nx : Hp → Prop, (∀ H', Nx H' → ∃ m', m' < m ∧ W (i + 1) m' H') ∧ ∀ x H', (Itl K a).yld i H x H' → g x (wipe σ vs) H' fun σ2 H2 => wipe σ2 vs = wipe σ vs ∧ tt σ2 H2 fun b H3 =>
        if b = true then te σ2 H3 fun y H4 => ∃ acc, H4 D = some (.lst acc) ∧ acc.length < sizeLine ∧ Nx (upd H4 D (.lst (acc ++ [y]))) else Nx H3) := by
  refine lc_list (K := K) (a := a) (xs := xs) (fun i H' => Same H H' ∧ H' D = some (.lst (((List.range i).filter p).map f))) ⟨same_upd hD, upd_same⟩ (fun i H' _ h => h.1.seq hS) ?_ ?_
  · rintro i x H2 hi ⟨s2, e2⟩
    have hil : i < xs.length := (List.getElem?_eq_some_iff.mp hi).1
    refine turn i x H2 _ _ hi s2 (fun hp H3 s3 => ?_) (fun hp H3 s3 => ?_)
    · refine ⟨_, s3 _ _ e2, ?_, fun b o h => ?_, ?_⟩
      · rw [List.length_map]
        refine Nat.lt_of_le_of_lt (List.length_filter_le _ _) ?_
        rw [List.length_range]
        exact Nat.lt_of_lt_of_le (show i < 10000 by omega) (by decide)
      · rw [upd_ne (ne_of_none h hD)]
        exact s3 _ _ (s2 _ _ h)
      · rw [upd_same, List.range_succ, List.filter_append, List.map_append, List.filter_cons_of_pos hp]
        rfl
    · refine ⟨s2.trans s3, ?_⟩
      rw [s3 _ _ e2, List.range_succ, List.filter_append, List.map_append, List.filter_cons_of_neg (by rw [hp]; exact Bool.false_ne_true)]
      show _ = some (HO.lst (_ ++ []))
      rw [List.append_nil]
  · rintro H' ⟨s, e⟩
    exact fin H' s e
theorem lc_someR {n : Nat} {H : Hp} {D : Addr} (hD : H D = none) (hl : n ≤ 10000) (p : Nat → Bool) (f : Nat → V)
    {g : TG} {tt : TT} {te : TE} {vs : List Nat} {σ : L2.St} {Qd : Hp → Prop}
    (turn : ∀ (i : Nat) (H2 : Hp) (R : V → Hp → Prop) (C : Hp → Prop), i < n → Same H H2 → (p i = true → ∀ H3, Same H2 H3 → R (f i) H3) → (p i = false → ∀ H3, Same H2 H3 → C H3) → g (.int (0 + i)) (wipe σ vs) H2 fun σ2 H2 => wipe σ2 vs = wipe σ vs ∧ tt σ2 H2 fun b H3 => if b = true then te σ2 H3 R else C H3)
    (fin : ∀ H', Same H H' → H' D = some (.lst (((List.range n).filter p).map f)) → Qd H') :
    ∃ W : Nat → Nat → Hp → Prop, (∃ m, W 0 m (upd H D (.lst []))) ∧ ∀ i m H, W i m H →
      ((Itr 0 n).stop i H ∧ Qd H) ∨ ((Itr 0 n).go i H ∧ ∃ Nx : Hp → Prop, (∀ H', Nx H' → ∃ m', m' < m ∧ W (i + 1) m' H') ∧ ∀ x H', (Itr 0 n).yld i H x H' → g x (wipe σ vs) H' fun σ2 H2 => wipe σ2 vs = wipe σ vs ∧ tt σ2 H2 fun b H3 =>
        if b = true then te σ2 H3 fun y H4 => ∃ acc, H4 D = some (.lst acc) ∧ acc.length < sizeLine ∧ Nx (upd H4 D (.lst (acc ++ [y]))) else Nx H3) := by
  refine lc_range (lo := 0) (n := n) (fun i H' => Same H H' ∧ H' D = some (.lst (((List.range i).filter p).map f))) ⟨same_upd hD, upd_same⟩ ?_ ?_
  · rintro i H2 hil ⟨s2, e2⟩
    refine turn i H2 _ _ hil s2 (fun hp H3 s3 => ?_) (fun hp H3 s3 => ?_)
    · refine ⟨_, s3 _ _ e2, ?_, fun b o h => ?_, ?_⟩
      · rw [List.length_map]
        refine Nat.lt_of_le_of_lt (List.length_filter_le _ _) ?_
        rw [List.length_range]
        exact Nat.lt_of_lt_of_le (show i < 10000 by omega) (by decide)
      · rw [upd_ne (ne_of_none h hD)]
        exact s3 _ _ (s2 _ _ h)
      · rw [upd_same, List.range_succ, List.filter_append, List.map_append, List.filter_cons_of_pos hp]
        rfl
    · refine ⟨s2.trans s3, ?_⟩
      rw [s3 _ _ e2, List.range_succ, List.filter_append, List.map_append, List.filter_cons_of_neg (by rw [hp]; exact Bool.false_ne_true)]
      show _ = some (HO.lst (_ ++ []))
      rw [List.append_nil]
  · rintro H' ⟨s, e⟩
    exact fin H' s e
end KA
/-! an error that leaves a list comprehension -/
namespace KA
open PySem PySem.Spec PyProof.Rows L2
/-- what is asked where the block of a comprehension ends: an error goes on from the frame that it ran in -/
def endX (M : Model) (A : Around) (E : Value → Shared → Prop) (use : Option (Value → Sem Unit)) (Q : Value → Shared → Prop) (acc : Value) (ce : Env) (r : Result) (t : Shared) : Prop :=
  match r with
  | .ok f => compPost M A E use Q acc ce.locals (.ok f) t
  | .error x => ∃ m, t.heap.Ns ce.locals m ∧ ∀ h2, Heap.SameBut ce.locals t.heap h2 → wpAny M A (passOn "comprehension.variables-let-go" x ce : Sem Value) (fun _ _ => False) E { t with heap := h2 }
section
variable {M : Model} {A : Around} {E : Value → Shared → Prop} {s : Shared} {env : Env}
theorem comp_x {e : Expr} {scope : Scope} {pos : Pos} {mk fst : Sem Value} {g : Comprehension} {gs : List Comprehension} {cl : List (Str × Addr)} {use : Option (Value → Sem Unit)} {Q : Value → Shared → Prop}
    (h1 : clausesOf e = g :: gs) (h2 : ∀ x, foldedSetIterable g.iter env x = pure x) (h3 : closureFor scope env = pure cl) (h4 : scope.kind = .function) (h5 : ∀ x ∈ scope.names, x.2 = .local → scope.names.lookup x.1 = some .local)
    (h : wpAny M A fst (fun x t1 => wpAny M A (pyIter x) (fun it t2 => wpAny M A mk (fun acc t3 => wpAny M A (newFunctionEnv scope env.globals cl [] env.qual none .none (some env)) (fun ce t4 =>
        codeAny M A (.compStart e 0 it acc { ce with scope := relabel scope env }) (endX M A E use Q acc { ce with scope := relabel scope env }) t4) E t3) E t2) E t1) E s) :
    wpAny M A (comprehension e scope env pos mk false fst use) Q E s := by
  unfold comprehension
  rw [h3, h1]
  refine wpAny_bind (wpAny_mono h (fun x t1 k1 => ?_) fun _ _ z => z)
  refine wpAny_bind (wpAny_standAt (wpAny_bind (wpAny_of_eq (h2 x) (wpAny_bind (wpAny_holding (wpAny_mono k1 (fun it t2 k2 => ?_) fun _ _ z => z))))))
  refine wpAny_standIf (wpAny_bind (wpAny_mono k2 (fun acc t3 k3 => ?_) fun _ _ z => z))
  refine wpAny_bind (wpAny_pure (wpAny_bind (wpAny_mono k3 (fun ce t4 k4 => ?_) fun _ _ z => z)))
  dsimp only
  have own : ∀ x ∈ (scope.names.filter fun x => (x.2 == .local || x.2 == .cell) && x.1 != (".0" : Str)).reverse, x.2 = .local → Env.kindOf { ce with scope := relabel scope env } x.1 = some .local :=
    fun x hx hl => lookup_relabel_local (h5 x (List.mem_filter.mp (List.mem_reverse.mp hx)).1 hl)
  refine wpAny_holding (wpAny_bind (wpAny_attempt (wpAny_holding (wpAny_run (codeAny_mono k4 fun r t5 hr => ?_)))))
  cases r with
  | ok f =>
    cases use with
    | none =>
      obtain ⟨m, hn, hr⟩ := hr
      exact wpAny_bind (wpAny_holding (wpAny_comp_letGo (cenv := { ce with scope := relabel scope env }) h4 _ t5 m own hn fun h' _ _ sb => wpAny_pure (hr h' sb)))
    | some u =>
      refine wpAny_bind (wpAny_rule (wpAny_bind (wpAny_holding (wpAny_mono hr (fun _ t6 hr6 => ?_) fun _ _ z => z))))
      obtain ⟨m, hn, hr6⟩ := hr6
      refine wpAny_bind (wpAny_comp_letGo (cenv := { ce with scope := relabel scope env }) h4 _ t6 m (fun x hx hl => ?_) hn fun h' _ _ sb => wpAny_pure (hr6 h' sb))
      rcases List.mem_append.mp hx with z | z
      · exact own x (List.mem_of_mem_drop z) hl
      · exact own x (List.mem_of_mem_take z) hl
  | error x =>
    obtain ⟨m, hn, hr⟩ := hr
    exact wpAny_bind (wpAny_holding (wpAny_comp_letGo (cenv := { ce with scope := relabel scope env }) h4 _ t5 m own hn fun h' _ _ sb => wpAny_mono (hr h' sb) (fun _ _ f => f.elim) fun _ _ z => z))
end
theorem note_same {e : Value} {a b : Env} (h : a.frame = b.frame) : noteFrame e a = noteFrame e b := by
  unfold noteFrame PySem.frameOf
  rw [h]
/-- what leaves a call within a block -/
def xeB (X : Cx) (E : XK) (bk : Cx) : Value → Shared → Prop := fun u t => ∃ (pins : List (Addr × Obj)) (σ : L2.St) (H1 : Hp) (t1 : Shared), L2.Inv bk pins σ H1 t1 ∧ L2.CX X.prog X.w X.stack H1 t1 E u t
abbrev blkE (X : Cx) (E : XK) (s : Shared) (H : Hp) (scope : Scope) (ce : Env) (fp : List Addr) : Cx := (X.blk s H scope ce fp).wish (xeB X E (X.blk s H scope ce fp))
theorem frames_but {h h2 B B2 : Heap} {C : Addr} (sb : Heap.SameBut C h h2) (hB : ∀ b, B.get? b = none → B2.get? b = none) : ∀ {l : List Env}, C ∉ frs l → h.FunFrames B l → h2.FunFrames B2 l
  | [], _, _ => trivial
  | e :: l, hC, hl => by
    obtain ⟨hk, ⟨L, o, hf, hn, ho, hd⟩, hr⟩ := hl
    have m : L ∈ frs (e :: l) := List.mem_filterMap.mpr ⟨e, List.mem_cons_self, hf⟩
    refine ⟨hk, ⟨L, o, hf, hB L hn, (sb.2 L (fun z => hC (by rw [← z]; exact m))).trans ho, hd⟩, frames_but sb hB (fun z => hC ?_) hr⟩
    obtain ⟨e', he', q⟩ := List.mem_filterMap.mp z
    exact List.mem_filterMap.mpr ⟨e', List.mem_cons_of_mem _ he', q⟩
theorem ns_slots {h h2 : Heap} {C : Addr} {m : Str → Option Value} (hn : h.Ns C m) (up : h.UpToSlots h2) : h2.Ns C m := by
  obtain ⟨o, es, ep, h1, h3, h4⟩ := hn
  obtain ⟨sl, e⟩ := up C o h1 (fun vs z => by rw [h3] at z; cases z)
  exact ⟨_, es, ep, e, h3, h4⟩
section
variable {X : Cx} {pins : List (Addr × Obj)} {σ : L2.St} {H3 : Hp} {s3 : Shared} {W : WX} {E : XK} {scope : Scope} {ce : Env} {fp : List Addr}
theorem err_out {use : Option (Value → Sem Unit)} {Qf : Value → Shared → Prop} {acc u : Value} {t : Shared} (hs : X.stack = X.env :: X.outer) (hf : X.env.frame = some X.env.locals) (tk : Takes X W) (hW : ∀ cls d H, E cls d H → W cls d σ H) (I3 : L2.Inv X pins σ H3 s3)
    (hfp : ∀ b ∈ fp, (b ∈ X.ex ∨ X.s_0.heap.objs.size ≤ b) ∧ b ≠ X.env.locals ∧ (∀ x c, X.env.cells.lookup x = some c → c ≠ b) ∧ ∀ p ∈ X.pn ++ pins, p.1 ≠ b) (cf : ce.frame = X.env.frame) (cL : ce.locals = s3.heap.objs.size) (x : xeB X E (X.blk s3 H3 scope ce fp) u t) :
    notedBy (model X.prog X.w) X.A ce (fun e t' => endX (model X.prog X.w) X.A X.xe use Qf acc ce (.error e) t') u t := by
  obtain ⟨pins1, σ1, H1, t1, I1, cx⟩ := x
  have xx : XE (X.blk s3 H3 scope ce fp) (fun cls d _ H => E cls d H) u t := XE.of_call I1 (fun _ _ _ h => h) cx
  obtain ⟨a, B, sI, pins2, σ2, H2, cls, d, rfl, I2, nb, up, sky, na, os, ag, w⟩ := xx
  obtain ⟨a', B', H', cls', d', e, fl', _⟩ := cx
  cases e
  obtain ⟨oe, vs, T, oT, ts, he, hz, hd, h1, hnT, hTe, hT, hdT, h3⟩ := fl'.2.2.2
  have fl : HandSPX.FlyingZ B X.stack a (Zc cls d) t.heap := by
    rcases sky with ⟨_, _, _, o2, v2, e2, _, d2, k2⟩ | z | z
    · rw [he] at e2
      cases e2
      rw [hd] at d2
      cases d2
      rw [h1] at k2
      cases k2
    · exact z
    · obtain ⟨o2, v2, T2, oT2, ts2, e2, _, d2, k2, _, _, e3, d3, k3⟩ := z.2.2.2
      rw [he] at e2
      cases e2
      rw [hd] at d2
      cases d2
      rw [h1] at k2
      cases k2
      rw [hT] at e3
      cases e3
      rw [hdT] at d3
      cases d3
      rw [h3] at k3
      cases k3
  have hfr : X.A.frames = some (X.env :: X.outer) := by rw [I3.ok.frames, hs]
  show wpAny _ _ (noteFrame (.ref a) ce) _ _ t
  rw [note_same cf]
  rw [hs] at fl
  refine HandSPX.looks_onZ Zc.steady hfr hf fl fun h1' held up1 => ?_
  rw [← hs] at held
  obtain ⟨m, hn, _⟩ := I2.loc
  have hn : sI.heap.Ns ce.locals m := hn
  have n1 : h1'.Ns ce.locals m := ns_slots (ns_slots hn up) up1
  refine ⟨m, n1, fun h2 sb => ?_⟩
  obtain ⟨f1, f2, f3, oe2, vs2, T2, oT2, ts2, he2, hz2, hd2, k2, nT2, Te2, hT2, dT2, k3⟩ := held
  obtain ⟨oC, es, ep, hC, dC, _⟩ := n1
  have aC : a ≠ ce.locals := fun z => by
    rw [z, hC] at he2
    cases he2
    rw [dC] at hd2
    cases hd2
  have TC : T2 ≠ ce.locals := fun z => by
    rw [z, hC] at hT2
    cases hT2
    rw [dC] at dT2
    cases dT2
  have frC : ce.locals ∉ frs X.stack := fun z => by
    obtain ⟨_, o, q, _⟩ := I3.stack.mem z
    have := Heap.lt_size q
    rw [cL] at this
    exact Nat.lt_irrefl _ this
  obtain ⟨B2, g1, g2⟩ := restrict B fun b => decide (b ≠ ce.locals)
  have gin : ∀ b o, B2.get? b = some o → B.get? b = some o ∧ b ≠ ce.locals := fun b o q => by
    by_cases z : b = ce.locals
    · rw [g2 b (by simp [z])] at q
      cases q
    · rw [g1 b (by simp [z])] at q
      exact ⟨q, z⟩
  have gno : ∀ b, B.get? b = none → B2.get? b = none := fun b q => by
    cases z : B2.get? b with
    | none => rfl
    | some o =>
      rw [(gin b o z).1] at q
      cases q
  have ea := (sb.2 a aC).trans he2
  have held2 : HandSPX.HeldZ B2 X.stack a (Zc cls d) X.env.locals h2 := ⟨fun b o q => by
      obtain ⟨q1, q2⟩ := gin b o q
      exact (sb.2 b q2).trans (f1 b o q1), gno a f2, frames_but sb gno frC f3, oe2, vs2, T2, oT2, ts2, ea, hz2, hd2, k2, gno T2 nT2, Te2, (sb.2 T2 TC).trans hT2, dT2, k3⟩
  unfold PySem.passOn
  refine wpAny_bind (wpAny_field (s := { t with heap := h2 }) ea hd2 k2 ?_)
  rw [if_neg (show ¬ ((Value.ref T2 == Value.none) = true) from by simp)]
  rw [cf, hf]
  refine wpAny_bind (HandSPX.setFlight_onZ (s := { t with heap := h2 }) held2 fun h5 held3 up3 => wpAny_throw ?_)
  obtain ⟨G, q1, q2⟩ := restrict sI.heap fun b => decide (b ≠ ce.locals)
  have qin : ∀ b o, G.get? b = some o → sI.heap.get? b = some o ∧ b ≠ ce.locals := fun b o q => by
    by_cases z : b = ce.locals
    · rw [q2 b (by simp [z])] at q
      cases q
    · rw [q1 b (by simp [z])] at q
      exact ⟨q, z⟩
  have qof : ∀ b o, b ≠ ce.locals → sI.heap.get? b = some o → G.get? b = some o := fun b o z q => by
    rw [q1 b (by simp [z])]
    exact q
  have old : ∀ b o, s3.heap.get? b = some o → b ≠ ce.locals := fun b o q z => by
    have := Heap.lt_size q
    rw [z, cL] at this
    exact Nat.lt_irrefl _ this
  have U : Un (frs X.stack) fp H3 H2 s3.heap sI.heap := I2.base
  have U2 : Un (frs X.stack) fp H3 H2 s3.heap G := ⟨fun b o e1 e2 e3 e4 => qof b o (old b o e1) (U.keep b o e1 e2 e3 e4), fun b o e1 e2 e3 e4 => by
      obtain ⟨sl, q⟩ := U.slot b o e1 e2 e3 e4
      exact ⟨sl, qof b _ (old b o e1) q⟩, U.free, fun b o e1 e2 => by
      obtain ⟨o2, q⟩ := U.there b o e1 e2
      exact ⟨o2, qof b o2 (old b o e1) q⟩, U.tups, U.frzs, U.tbls⟩
  have fC : H2 ce.locals = none := I2.free
  have hok2 : HOk X.prog X.w H2 G := fun b o q => (I2.hok b o q).stay (fun c v hc r => qof c v (fun z => by
    rcases hc with hc | hc
    · rw [← hc, z, fC] at q
      cases q
    · rw [z, fC] at hc
      cases hc) r) (fun _ r => r) fun _ _ r => r
  have J : L2.Inv X pins σ H2 { sI with heap := G } := I3.call' (ch := fp) (s' := { sI with heap := G }) I2.os U2 hok2 I2.bare hfp
  refine tk _ _ ⟨a, B2, { sI with heap := G }, pins, σ, H2, cls, d, rfl, J, fun b o q hb => ?_, fun b o q hnf => ?_, .inr (.inr held3), na, os, ag, hW _ _ _ w⟩
  · obtain ⟨p1, p2⟩ := qin b o q
    rw [g1 b (by simp [p2])]
    exact nb b o p1 hb
  · obtain ⟨p1, p2⟩ := qin b o q
    obtain ⟨sl1, p3⟩ := up b o p1 hnf
    obtain ⟨sl2, p4⟩ := up1 b _ p3 hnf
    obtain ⟨sl3, p5⟩ := up3 b _ ((sb.2 b p2).trans p4) hnf
    exact ⟨sl3, p5⟩
end
section
variable {X : Cx}
theorem lc_errs {pins : List (Addr × Obj)} {s : Shared} {σ : L2.St} {H : Hp} {Q : VK} {W : WX} {E : XK} {elt tg iter : Expr} {ifs : List Expr} {scope : Scope} {own : List (Str × Nat)} {pos pos' : Pos} {wi : TI} {g : TG} {tt : TT} {te : TE} {use : Option (Value → Sem Unit)} {Qf : Value → Shared → Prop}
    (hc : X.calm = true) (hs : X.stack = X.env :: X.outer) (hf : X.env.frame = some X.env.locals) (tk : Takes X W) (hW : ∀ cls d H, E cls d H → W cls d σ H) (hN : X.N.Nodup) (I : L2.Inv X pins σ H s) (hi : PI X tg iter wi) (ok : BlkOk X.N X.env.scope scope own)
    (hg : ∀ (s : Shared) (H : Hp) (C : Addr) (cl : List (Str × Addr)) (fp : List Addr), PG (blkE X E s H scope (compEnvC scope cl C X.env) fp) tg g) (ht : ∀ (s : Shared) (H : Hp) (C : Addr) (cl : List (Str × Addr)) (fp : List Addr), PTs (blkE X E s H scope (compEnvC scope cl C X.env) fp) ifs tt)
    (he : ∀ (s : Shared) (H : Hp) (C : Addr) (cl : List (Str × Addr)) (fp : List Addr), PE (blkE X E s H scope (compEnvC scope cl C X.env) fp) elt te) (hfs : ∀ x, foldedSetIterable iter X.env x = pure x) (h : tLc wi g tt te (own.map (·.2)) σ H Q)
    (hRR : ∀ D C t m H', L2.Inv X pins σ H' t → Q (.ref D) H' → t.heap.Ns C m → FpOk X pins H' C → compPost (model X.prog X.w) X.A X.xe use Qf (.ref D) C (.ok .next) t) :
    wpAny (model X.prog X.w) X.A (comprehension (.ListComp elt [⟨tg, iter, ifs, 0⟩] scope pos) scope X.env pos' (newList []) false (eval iter X.env) use) Qf X.xe s := by
  have cells : ∀ y ∈ scope.names, y.2 = .free → ∃ c, X.env.cells.lookup y.1 = some c := fun y hy z => (ok.free y hy z).elim (fun k => I.ok.has _ (.inl k)) (fun k => I.ok.has _ (.inr k))
  refine comp_x (use := use) rfl hfs (closure_ok cells) ok.kind (fun y hy z => by rw [ok.uniq y hy, z]) (thn (hi.run pins s σ H _ I h) fun xv t1 hx => thn hx fun itv t2 k2 => ?_)
  obtain ⟨it, fp, tn, J, H2, rfl, I2, T, st2, f2, q⟩ := k2
  refine wpAny_newObj_type (newEnv_comp ?_) (by show 0 ≤ sizeLine; decide)
  obtain ⟨D, hD⟩ : ∃ D, D = t2.heap.objs.size := ⟨_, rfl⟩
  rw [← hD]
  have fD : H2 D = none := I2.hok.fresh (Nat.le_of_eq hD.symm)
  obtain ⟨Wn, ⟨m0, w0⟩, turn⟩ := q D fD
  obtain ⟨t3, ht3⟩ : ∃ t3 : Shared, t3 = { t2 with heap := t2.heap.push { cls := .type "list", data := .seq ([] : List Value).toArray } } := ⟨_, rfl⟩
  rw [← ht3]
  have h3 : t3.heap = t2.heap.push { cls := .type "list", data := .seq ([] : List Value).toArray } := by rw [ht3]
  have I3 : L2.Inv X pins σ (upd H2 D (.lst [])) t3 := by
    rw [ht3]
    exact I2.laid (t' := t2.toks) (fun b o z => Heap.get?_push_of_some _ z) (Nat.le_of_eq hD.symm) ⟨Nat.zero_le _, [], 0, .nil, by rw [hD]; exact Heap.get?_push_size _ rfl⟩
  have small : ∀ b ∈ fp, b < t2.heap.objs.size := fun b hb => by
    obtain ⟨o, z, _⟩ := T.obj _ _ st2 b hb
    exact Heap.lt_size z
  have f3 : ∀ b ∈ fp, FpOk X pins (upd H2 D (.lst [])) b ∧ b < t3.heap.objs.size := fun b hb => by
    have hlt := small b hb
    have ne : b ≠ D := by rw [hD]; exact Nat.ne_of_lt hlt
    refine ⟨⟨by rw [upd_ne ne]; exact (f2 b hb).1, (f2 b hb).2⟩, ?_⟩
    rw [h3, Heap.size_push]
    exact Nat.lt_succ_of_lt hlt
  have st3 : tn 0 t3.heap := T.keep _ _ _ st2 fun b _ o z => by rw [h3]; exact Heap.get?_push_of_some _ z
  have I4 := block_start I3 ok hN f3
  obtain ⟨ce, hce⟩ : ∃ ce, ce = compEnvC scope (cellsFrom (t3.heap.objs.size + 1) scope.names (cloFrom X.env.cells scope.names [])) t3.heap.objs.size X.env := ⟨_, rfl⟩
  have cL : ce.locals = t3.heap.objs.size := by rw [hce]; rfl
  have cf : ce.frame = X.env.frame := by rw [hce]; rfl
  have pg : ∀ H3, PG (blkE X E t3 H3 scope ce fp) tg g := fun H3 => by rw [hce]; exact hg _ _ _ _ _
  have pt : ∀ H3, PTs (blkE X E t3 H3 scope ce fp) ifs tt := fun H3 => by rw [hce]; exact ht _ _ _ _ _
  have pe : ∀ H3, PE (blkE X E t3 H3 scope ce fp) elt te := fun H3 => by rw [hce]; exact he _ _ _ _ _
  show codeAny _ _ (.compStart (.ListComp elt [⟨tg, iter, ifs, 0⟩] scope pos) 0 (.ref it) (.ref D) (compEnvC scope (cellsFrom (t3.heap.objs.size + 1) scope.names (cloFrom X.env.cells scope.names [])) t3.heap.objs.size X.env))
    (endX (model X.prog X.w) X.A X.xe use Qf (.ref D) (compEnvC scope (cellsFrom (t3.heap.objs.size + 1) scope.names (cloFrom X.env.cells scope.names [])) t3.heap.objs.size X.env)) { t3 with heap := pushCells (t3.heap.push { cls := .type "dict", data := .dict #[] }) scope.names }
  rw [← hce] at I4 ⊢
  have nfp : ∀ b ∈ fp, (upd H2 D (.lst [])) b = none := fun b hb => (f3 b hb).1.1
  generalize upd H2 D (.lst []) = H3 at I3 I4 w0 nfp f3
  obtain ⟨t4, ht4⟩ : ∃ t4 : Shared, t4 = { t3 with heap := pushCells (t3.heap.push { cls := .type "dict", data := .dict #[] }) scope.names } := ⟨_, rfl⟩
  rw [← ht4] at I4 ⊢
  have st4 : tn 0 t4.heap := T.keep _ _ _ st3 fun b _ o z => by rw [ht4]; exact pushCells_keeps _ _ _ _ (Heap.get?_push_of_some _ z)
  have hfp : ∀ b ∈ fp, (b ∈ X.ex ∨ X.s_0.heap.objs.size ≤ b) ∧ b ≠ X.env.locals ∧ (∀ x c, X.env.cells.lookup x = some c → c ≠ b) ∧ ∀ p ∈ X.pn ++ pins, p.1 ≠ b := fun b hb => ⟨(f3 b hb).1.2.2.2.1, (f3 b hb).1.2.1, (f3 b hb).1.2.2.2.2.1, (f3 b hb).1.2.2.2.2.2⟩
  have err : ∀ {v : Value} {t : Shared}, xeB X E (X.blk t3 H3 scope ce fp) v t → notedBy (model X.prog X.w) X.A ce (fun e t' => endX (model X.prog X.w) X.A X.xe use Qf (.ref D) ce (.error e) t') v t := fun x => err_out hs hf tk hW I3 hfp cf cL x
  have go : ∀ {α : Type} {m : Sem α} {P1 P2 : α → Shared → Prop} {t : Shared}, wpAny (model X.prog X.w) X.A m P1 (xeB X E (X.blk t3 H3 scope ce fp)) t → (∀ a t, P1 a t → P2 a t) → wpAny (model X.prog X.w) X.A m P2 (notedBy (model X.prog X.w) X.A ce (fun e t' => endX (model X.prog X.w) X.A X.xe use Qf (.ref D) ce (.error e) t')) t := fun k f => wpAny_mono k f fun _ _ z => err z
  have stat : ∀ {σ' : L2.St} {H' : Hp} {t : Shared}, L2.Inv (X.blk t3 H3 scope ce fp) [] σ' H' t → (∀ b ∈ fp, H' b = none) → ∀ b ∈ fp, FpOk (X.blk t3 H3 scope ce fp) [] H' b := fun {σ' H' t} K hn b hb =>
    ⟨hn b hb, (K.ok.exf b hb).1, K.ok.exfs b hb, .inl hb, fun x c z => (K.ok.exf b hb).2 x c z, fun p hp => by simp at hp⟩
  have loop : codeAny (model X.prog X.w) X.A (.compLoop (.ListComp elt [⟨tg, iter, ifs, 0⟩] scope pos) 0 (.ref it) (.ref D) ce) (endX (model X.prog X.w) X.A X.xe use Qf (.ref D) ce) t4 := by
    refine compLoop_any (fun n t => ∃ i H', L2.Inv (X.blk t3 H3 scope ce fp) [] (wipe σ (own.map (·.2))) H' t ∧ tn i t.heap ∧ (∀ b ∈ fp, H' b = none) ∧ Wn i n H') ?_ m0 ⟨0, H3, I4, st4, nfp, w0⟩
    rintro n t5 ⟨i, H5, I5, st5, n5, w5⟩
    rcases turn i n H5 w5 with ⟨stop, fin⟩ | ⟨on, Nx, hNx, step⟩
    · refine thnF (T.done (X.blk t3 H3 scope ce fp) rfl rfl rfl hc i [] t5 _ H5 (fun _ _ => False) I5 (stat I5 n5) st5 stop) fun r t6 ⟨hr, I6⟩ => ?_
      subst hr
      have I7 : L2.Inv X pins σ H5 t6 := I3.call' (ch := fp) I6.os I6.base I6.hok I6.bare hfp
      have nC : H5 t3.heap.objs.size = none := by
        rw [← cL]
        exact I6.free
      obtain ⟨m, hn, _⟩ := I6.loc
      have hn : t6.heap.Ns ce.locals m := hn
      have z := hRR D t3.heap.objs.size t6 m H5 I7 fin (by rw [← cL]; exact hn) (I3.fpOk (Nat.le_refl _) nC)
      rw [← cL] at z
      exact z
    · refine thnF (T.item (X.blk t3 H3 scope ce fp) rfl rfl rfl hc i [] t5 _ H5 (fun _ _ => False) I5 (stat I5 n5) st5 on) fun r t6 ⟨u, hr, k6⟩ => ?_
      subst hr
      refine thnF k6 fun _ t7 ⟨x, H7, I7, r7, y7, st7, n7⟩ => ?_
      have I7' := (I7.pinned (stat I7 n7) (T.obj _ _ st7)).wish (xeB X E (X.blk t3 H3 scope ce fp))
      refine go ((pg H3).run _ t7 _ H7 x u _ I7' r7 (step x H7 y7)) fun _ t8 ⟨σ8, H8, I8, hw8, q8⟩ => ?_
      refine go ((pt H3).run _ t8 σ8 H8 _ I8 q8) fun b t9 ⟨H9, I9, q9⟩ => ?_
      have next : ∀ {t : Shared} {H' : Hp}, L2.Inv (X.blk t3 H3 scope ce fp) ([] ++ pinsAt fp t7.heap) σ8 H' t → Nx H' → ∃ m, m < n ∧ ∃ i H', L2.Inv (X.blk t3 H3 scope ce fp) [] (wipe σ (own.map (·.2))) H' t ∧ tn i t.heap ∧ (∀ b ∈ fp, H' b = none) ∧ Wn i m H' := fun {t H'} K nx => by
        obtain ⟨m', hm, w'⟩ := hNx H' nx
        have pin : ∀ b ∈ fp, ∀ o, t7.heap.get? b = some o → t.heap.get? b = some o ∧ H' b = none := fun b hb o z => by
          have y := K.pin (b, o) (List.mem_append_right _ (List.mem_append_right _ (mem_pinsAt hb z)))
          exact ⟨y.1, y.2.1⟩
        have hl : (wipe σ (own.map (·.2))).length = σ8.length := by rw [← hw8, wipe_length]
        refine ⟨m', hm, i + 1, H', (K.unpinned (pins := [])).weak hl (fun j v z => ?_), T.keep _ _ _ st7 fun b hb o z => (pin b hb o z).1, fun b hb => ?_, w'⟩
        · rw [← hw8] at z
          exact (wipe_some z).1
        · obtain ⟨o, z, _⟩ := T.obj _ _ st7 b hb
          exact (pin b hb o z).2
      cases b with
      | false => exact next I9.unwish q9
      | true =>
        refine go ((pe H3).run _ t9 σ8 H9 _ I9 q9) fun z t10 ⟨yv, H10, I10, r10, acc, hD10, hz10, nx⟩ => ?_
        exact app_ok (X := X.blk t3 H3 scope ce fp) I10.unwish hD10 hz10 r10 fun t11 I11 => next I11 nx
  exact codeAny_compStart_list loop (T.self X.A 0 _ _ _ st4 loop)
/-- [elt for target in iter if ..], where elt may let an error out: it is then W's -/
def tLcE (W : WX) (wi : TI) (g : TG) (tt : XK → TT) (te : XK → TE) (vs : List Nat) : TE := fun σ H Q => ∃ E : XK, (∀ cls d H', E cls d H' → W cls d σ H') ∧ tLc wi g (tt E) (te E) vs σ H Q
theorem pass_blk {E : XK} {s : Shared} {H : Hp} {scope : Scope} {ce : Env} {fp : List Addr} : Passes (L2.CX X.prog X.w) (blkE X E s H scope ce fp) E := fun pins σ H1 t e t' I c => ⟨pins, σ, H1, t, I.unwish, c⟩
theorem pe_lcE {W : WX} {elt tg iter : Expr} {ifs : List Expr} {scope : Scope} {own : List (Str × Nat)} {pos : Pos} {wi : TI} {g : TG} {tt : XK → TT} {te : XK → TE} (hc : X.calm = true) (hs : X.stack = X.env :: X.outer) (hf : X.env.frame = some X.env.locals) (tk : Takes X W) (hN : X.N.Nodup)
    (hi : PI X tg iter wi) (ok : BlkOk X.N X.env.scope scope own) (hg : ∀ (E : XK) (s : Shared) (H : Hp) (C : Addr) (cl : List (Str × Addr)) (fp : List Addr), PG (blkE X E s H scope (compEnvC scope cl C X.env) fp) tg g)
    (ht : ∀ (E : XK) (s : Shared) (H : Hp) (C : Addr) (cl : List (Str × Addr)) (fp : List Addr), PTs (blkE X E s H scope (compEnvC scope cl C X.env) fp) ifs (tt E)) (he : ∀ (E : XK) (s : Shared) (H : Hp) (C : Addr) (cl : List (Str × Addr)) (fp : List Addr), PE (blkE X E s H scope (compEnvC scope cl C X.env) fp) elt (te E))
    (hfs : ∀ x, foldedSetIterable iter X.env x = pure x := by intro _; rfl) : PE X (.ListComp elt [⟨tg, iter, ifs, 0⟩] scope pos) (tLcE W wi g tt te (own.map (·.2))) := by
  refine ⟨fun pins s σ H Q I h => ?_⟩
  obtain ⟨E, hE, h⟩ := h
  rw [eval_ListComp]
  refine lc_errs hc hs hf tk hE hN I hi ok (hg E) (ht E) (he E) hfs h fun D C t m H' I' q hn f => ⟨m, hn, fun h2 sb => ?_⟩
  exact ⟨.ref D, H', I'.turned (t' := t.toks) (fun b o hb z => (sb.2 b hb).trans z) f.1 f.2.1 f.2.2.2.1 f.2.2.2.2.1 f.2.2.2.2.2, rfl, q⟩
/-- name = [..] on one line -/
theorem ps_setLcE {W : WX} {i : Nat} {y : Str} {py : Pos} {elt tg iter : Expr} {ifs : List Expr} {scope : Scope} {own : List (Str × Nat)} {pos spos : Pos} {wi : TI} {g : TG} {tt : XK → TT} {te : XK → TE} (hc : X.calm = true) (hs : X.stack = X.env :: X.outer) (hf : X.env.frame = some X.env.locals) (tk : Takes X W) (hN : X.N.Nodup)
    (hy : X.N[i]? = some y) (hyl : X.env.scope.names.lookup y = some .local) (hsw : swapsWith (.ListComp elt [⟨tg, iter, ifs, 0⟩] scope pos) (some (.Name y py)) spos.line X.env = pure true)
    (hi : PI X tg iter wi) (ok : BlkOk X.N X.env.scope scope own) (hg : ∀ (E : XK) (s : Shared) (H : Hp) (C : Addr) (cl : List (Str × Addr)) (fp : List Addr), PG (blkE X E s H scope (compEnvC scope cl C X.env) fp) tg g)
    (ht : ∀ (E : XK) (s : Shared) (H : Hp) (C : Addr) (cl : List (Str × Addr)) (fp : List Addr), PTs (blkE X E s H scope (compEnvC scope cl C X.env) fp) ifs (tt E)) (he : ∀ (E : XK) (s : Shared) (H : Hp) (C : Addr) (cl : List (Str × Addr)) (fp : List Addr), PE (blkE X E s H scope (compEnvC scope cl C X.env) fp) elt (te E))
    (hfs : ∀ x, foldedSetIterable iter X.env x = pure x := by intro _; rfl) : PS X (.Assign [.Name y py] (.ListComp elt [⟨tg, iter, ifs, 0⟩] scope pos) spos) (tAsg (tLcE W wi g tt te (own.map (·.2))) (gName i)) := by
  refine ⟨fun pins s σ H D I h => ?_⟩
  obtain ⟨E, hE, h⟩ := h
  rw [exec_Assign_Name_used _ _ _ _ hsw]
  refine wpAny_bind (wpAny_standAt (wpAny_bind ?_))
  show wpAny _ X.A (do let _ ← comprehension (.ListComp elt [⟨tg, iter, ifs, 0⟩] scope pos) scope X.env (firstIterPos [⟨tg, iter, ifs, 0⟩] pos) (newList []) false (eval iter X.env) (some (assign (.Name y py) X.env))) _ _ s
  have k := lc_errs (pos := pos) (pos' := firstIterPos [⟨tg, iter, ifs, 0⟩] pos) (use := some (assign (.Name y py) X.env)) (Qf := fun _ t => SP X pins D .next t) hc hs hf tk hE hN I hi ok (hg E) (ht E) (he E) hfs h fun L C t m H' I' q hn f => ?_
  · exact wpAny_bind (thn k fun _ t hq => wpAny_pure (wpAny_pure hq))
  show wpAny _ _ (assign (.Name y py) X.env (.ref L)) _ _ _
  refine wpAny_assign_Name (store_ok2 (v := V.ref L) I' hN hy (.inl hyl) rfl (fun t2 I2 ⟨a, sb, ha⟩ => ?_) (.inr hyl))
  have ne : C ≠ a := by
    rcases ha with z | z
    · rw [z]
      exact f.2.1
    · exact fun e => f.2.2.2.2.1 y a z e.symm
  refine ⟨m, hn.sameBut sb ne, fun h3 sb3 => ?_⟩
  exact ⟨_, H', I2.turned (t' := t2.toks) (fun b o hb z => (sb3.2 b hb).trans z) f.1 f.2.1 f.2.2.2.1 f.2.2.2.2.1 f.2.2.2.2.2, q⟩
end
end KA
/-! repr of a list whose items show themselves by an own __repr__ -/
namespace KA
open PySem PySem.Spec PySem.W PyProof.Rows
section
variable {prog : Program} {w : World} {A : Around} {E : Value → Shared → Prop} {s : Shared} {K : Frag} {x C f : Addr} {ox : Obj} {od : Option Obj}
theorem boundBy_K {M : Model} {name : Str} {last : Value → List Value → Sem Value} {Q : Option Value → Shared → Prop} (inK : K.In s.heap) (I : InstAt s.heap x ox C od) (hs : findIn K (.ref C) name = some (some (.ref f))) (hf : isFn K (.ref f) = true)
    (h : wpAny M A (last (.ref f) [.ref x]) (fun v => Q (some v)) E s) : wpAny M A (callSpecialIfBoundBy? last (.ref x) name) Q E s := by
  simp only [callSpecialIfBoundBy?, bindSpecialIfBound?]
  refine wpAny_holding (wpAny_bind (wpAny_bind (wpAny_bind (I.type.here ((looks_findIn inK hs).here ?_)))))
  refine wpAny_bind (wpAny_askSetting (wpAny_ite ?_))
  have done : wpAny M A (last (.ref f) [.ref x] >>= fun v => pure (some v)) Q E s := wpAny_bind (wpAny_mono h (fun _ _ z => wpAny_pure z) fun _ _ z => z)
  split
  · exact wpAny_bind ((bind_fn inK _ (beq_iff_eq.mp hf)).here (wpAny_pure (by exact done)))
  · exact wpAny_tryCatch (wpAny_bind ((bind_fn inK _ (beq_iff_eq.mp hf)).here (wpAny_pure (by exact done))))
theorem under_K {b : Nat} {Q : Str → Shared → Prop} (hb : b ≤ sizeLine) (hu : A.units < cLine) (inK : K.In s.heap) (I : InstAt s.heap x ox C od) (hs : findIn K (.ref C) "__repr__" = some (some (.ref f))) (hf : isFn K (.ref f) = true)
    (h : wpAny (model prog w) A (call (.ref f) [.ref x]) (fun r t => ∃ m tk, r = .str m tk ∧ Q m t) E s) : wpAny (model prog w) A (pyReprUnder b (.ref x)) Q E s := by
  refine wpAny_pyReprUnder_ref hb ?_
  unfold pyReprObjUnder pyReprObjBy
  refine wpAny_bind (wpAny_cRoomFor hu ?_)
  refine wpAny_bind (wpAny_bind (I.type.here ((looks_findIn inK hs).here ?_)))
  show wpAny _ _ (if (some (Value.ref f)).isNone = true then _ else _) _ _ _
  rw [if_neg (by simp)]
  refine wpAny_bind (m := callSpecialIfBoundBy? _ (.ref x) (Str.ofString "__repr__")) (boundBy_K inK I hs hf ?_)
  refine wpAny_mono h (fun r t k => ?_) fun _ _ z => z
  obtain ⟨m, tk, rfl, q⟩ := k
  refine wpAny_bind (wpAny_isInstance (typeIs_str _ _ _) isSubtype_str_str ?_)
  exact wpAny_pure ⟨_, _, rfl, q⟩
end
end KA
namespace KA
open PySem PySem.Spec PyProof.Rows L2
section
variable {X : Cx} {n : Nat}
/-- x is shown as t, by what stands in H, whatever is made meanwhile -/
def Shows (X : Cx) (n : Nat) (x : V) (t : Str) (H : Hp) : Prop := ∀ (A : Around) (pins : List (Addr × Obj)) (σ : L2.St) (H1 : Hp) (s : Shared) (u : Value) (b : Nat) (Q : Str → Shared → Prop), Sub X n A → (∀ c o, H c = some o → H1 c = some o) → L2.Inv X pins σ H1 s → RelV x u → b + t.length ≤ sizeLine →
  (∀ s2 H2, L2.Inv X pins σ H2 s2 → (∀ c o, H1 c = some o → H2 c = some o) → Q t s2) → wpAny (model X.prog X.w) A (pyReprUnder b u) Q X.xe s
theorem shows_non {H : Hp} : Shows X n .non "None" H := fun A pins σ H1 s u b Q _ _ I ru hz fin => by
  cases (show u = Value.none from ru)
  exact ReprIs.none b hz A X.xe s Q fun tk => fin _ H1 (I.tok tk) fun _ _ z => z
theorem shows_own {CX : CXT} {C f p dx : Addr} {fd : FuncData} {ps : List Str} {sp : Sp} {E : XK} {fs : List (Str × V)} {t : Str} {H : Hp} (F : FnOk X.prog X.w X.K X.mg X.base CX n f fd ps sp) (hs : PySem.W.findIn X.K (.ref C) "__repr__" = some (some (.ref f))) (hf : PySem.W.isFn X.K (.ref f) = true) (hb : Binds X.K fd ps []) (hx : Passes CX X E)
    (hp : H p = some (.ins C dx fs)) (hsp : ∀ (H1 : Hp) (Q : VK), (∀ c o, H c = some o → H1 c = some o) → (∀ H2, (∀ c o, H1 c = some o → H2 c = some o) → Q (.str t) H2) → sp [.ref p] H1 Q E) : Shows X n (.ref p) t H := fun A pins σ H1 s u b Q sb s01 I ru hz fin => by
  cases (show u = Value.ref p from ru)
  obtain ⟨mA, J, _⟩ := ins_get I.hok (s01 _ _ hp)
  obtain ⟨od, J, _⟩ := J.look
  refine under_K (Nat.le_trans (Nat.le_add_right _ _) hz) sb.room.units0 I.kIn J hs hf (wpAny_mono (run_self (Q := fun v H2 => v = .str t ∧ ∀ c o, H1 c = some o → H2 c = some o) F hb hx sb.room sb.fr I (hsp H1 _ s01 fun H2 s12 => ⟨⟨t, rfl⟩, rfl, s12⟩)) (fun r s2 k => ?_) fun _ _ z => z)
  obtain ⟨m, tk, rfl, v, H2, I2, rv, ev, s12⟩ := k
  subst ev
  obtain ⟨tk2, e⟩ := (show ∃ y, Value.str m tk = Value.str t y from rv)
  cases e
  exact ⟨t, tk, rfl, fin s2 H2 I2 s12⟩
theorem sub_loop {A : Around} {args : Args} (sb : Sub X (n + 1) A) : Sub X n (A.under (.builtin "list.__repr__.loop" args)) := by
  have r := sb.room
  refine ⟨⟨?_, ?_, ?_⟩, ?_⟩
  · exact r.hd
  · have := r.dp
    have e : (A.under (.builtin "list.__repr__.loop" args)).depth = A.depth + 1 := by
      first | rfl | simp [Around.under, Code.weight, Code.isCreation, Code.isGuard, Code.isCaller, Code.frames, Code.isFrame, guardIds]
    rw [e]
    omega
  · have := r.un
    rw [units_under_list_loop]
    omega
  · exact sb.fr
theorem strs_of : ∀ {l : List Str} {us : List Value}, Vals (l.map V.str) us → ∃ d, us = strValues d ∧ d.map (·.1) = l
  | [], _, .nil => ⟨[], rfl, rfl⟩
  | x :: l, _, .cons h r => by
    obtain ⟨tk, rfl⟩ := (show ∃ t, _ = Value.str x t from h)
    obtain ⟨d, rfl, e⟩ := strs_of r
    exact ⟨(x, tk) :: d, rfl, by rw [List.map_cons, e]⟩
theorem repr_loopI {pins : List (Addr × Obj)} {σ : L2.St} {A : Around} {R : Result → Shared → Prop} {a P : Addr} {xs : List V} {ts : List Str} {H : Hp} {base : Nat} (sb : Sub X (n + 1) A) (fP : H P = none) (hlen : ts.length = xs.length) (hT : ∀ (i : Nat) x t, xs[i]? = some x → ts[i]? = some t → Shows X n x t H)
    (hsz : base + (listText ts).length ≤ sizeLine) (ha0 : H a = some (.lst xs)) (fin : ∀ s2 H2 u, L2.Inv X pins σ H2 s2 → (∀ c o, H c = some o → H2 c = some o) → R (.ok (.ret (.str (listText ts) u))) s2) (err : ∀ e s2, X.xe e s2 → R (.error e) s2) :
    ∀ (k i : Nat) (s : Shared) (H1 : Hp), ts.length - i = k → i ≤ ts.length → (∀ c o, H c = some o → H1 c = some o) → L2.Inv X pins σ H1 s → H1 P = some (.lst ((ts.take i).map V.str)) →
      codeAny (model X.prog X.w) A (.builtin "list.__repr__.loop" ⟨[.ref a, rawInt i, .ref P, rawInt ((base + piled (ts.take i) : Nat) : Int)], []⟩) R s := by
  have hp3 := piled_le_listText ts
  have big : ∀ t ∈ ts, t.length ≤ sizeLine := fun t ht => by
    have h2 := (textFrom_len ts 0 "[").2.1 t ht
    have e : (listText ts).length = (textFrom 0 "[" ts).length + 1 := by
      show (textFrom 0 "[" ts ++ "]").length = _
      rw [strLen_append]
      rfl
    omega
  intro k
  induction k with
  | zero =>
    intro i s H1 hk hi s01 I eP
    have hin : i = ts.length := by omega
    obtain ⟨its, m, r, e, _⟩ := I.lst (s01 _ _ ha0)
    obtain ⟨ps, m2, r2, e2, z2⟩ := I.lst eP
    refine codeAny_builtin F.entry_list_repr_loop ?_
    show wpAny _ _ (Builtin.«list.__repr__.loop» ⟨[.ref a, .int i 0, .ref P, .int ((base + piled (ts.take i) : Nat) : Int) 0], []⟩) _ _ s
    rw [repr_loop_tree]
    refine wpAny_bind (wpAny_listItems e rfl ?_)
    have no : its.toArray[(i : Int).toNat]? = none := by
      have := r.length
      simp
      omega
    simp only [no]
    unfold reprEnd
    refine wpAny_bind (wpAny_listItems e2 rfl ?_)
    obtain ⟨d, rfl, ed⟩ := strs_of r2
    rw [show (strValues d).toArray.toList = strValues d by simp, repr_fold]
    refine wpAny_bind (wpAny_pure ?_)
    rw [ed, hin, List.take_length]
    refine wpAny_bind (wpAny_mkStr (wpAny_pure ?_) (by show (listText ts).length ≤ sizeLine; omega))
    exact fin _ H1 _ (I.tok _) s01
  | succ k ih =>
    intro i s H1 hk hi s01 I eP
    have hlt : i < ts.length := by omega
    obtain ⟨t, ht⟩ : ∃ t, ts[i]? = some t := ⟨_, List.getElem?_eq_getElem hlt⟩
    obtain ⟨x, hx⟩ : ∃ x, xs[i]? = some x := ⟨_, List.getElem?_eq_getElem (by omega)⟩
    obtain ⟨its, m, r, e, _⟩ := I.lst (s01 _ _ ha0)
    obtain ⟨u, hu, ru⟩ := r.get hx
    have hp1 := piled_take_succ ht
    have hp2 := piled_take_le ts (i + 1)
    refine codeAny_builtin F.entry_list_repr_loop ?_
    show wpAny _ _ (Builtin.«list.__repr__.loop» ⟨[.ref a, .int i 0, .ref P, .int ((base + piled (ts.take i) : Nat) : Int) 0], []⟩) _ _ s
    rw [repr_loop_tree]
    refine wpAny_bind (wpAny_listItems e rfl ?_)
    have yes : its.toArray[(i : Int).toNat]? = some u := by simpa using hu
    simp only [yes]
    rw [Int.toNat_natCast]
    refine wpAny_bind (wpAny_holding (wpAny_mono (hT i x t hx ht _ pins σ H1 s u (base + piled (ts.take i) + 1) (fun r s2 => r = t ∧ ∃ H2, L2.Inv X pins σ H2 s2 ∧ ∀ c o, H1 c = some o → H2 c = some o) (sub_loop sb) s01 I ru (by omega) fun s2 H2 I2 s12 => ⟨rfl, H2, I2, s12⟩) (fun r s2 k2 => ?_) fun e s2 z => err e s2 z))
    obtain ⟨rfl, H2, I2, s12⟩ := k2
    refine wpAny_bind (wpAny_mkStr ?_ (big r (List.mem_of_getElem? ht)))
    refine wpAny_bind ?_
    show wpAny _ _ (updateSeq P _) _ _ _
    obtain ⟨ps, m2, r2, e2, z2⟩ := (I2.tok (s2.toks + 1)).lst (s12 _ _ eP)
    have small : ((ts.take i).map V.str).length ≤ i := by rw [List.length_map, List.length_take]; omega
    have few : i < sizeLine := by
      have h1 := (textFrom_len ts 0 "[").1
      rw [if_neg (Nat.lt_irrefl 0)] at h1
      have e : (listText ts).length = (textFrom 0 "[" ts).length + 1 := by
        show (textFrom 0 "[" ts ++ "]").length = _
        rw [strLen_append]
        rfl
      omega
    have hps : ps.length ≤ i := by rw [← r2.length]; exact small
    refine wpAny_updateSeq e2 rfl (wpAny_pure ⟨F.quiet_list_repr_loop _, ?_⟩) (by simp; omega) (by simp; omega)
    have n1 : ((i : Int) + 1) = ((i + 1 : Nat) : Int) := by omega
    have n2 : base + piled (ts.take i) + (r.length + 2) = base + piled (ts.take (i + 1)) := by omega
    rw [n1, n2]
    have I3 := (I2.tok (s2.toks + 1)).lstUpd (p := P) (ys := (ts.take (i + 1)).map V.str) (its' := ps ++ [.str r s2.toks]) (n' := m2 + 1) (f := Obj.mapSeq (·.push (.str r s2.toks))) (s12 _ _ eP) e2 (by simp [Obj.mapSeq]) (by
      rw [List.take_add_one, ht, List.map_append]
      exact r2.append (.cons ⟨_, rfl⟩ .nil)) (by rw [List.length_map, List.length_take]; omega) (s2.toks + 1)
    refine ih (i + 1) _ _ (by omega) hlt (fun c o z => ?_) I3 upd_same
    rw [upd_ne (fun y => by rw [y, fP] at z; cases z)]
    exact s12 _ _ (s01 _ _ z)
/-- list.__repr__, where nothing is being shown -/
theorem call_listI {pins : List (Addr × Obj)} {σ : L2.St} {A : Around} {Q : Value → Shared → Prop} {s : Shared} {H : Hp} {a : Addr} {xs : List V} {ts : List Str} (sb : Sub X (n + 3) A) (gd : A.guards = some []) (I : L2.Inv X pins σ H s) (ha : H a = some (.lst xs)) (hlen : ts.length = xs.length)
    (hT : ∀ (i : Nat) x t, xs[i]? = some x → ts[i]? = some t → Shows X n x t H) (hsz : (listText ts).length ≤ sizeLine) (fin : ∀ s2 H2 u, L2.Inv X pins σ H2 s2 → (∀ c o, H c = some o → H2 c = some o) → Q (.str (listText ts) u) s2) :
    wpAny (model X.prog X.w) A (call (.builtin "list.__repr__") [.ref a]) Q X.xe s := by
  obtain ⟨its, m, r, e, z⟩ := I.lst ha
  have ty : s.TypeIs (.ref a) "list" := ⟨_, e, rfl⟩
  refine wpAny_call (codeAny_call_builtin F.slot_list_repr.plain F.entry_list_repr (F.slot_list_repr.check _ _ _ _ _ _ _ _ ty (F.args_list_repr_1 _) ?_))
  cases its with
  | nil =>
    have e0 : xs = [] := List.length_eq_zero_iff.mp r.length
    have e1 : ts = [] := List.length_eq_zero_iff.mp (by rw [hlen, e0]; rfl)
    subst e1
    exact wpAny_list_repr_empty (b := 0) e rfl (fin _ H _ (I.tok _) fun _ _ z => z)
  | cons v vs =>
    refine wpAny_list_repr_head (A := A.in1) (b := 0) gd (fun _ _ _ z => nomatch z) e rfl ?_
    refine wpAny_bind (m := newList []) (wpAny_newObj_type ?_)
    refine wpAny_pure ⟨F.quiet_list_repr_loop _, ?_⟩
    have fP : H s.heap.objs.size = none := I.hok.fresh (Nat.le_refl _)
    have I3 : L2.Inv X pins σ (upd H s.heap.objs.size (.lst [])) { s with heap := s.heap.push { cls := .type "list", data := .seq ([] : List Value).toArray } } :=
      I.laid (t' := s.toks) (fun b o z => Heap.get?_push_of_some _ z) (Nat.le_refl _) ⟨Nat.zero_le _, [], 0, .nil, Heap.get?_push_size _ rfl⟩
    have up : ∀ c o, H c = some o → upd H s.heap.objs.size (.lst []) c = some o := fun c o z => by
      rw [upd_ne (fun y => by rw [y, fP] at z; cases z)]
      exact z
    exact repr_loopI (base := 0) (sb.mono (by omega)) fP hlen hT (by omega) ha (fun s2 H2 u I2 s12 => fin s2 H2 u I2 s12) (fun _ _ z => z) ts.length 0 _ _ rfl (Nat.zero_le _) up I3 upd_same
/-- repr of a list, where nothing is being shown -/
theorem repr_listI {pins : List (Addr × Obj)} {σ : L2.St} {A : Around} {Q : Value → Shared → Prop} {s : Shared} {H : Hp} {a : Addr} {xs : List V} {ts : List Str} (sb : Sub X (n + 3) A) (gd : A.guards = some []) (I : L2.Inv X pins σ H s) (ha : H a = some (.lst xs)) (hlen : ts.length = xs.length)
    (hT : ∀ (i : Nat) x t, xs[i]? = some x → ts[i]? = some t → Shows X n x t H) (hsz : (listText ts).length ≤ sizeLine) (fin : ∀ s2 H2 u, L2.Inv X pins σ H2 s2 → (∀ c o, H c = some o → H2 c = some o) → Q (.str (listText ts) u) s2) :
    wpAny (model X.prog X.w) A (pyReprObj (.ref a)) Q X.xe s := by
  obtain ⟨its, m, r, e, z⟩ := I.lst ha
  have ty : s.TypeIs (.ref a) "list" := ⟨_, e, rfl⟩
  unfold pyReprObj
  refine wpAny_bind (wpAny_cRoomFor (by have := sb.room.un; omega) ?_)
  refine wpAny_bind (wpAny_specialOf (name := Str.ofString "__repr__") ty F.slot_list_repr.lookup ?_)
  refine wpAny_bind (m := callSpecialIfBound? (.ref a) (Str.ofString "__repr__")) (wpAny_callSpecialIfBound?_slot (name := Str.ofString "__repr__") ty F.slot_list_repr (call_listI sb gd I ha hlen hT hsz fun s2 H2 u I2 s12 => ?_))
  exact wpAny_bind (wpAny_isInstance (T := "str") (b := true) rfl isSubtype_str_str (wpAny_pure (fin s2 H2 u I2 s12)))
end
end KA
/-! repr of a tuple that holds lists of own things, and data -/
namespace KA
open PySem PySem.Spec PyProof.Rows L2
section
variable {X : Cx} {n : Nat}
/-- x is shown as t, where nothing but t0 is being shown -/
def ShowsG (X : Cx) (n : Nat) (t0 : Addr) (x : V) (t : Str) (H : Hp) : Prop := ∀ (A : Around) (g : List Code) (pins : List (Addr × Obj)) (σ : L2.St) (H1 : Hp) (s : Shared) (u : Value) (b : Nat) (Q : Str → Shared → Prop), Sub X n A → A.guards = some g → (∀ c, c ≠ t0 → Clear g c) → (∀ c o, H c = some o → H1 c = some o) → L2.Inv X pins σ H1 s → RelV x u → b + t.length ≤ sizeLine →
  (∀ s2 H2, L2.Inv X pins σ H2 s2 → (∀ c o, H1 c = some o → H2 c = some o) → Q t s2) → wpAny (model X.prog X.w) A (pyReprUnder b u) Q X.xe s
theorem Shows.g {t0 : Addr} {x : V} {t : Str} {H : Hp} (h : Shows X n x t H) : ShowsG X n t0 x t H := fun A _ pins σ H1 s u b Q sb _ _ s01 I ru hz fin => h A pins σ H1 s u b Q sb s01 I ru hz fin
theorem shows_listG {H : Hp} {a t0 : Addr} {xs : List V} {ts : List Str} (ne : a ≠ t0) (ha : H a = some (.lst xs)) (hlen : ts.length = xs.length) (hT : ∀ (i : Nat) x t, xs[i]? = some x → ts[i]? = some t → Shows X n x t H) : ShowsG X (n + 3) t0 (.ref a) (listText ts) H := by
  intro A g pins σ H1 s u b Q sb gd hcl s01 I ru hz fin
  cases (show u = Value.ref a from ru)
  obtain ⟨its, m, r, e, z⟩ := I.lst (s01 _ _ ha)
  have ty : s.TypeIs (.ref a) "list" := ⟨_, e, rfl⟩
  have uu : A.units < cLine := sb.room.units0
  refine wpAny_pyReprUnder_ref (by omega) (wpAny_pyReprObjUnder_twin (twin := "list.__repr__.under") ty F.slot_list_repr.toG rfl uu ?_)
  refine call_twin_plain F.plain_list_repr_under F.entry_list_repr_under F.check_list_repr_under ty F.slot_list_repr.toG (F.args_list_repr_1 _) ?_
  have hTs : ∀ (i : Nat) x t, xs[i]? = some x → ts[i]? = some t → Shows X n x t H1 := fun i x t h1 h2 A pins σ H2 s u b Q sb s12 I ru hz fin => hT i x t h1 h2 A pins σ H2 s u b Q sb (fun c o k => s12 _ _ (s01 _ _ k)) I ru hz fin
  cases its with
  | nil =>
    have e0 : xs = [] := List.length_eq_zero_iff.mp r.length
    have e1 : ts = [] := List.length_eq_zero_iff.mp (by rw [hlen, e0]; rfl)
    subst e1
    exact wpAny_list_repr_empty (b := b) e rfl ⟨⟨_, _, rfl⟩, _, _, rfl, fin _ H1 (I.tok _) fun _ _ z => z⟩
  | cons v vs =>
    refine wpAny_list_repr_head (A := A.in1) (b := b) gd (fun v rest kw hm => listSameRef_of_ne (hcl a ne _ _ _ _ hm)) e rfl ?_
    refine wpAny_bind (m := newList []) (wpAny_newObj_type ?_)
    refine wpAny_pure ⟨F.quiet_list_repr_loop _, ?_⟩
    have fP : H1 s.heap.objs.size = none := I.hok.fresh (Nat.le_refl _)
    have I3 : L2.Inv X pins σ (upd H1 s.heap.objs.size (.lst [])) { s with heap := s.heap.push { cls := .type "list", data := .seq ([] : List Value).toArray } } :=
      I.laid (t' := s.toks) (fun b o z => Heap.get?_push_of_some _ z) (Nat.le_refl _) ⟨Nat.zero_le _, [], 0, .nil, Heap.get?_push_size _ rfl⟩
    have up : ∀ c o, H1 c = some o → upd H1 s.heap.objs.size (.lst []) c = some o := fun c o z => by
      rw [upd_ne (fun y => by rw [y, fP] at z; cases z)]
      exact z
    exact repr_loopI (base := b) (sb.mono (by omega)) fP hlen hTs hz (s01 _ _ ha) (fun s2 H2 u I2 s12 => ⟨⟨_, _, rfl⟩, _, _, rfl, fin s2 H2 I2 s12⟩) (fun _ _ z => z) ts.length 0 _ _ rfl (Nat.zero_le _) up I3 upd_same
theorem sub_tup {A : Around} {args : Args} (sb : Sub X (n + 1) A) : Sub X n (A.under (.builtin "tuple.__repr__" args)) := by
  have r := sb.room
  refine ⟨⟨r.hd, ?_, ?_⟩, sb.fr⟩
  · have := r.dp
    have e : (A.under (.builtin "tuple.__repr__" args)).depth ≤ A.depth + 1 := by
      first
        | exact Nat.le_refl _
        | (show A.depth ≤ A.depth + 1; omega)
        | simp [Around.under, Code.weight, Code.isCreation, Code.isGuard, Code.isCaller, Code.frames, Code.isFrame, guardIds]
    omega
  · have := r.un
    rw [units_under_tuple_repr]
    omega
/-- the items of a tuple, one behind another -/
inductive ShowsAll (X : Cx) (n : Nat) (t0 : Addr) (H : Hp) : List V → List Str → Prop
  | nil : ShowsAll X n t0 H [] []
  | cons {x : V} {xs : List V} {t : Str} {ts : List Str} : ShowsG X n t0 x t H → ShowsAll X n t0 H xs ts → ShowsAll X n t0 H (x :: xs) (t :: ts)
theorem ShowsAll.len {t0 : Addr} {H : Hp} : ∀ {xs : List V} {ts : List Str}, ShowsAll X n t0 H xs ts → ts.length = xs.length
  | _, _, .nil => rfl
  | _, _, .cons _ r => by rw [List.length_cons, List.length_cons, r.len]
theorem tup_foldI {A : Around} {g : List Code} {pins : List (Addr × Obj)} {σ : L2.St} {t0 : Addr} {H : Hp} (sb : Sub X n A) (gd : A.guards = some g) (hcl : ∀ c, c ≠ t0 → Clear g c) {xs : List V} {ts : List Str} (all : ShowsAll X n t0 H xs ts) : ∀ (us : List Value) (acc : Array Str) (k : Nat) (s : Shared) (H1 : Hp) (Q : (Array Str × Nat) → Shared → Prop),
    Vals xs us → k + piled ts ≤ sizeLine → (∀ c o, H c = some o → H1 c = some o) → L2.Inv X pins σ H1 s → (∀ s2 H2, L2.Inv X pins σ H2 s2 → (∀ c o, H1 c = some o → H2 c = some o) → Q ⟨acc ++ ts.toArray, k + piled ts⟩ s2) →
      wpAny (model X.prog X.w) A (forIn us (⟨acc, k⟩ : (Array Str × Nat)) tupBody) Q X.xe s := by
  induction all with
  | nil =>
    intro us acc k s H1 Q vl _ _ I fin
    cases vl
    simp only [List.forIn_nil]
    exact wpAny_pure (by simpa [piled] using fin s H1 I fun _ _ z => z)
  | @cons x xs t ts hx _ ih =>
    intro us acc k s H1 Q vl hk s01 I fin
    cases vl with
    | cons rx rr =>
      rename_i u us
      rw [piled_cons] at hk
      rw [List.forIn_cons]
      refine wpAny_bind (wpAny_bind (wpAny_mono (hx A g pins σ H1 s u (k + 1) (fun r s2 => r = t ∧ ∃ H2, L2.Inv X pins σ H2 s2 ∧ ∀ c o, H1 c = some o → H2 c = some o) sb gd hcl s01 I rx (by omega) fun s2 H2 I2 s12 => ⟨rfl, H2, I2, s12⟩) (fun r s2 k2 => ?_) fun _ _ z => z))
      obtain ⟨rfl, H2, I2, s12⟩ := k2
      refine wpAny_pure ?_
      refine ih us (acc.push r) (k + (r.length + 2)) s2 H2 Q rr (by omega) (fun c o z => s12 _ _ (s01 _ _ z)) I2 fun s3 H3 I3 s23 => ?_
      have h1 := fin s3 H3 I3 fun c o z => s23 _ _ (s12 _ _ z)
      rw [show k + piled (r :: ts) = k + (r.length + 2) + piled ts by rw [piled_cons]; omega] at h1
      simpa using h1
/-- tuple.__repr__, where nothing is being shown -/
theorem call_tupI {pins : List (Addr × Obj)} {σ : L2.St} {A : Around} {Q : Value → Shared → Prop} {s : Shared} {H : Hp} {a : Addr} {xs : List V} {ts : List Str} (sb : Sub X (n + 1) A) (gd : A.guards = some []) (I : L2.Inv X pins σ H s) (ha : H a = some (.tup xs)) (all : ShowsAll X n a H xs ts)
    (hsz : (tupleText ts).length ≤ sizeLine) (fin : ∀ s2 H2 u, L2.Inv X pins σ H2 s2 → (∀ c o, H c = some o → H2 c = some o) → Q (.str (tupleText ts) u) s2) : wpAny (model X.prog X.w) A (call (.builtin "tuple.__repr__") [.ref a]) Q X.xe s := by
  obtain ⟨z, its, r, o, e, cl, m, hd⟩ := I.hok a _ ha
  have ty : s.TypeIs (.ref a) "tuple" := ⟨o, e, cl⟩
  have hlen : ts.length = its.toArray.size := by rw [all.len, r.length]; simp
  have hp := piled_le_tupleText ts
  refine wpAny_call (codeAny_call_builtin_own (Code.quiet_builtin _ (by decide +kernel)) F.entry_tuple_repr (F.slot_tuple_repr.check _ _ _ _ _ _ _ _ ty (F.args_tuple_repr_1 _) ?_))
  show wpOwn _ _ _ (Builtin.tupleReprAt 0 ⟨[.ref a], []⟩) _ _ s
  rw [tuple_repr_tree, tupleReprUnderWay_eq]
  refine wpOwn_bind (wpOwn_stackTailAny gd (tupGuardF_off _) (tupGuardF_pos _) ?_)
  refine wpOwn_of_wpAny ?_
  show wpAny _ _ (tupleReprRest 0 (.ref a)) _ _ s
  unfold tupleReprRest Builtin.Tuple.tupleItemsOf
  refine wpAny_bind (wpAny_bind (wpAny_seqItems e hd (wpAny_pure ?_)))
  rw [← Array.forIn_toList]
  refine wpAny_bind (wpAny_mono (tup_foldI (pins := pins) (σ := σ) (sub_tup sb) (guards_under_guard (isGuard_tuple_repr _) gd) (fun b hb => (Clear.nil b).cons (a := a) (Ne.symm hb)) all its.toArray.toList _ _ s H (fun q s2 => q = ⟨ts.toArray, 0 + piled ts⟩ ∧ ∃ H2, L2.Inv X pins σ H2 s2 ∧ ∀ c o, H c = some o → H2 c = some o) (by simpa using r) (by omega) (fun _ _ z => z) I fun s2 H2 I2 s12 => ⟨by simp, H2, I2, s12⟩) (fun q s2 k2 => ?_) fun _ _ z => z)
  obtain ⟨rfl, H2, I2, s12⟩ := k2
  refine wpAny_bind (wpAny_mkStr (wpAny_pure ?_) (by simpa [tupleText, hlen] using hsz))
  have h1 := fin _ H2 s2.toks (I2.tok (s2.toks + 1)) s12
  simpa [tupleText, hlen] using h1
def rReprT (X : Cx) (n : Nat) : List V → Hp → VK → Prop := fun vs H Q => ∃ (a : Addr) (xs : List V) (ts : List Str), vs = [.ref a] ∧ H a = some (.tup xs) ∧ ShowsAll X n a H xs ts ∧ (tupleText ts).length ≤ sizeLine ∧ ∀ H2, (∀ c o, H c = some o → H2 c = some o) → Q (.str (tupleText ts)) H2
theorem call_reprT (gd : X.A.guards = some []) (hr : Room (n + 2) X.A) : CallR X (.builtin "repr") (rReprT X n) := by
  intro pins s σ H vs us Q I r h
  obtain ⟨a, xs, ts, rfl, ha, all, hsz, q⟩ := h
  obtain rfl := Vals.ref1 r
  refine Calls.call_function_entry F.kind_repr F.plain_repr F.entry_repr (F.args_repr1 _) ?_
  unfold Builtin.«repr»
  refine wpAny_bind (m := oneArg "repr" _) (wpAny_pure ?_)
  have sb : Sub X (n + 1) X.A.in1 := ⟨hr.in1, rfl⟩
  obtain ⟨z, its, rr, o, e, cl, m, hd⟩ := I.hok a _ ha
  have ty : s.TypeIs (.ref a) "tuple" := ⟨o, e, cl⟩
  refine wpAny_bind (wpAny_cRoomFor sb.room.units0 ?_)
  refine wpAny_bind (wpAny_specialOf (name := Str.ofString "__repr__") ty F.slot_tuple_repr.lookup ?_)
  refine wpAny_bind (m := callSpecialIfBound? (.ref a) (Str.ofString "__repr__")) (wpAny_callSpecialIfBound?_slotG (name := Str.ofString "__repr__") ty F.slot_tuple_repr (call_tupI sb gd I ha all hsz fun s2 H2 u I2 s12 => ?_))
  exact wpAny_bind (wpAny_isInstance (T := "str") (b := true) rfl isSubtype_str_str (wpAny_pure ⟨_, rfl, .str (tupleText ts), H2, I2, ⟨u, rfl⟩, q H2 s12⟩))
def rReprLst (X : Cx) (n : Nat) : List V → Hp → VK → Prop := fun vs H Q => ∃ (a : Addr) (xs : List V) (ts : List Str), vs = [.ref a] ∧ H a = some (.lst xs) ∧ ts.length = xs.length ∧ (∀ (i : Nat) x t, xs[i]? = some x → ts[i]? = some t → Shows X n x t H) ∧ (listText ts).length ≤ sizeLine ∧ ∀ H2, (∀ c o, H c = some o → H2 c = some o) → Q (.str (listText ts)) H2
theorem call_reprLst (gd : X.A.guards = some []) (hr : Room (n + 4) X.A) : CallR X (.builtin "repr") (rReprLst X n) := by
  intro pins s σ H vs us Q I r h
  obtain ⟨a, xs, ts, rfl, ha, hlen, hT, hsz, q⟩ := h
  obtain rfl := Vals.ref1 r
  refine Calls.call_function_entry F.kind_repr F.plain_repr F.entry_repr (F.args_repr1 _) ?_
  unfold Builtin.«repr»
  refine wpAny_bind (m := oneArg "repr" _) (wpAny_pure ?_)
  have sb : Sub X (n + 3) X.A.in1 := ⟨hr.in1, rfl⟩
  obtain ⟨its, m, rr, e, z⟩ := I.lst ha
  have ty : s.TypeIs (.ref a) "list" := ⟨_, e, rfl⟩
  refine wpAny_bind (wpAny_cRoomFor sb.room.units0 ?_)
  refine wpAny_bind (wpAny_specialOf (name := Str.ofString "__repr__") ty F.slot_list_repr.lookup ?_)
  refine wpAny_bind (m := callSpecialIfBound? (.ref a) (Str.ofString "__repr__")) (wpAny_callSpecialIfBound?_slot (name := Str.ofString "__repr__") ty F.slot_list_repr (call_listI sb gd I ha hlen hT hsz fun s2 H2 u I2 s12 => ?_))
  exact wpAny_bind (wpAny_isInstance (T := "str") (b := true) rfl isSubtype_str_str (wpAny_pure ⟨_, rfl, .str (listText ts), H2, I2, ⟨u, rfl⟩, q H2 s12⟩))
/-- {x!r}, x a list -/
def tFmtRL (X : Cx) (n : Nat) (te : TE) : TE := fun σ H Q => te σ H fun x H1 => rReprLst X n [x] H1 Q
theorem pe_fmtRL {e : Expr} {te : TE} {pos : Pos} (gd : X.A.guards = some []) (hr : Room (n + 3) X.A) (he : PE X e te) : PE X (.FormattedValue e 114 none pos) (tFmtRL X n te) := by
  refine ⟨fun pins s σ H Q I h => ?_⟩
  refine wpAny_FormattedValue_repr (thn (he.run pins s σ H _ I h) fun v s1 ⟨x, H1, I1, r1, k⟩ => ?_)
  obtain ⟨a, xs, ts, ex, ha, hlen, hT, hsz, q⟩ := k
  cases ex
  cases (show v = Value.ref a from r1)
  refine repr_listI ⟨hr, rfl⟩ gd I1 ha hlen hT hsz fun s2 H2 u I2 s12 => ?_
  exact wpAny_formatField_str ⟨.str (listText ts), H2, I2, ⟨_, rfl⟩, q H2 s12⟩ ⟨.str (listText ts), H2, I2.tok _, ⟨_, rfl⟩, q H2 s12⟩ hsz
/-- a dict whose keys are tuples of texts, its values ints -/
def keyText (ks : List Str) : Str := tupleText (ks.map reprText)
def entText (p : List Str × Int) : Str := keyText p.1 ++ ": " ++ Str.ofString (toString p.2)
def dictV (kvs : List (List Str × Int)) : List (List Key × V) := kvs.map fun p => (p.1.map Sum.inr, V.int p.2)
theorem reprAll_strs {as : List Addr} {h0 : Heap} {d : Nat} : ∀ {ks : List Str} {us : List Value}, Vals (ks.map V.str) us → (∀ k ∈ ks, (reprText k).length ≤ sizeLine) → ReprAllK X.prog X.w as h0 d us (ks.map reprText)
  | [], _, .nil, _ => .nil
  | k :: ks, _, .cons h r, hz => by
    obtain ⟨tk, rfl⟩ := (show ∃ t, _ = Value.str k t from h)
    exact .cons (.of_is (ReprIs.str k tk (hz k (List.mem_cons_self ..))) _ _ _) (reprAll_strs r fun y hy => hz y (List.mem_cons_of_mem _ hy))
theorem keys_strs (ks : List Str) : (ks.map (Sum.inr : Str → Key)).map kV = ks.map V.str := by
  rw [List.map_map]
  rfl
theorem entries_dT {pins : List (Addr × Obj)} {σ : L2.St} {H1 : Hp} {s : Shared} (I : L2.Inv X pins σ H1 s) (as : List Addr) {P : Program} {w : World} : ∀ {kvs : List (List Str × Int)} {xs : List (List Key × Addr × Value)}, (∀ q ∈ xs, q.2.1 ∈ as) → (∀ p ∈ kvs, (∀ k ∈ p.1, (reprText k).length ≤ sizeLine) ∧ p.2.natAbs.log2 < 1920) →
    Paired (fun (p : List Key × V) (q : List Key × Addr × Value) => p.1 = q.1 ∧ H1 q.2.1 = some (.tup (p.1.map kV)) ∧ RelV p.2 q.2.2) (dictV kvs) xs → ReprEntriesK X.prog X.w as s.heap 1 (xs.map (entryOfKey (tupleKind (mixKind P w)))) (kvs.map entText)
  | [], _, _, _, .nil => .nil
  | (ks, i) :: kvs, _, hin, hk, .cons h r => by
    rename_i q xs
    obtain ⟨h1, h2, h3⟩ := h
    have h2 : H1 q.2.1 = some (.tup (ks.map V.str)) := by
      rw [← keys_strs ks]
      exact h2
    obtain ⟨tk, h3⟩ := (show ∃ t, q.2.2 = Value.int i t from h3)
    obtain ⟨k1, k2⟩ := hk (ks, i) (List.mem_cons_self ..)
    obtain ⟨_, its, rv, ok, e, cl, m, hd⟩ := I.hok _ _ h2
    have key : ReprK X.prog X.w [q.2.1] s.heap 1 (.ref q.2.1) (keyText ks) := ReprK.tuple (as := []) e cl hd (by simp) (by simpa using reprAll_strs rv k1)
    refine .cons (key.more fun b hb => ?_) ?_ (entries_dT I as (fun q hq => hin q (List.mem_cons_of_mem _ hq)) (fun p hp => hk p (List.mem_cons_of_mem _ hp)) r)
    · rw [List.mem_singleton.mp hb]
      exact hin q (List.mem_cons_self ..)
    · show ReprK X.prog X.w as s.heap 1 q.2.2 _
      rw [h3]
      exact .of_is (ReprIs.int tk k2) _ _ _
theorem shows_dT {H : Hp} {a t0 : Addr} {xs0 : List V} {kvs : List (List Str × Int)} (ht0 : H t0 = some (.tup xs0)) (hx0 : ∀ ks : List Str, xs0 ≠ ks.map V.str) (ha : H a = some (.dT (dictV kvs))) (hk : ∀ p ∈ kvs, (∀ k ∈ p.1, (reprText k).length ≤ sizeLine) ∧ p.2.natAbs.log2 < 1920) :
    ShowsG X n t0 (.ref a) (dictText (kvs.map entText)) H := by
  intro A g pins σ H1 s u b Q sb gd hcl s01 I ru hz fin
  cases (show u = Value.ref a from ru)
  have ha1 := s01 _ _ ha
  obtain ⟨_, hsys, xs, pr, o, es, ep, e, ex, hd, hes, _⟩ := I.hok a _ ha1
  have tup : ∀ c ∈ xs.map (·.2.1), ∃ ks : List Str, H1 c = some (.tup (ks.map V.str)) := by
    intro c hc
    obtain ⟨q, hq, rfl⟩ := List.mem_map.mp hc
    have : ∀ {l : List (List Str × Int)} {ys : List (List Key × Addr × Value)}, Paired (fun (p : List Key × V) (q : List Key × Addr × Value) => p.1 = q.1 ∧ H1 q.2.1 = some (.tup (p.1.map kV)) ∧ RelV p.2 q.2.2) (dictV l) ys → ∀ q ∈ ys, ∃ ks : List Str, H1 q.2.1 = some (.tup (ks.map V.str)) := by
      intro l
      induction l with
      | nil =>
        intro ys h q hq
        cases h
        cases hq
      | cons p l ih =>
        intro ys h q hq
        cases h with
        | cons h r =>
          rcases List.mem_cons.mp hq with rfl | hq
          · exact ⟨p.1, by rw [← keys_strs]; exact h.2.1⟩
          · exact ih r q hq
    exact this pr q hq
  have ent := entries_dT (P := X.prog) (w := X.w) I (xs.map (·.2.1)) (fun q hq => List.mem_map.mpr ⟨q, hq, rfl⟩) hk pr
  rw [← hes] at ent
  have na : a ∉ xs.map (·.2.1) := fun z => by
    obtain ⟨ks, k⟩ := tup a z
    rw [ha1] at k
    cases k
  have all := ReprK.dict (prog := X.prog) (w := X.w) e ex.1 hd hsys na ent
  refine all b hz A g X.xe s Q gd (fun c hc => hcl c fun z => ?_) (by have := sb.room.un; omega) (fun _ _ z => z) fun h' tk kp => fin _ H1 (I.kept kp) fun _ _ z => z
  have t1 := s01 _ _ ht0
  rcases List.mem_cons.mp hc with hc | hc
  · rw [← z, hc, ha1] at t1
    cases t1
  · obtain ⟨ks, k⟩ := tup c hc
    rw [z, t1] at k
    cases k
    exact hx0 ks rfl
end
end KA
namespace KA
open PySem PySem.Spec PyProof.Rows L2
/-! defs that are called where nothing is being shown (no guard stands): within them lists and tuples are shown in full -/
structure FnG (P : Program) (w : World) (K : PySem.W.Frag) (mg : Str → Option Value) (base : Heap) (CX : CXT) (k : Nat) (f : Addr) (fd : FuncData) (ps : List Str) (sp : Sp) : Prop where
  ln : ∀ vs H Q E, sp vs H Q E → vs.length = ps.length
  go : ∀ (A : Around) (st : List Env) (s : Shared) (H : Hp) (gs : Args) (us : List Value) (vs : List V) (Q : VK) (E : XK), Room k A → A.guards = some [] → Env0 P w K mg base A st s H → BindsTo s fd gs (ps.zip us) → Vals vs us → sp vs H Q E →
    codeAny (model P w) A (.call (.ref f) gs) (CR CX st P w H s Q E) s
section
variable {P : Program} {w : World} {K : PySem.W.Frag} {mg : Str → Option Value} {base : Heap} {CX : CXT} {k : Nat} {f : Addr} {fd : FuncData} {ps : List Str} {sp : Sp}
theorem fng_any (F : FnOk P w K mg base CX k f fd ps sp) : FnG P w K mg base CX k f fd ps sp := ⟨F.len, fun A st s H gs us vs Q E rm _ en bd vl hs => F.run A st s H gs us vs Q E rm en bd vl hs⟩
theorem FnG.mono {j : Nat} (F : FnG P w K mg base CX j f fd ps sp) (h : j ≤ k) : FnG P w K mg base CX k f fd ps sp := ⟨F.ln, fun A st s H gs us vs Q E rm => F.go A st s H gs us vs Q E (rm.mono h)⟩
/-- a def by its body, where no guard stands -/
theorem fng_of {name qual : Str} {params : Arguments} {body : List Stmt} {scope : Scope} {dV kV doc pm cdv ct oc : Value} {an od : Option Addr} {osl : Array (Option Value)} {N : List Str}
    (at_ : K.lookup f = some ⟨oc, od, .func (PySem.W.fnOf name qual params body scope dV kV doc pm an cdv ct), osl⟩) (cd : PySem.W.codeIn K cdv qual = true) (sc : FnScope N ps scope) (ln : ∀ vs H Q E, sp vs H Q E → vs.length = ps.length)
    (bd : ∀ (A : Around) (st : List Env) (s : Shared) (H : Hp) (vs : List V) (Q : VK) (E : XK), Room k (A.deeper (envOfC qual scope s.heap.objs.size f cdv)) → (A.deeper (envOfC qual scope s.heap.objs.size f cdv)).guards = some [] → sp vs H Q E →
      ∃ t, PSs (cxOf CX P w K mg base N qual scope f cdv A st s H E) body t ∧ t { nx := fun _ G => Q .non G, rt := Q } (L2.start N vs) H) :
    FnG P w K mg base CX (k + 1) f (PySem.W.fnOf name qual params body scope dV kV doc pm an cdv ct) ps sp := by
  refine ⟨ln, fun A st s H gs us vs Q E rm gd en bi vl hs => ?_⟩
  have inK : K.In s.heap := en.mod.kin.keeps fun b o z => (en.bs b o z).1
  have noL : s.heap.NoLimit := en.mod.nolimit.keeps fun b o z => (en.bs b o z).1
  have kd : ∀ y ∈ ps.zip us, scope.names.lookup y.1 = some .local ∨ (scope.names.lookup y.1 = some .cell ∧ ((cellsFrom (s.heap.objs.size + 1) scope.names []).lookup y.1).isSome = true) := by
    rintro ⟨n, v⟩ hy
    exact (sc.par n (List.of_mem_zip hy).1).imp id fun z => ⟨z, PySem.W.cellsFrom_some _ _ _ (.inl z)⟩
  refine codeAny_call_function rm.depth (inK _ _ at_) rfl sc.co sc.gen rfl (PySem.W.codeRec_of inK cd) (bi _ _ _ _ (wpAny_newFunctionEnv_cells sc.kind kd ?_))
  rintro env rfl s1 x
  refine ⟨noL.keeps x.toInCall.keep, codeAny_func ?_⟩
  obtain ⟨t, pt, rd⟩ := bd A st s H vs Q E (rm.deeper _) gd hs
  refine wpAny_mono (pt.run [] s1 (L2.start N vs) H _ (inv_start sc rm.hd en (ln _ _ _ _ hs) vl x) rd) (fun fl s2 z => ?_) fun _ _ z => z
  cases fl with
  | ret u =>
    obtain ⟨v, σ2, G, J, rv, q⟩ := z
    exact ⟨v, G, J.os, J.bare, J.base, J.hok, rv, q⟩
  | next =>
    obtain ⟨σ2, G, J, q⟩ := z
    exact ⟨.non, G, J.os, J.bare, J.base, J.hok, rfl, q⟩
  | brk =>
    obtain ⟨_, _, _, q⟩ := z
    exact q.elim
  | cont =>
    obtain ⟨_, _, _, q⟩ := z
    exact q.elim
end
theorem fun_okG {P : Program} {w : World} {K : PySem.W.Frag} {mg : Str → Option Value} {base : Heap} {x qual : Str} {st : Stmt} {f : Addr} {fd : FuncData} {N ps : List Str} {k : Nat} {sp : Sp} (F : Fun K x qual st f fd) (sc : FnScope N ps (defScope st)) (ln : ∀ vs H Q E, sp vs H Q E → vs.length = ps.length)
    (bd : ∀ (cdv : Value) (A : Around) (outer : List Env) (s : Shared) (H : Hp) (vs : List V) (Q : VK) (E : XK), Room k (A.deeper (envOfC qual (defScope st) s.heap.objs.size f cdv)) → (A.deeper (envOfC qual (defScope st) s.heap.objs.size f cdv)).guards = some [] → sp vs H Q E →
      ∃ t, PSs (cxOf CX0 P w K mg base N qual (defScope st) f cdv A outer s H E).nox (defBody st) t ∧ t { nx := fun _ G => Q .non G, rt := Q } (L2.start N vs) H) : FnG P w K mg base CX0 (k + 1) f fd ps sp := by
  obtain ⟨oc, od, kV, doc, pm, an, cdv, ct, osl, rfl, lk, hcd⟩ := F.ex
  refine fng_of lk hcd sc ln fun A outer s H vs Q E rm gd hs => ?_
  obtain ⟨t, h, q⟩ := bd cdv A outer s H vs Q E rm gd hs
  exact ⟨t, h.nox, q⟩
section
variable {X : Cx} {CX : CXT} {k : Nat} {f C : Addr} {fd : FuncData} {ps : List Str} {ds : List Value} {dvs : List V} {sp : Sp} {E : XK} {x m : Str} {p pos apos : Pos} {e o : Expr} {es : List Expr} {t : TA} {ta : TE}
theorem run_G {pins : List (Addr × Obj)} {σ : L2.St} {H : Hp} {s : Shared} {Q : VK} {us : List Value} {vs : List V} (F : FnG X.prog X.w X.K X.mg X.base CX k f fd ps sp) (rm : Room k X.A) (gd : X.A.guards = some []) (hb : Binds X.K fd ps ds) (hd : Vals dvs ds) (hx : Passes CX X E)
    (I : Inv X pins σ H s) (r : Vals vs us) (h : sp (vs ++ dvs) H Q E) : wpAny (model X.prog X.w) X.A (call (.ref f) us) (EP X pins σ Q) X.xe s := by
  have all := r.append hd
  refine wpAny_call (codeAny_mono (F.go X.A X.stack s H ⟨us, []⟩ (us ++ ds) (vs ++ dvs) Q E rm gd I.env0 (hb s us I.kIn (all.length.symm.trans (F.ln _ _ _ _ h))) all h) fun r s2 z => ?_)
  match r, z with
  | .error er, z => exact hx pins σ H s er s2 I z
  | .ok (.ret u), z => exact I.after z
  | .ok .next, z => exact z.elim
  | .ok .brk, z => exact z.elim
  | .ok .cont, z => exact z.elim
theorem pe_callG (F : FnG X.prog X.w X.K X.mg X.base CX k f fd ps sp) (rm : Room k X.A) (gd : X.A.guards = some []) (hg : Gl X x) (hm : X.mg x = some (.ref f)) (hk : PySem.W.keepIn X.K (.ref f) = true) (hb : Binds X.K fd ps ds) (hd : Vals dvs ds) (hx : Passes CX X E)
    (ha : PA X (e :: es) t) (db : (x == ("__debug__" : Str)) = false := by decide) (he : starEach (e :: es) X.env = (false, eval e X.env) :: starEach es X.env := by rfl) (hpl : (backTo pos (starEach es X.env)).any (·.1) = false := by rfl) :
    PE X (.Call (.Name x p) (e :: es) [] pos) (tCall sp dvs E t) :=
  ⟨fun pins s σ H Q I h => wpAny_Call_Name_kw (ld_glob I hg hm (PySem.W.callWith_K (h₀ := X.base) I.ok.mod.kin hk (thn (ha.run pos pins s σ H _ I h) fun _ _ ⟨_, _, I1, r, q⟩ => ⟨I1.kIn, run_G F rm gd hb hd hx I1 r q⟩) he hpl) db)⟩
theorem pe_meth0G {pl : Sem Bool} (he : PE X o ta) (c : Cls X.K C) (hm : Meth X.K C m f) (F : FnG X.prog X.w X.K X.mg X.base CX k f fd ps sp) (rm : Room k X.A) (gd : X.A.guards = some []) (hb : Binds X.K fd ps ds) (hd : Vals dvs ds) (hx : Passes CX X E)
    (ht : eval (.Call (.Attribute o m apos) [] [] pos) X.env = (do
      let w ← eval o X.env
      standAt apos.atName
      let (g, fst) ← holding [w] (getMethod w m pl)
      callWith pos g fst (backTo pos (starEach [] X.env)) (backToKw pos (keywordEach [] X.env))) := by rfl) :
    PE X (.Call (.Attribute o m apos) [] [] pos) (tMeth C m sp dvs E ta tNil) := by
  constructor
  intro pins s σ H Q I h
  refine PySem.W.methodCall_KW (pl := pl) (thn (he.run pins s σ H _ I h) fun u s1 ⟨x, H1, I1, rx, a, dx, fs, ex, ea, lk, q⟩ => ?_) ht
  subst ex
  cases rx
  exact getmeth_ok I1 ea c hm lk (PySem.W.callWith_K0 (first := [.ref a]) I1.kIn hm.kp (run_G (us := [.ref a]) (vs := [.ref a]) F rm gd hb hd hx I1 (.cons rfl .nil) q))
end
/-! repr of data -/
section
variable {X : Cx}
def rReprD (K : PySem.W.Frag) : List V → Hp → VK → Prop := fun xs H Q => ∃ (a : Addr) (d : PyData), xs = [.ref a] ∧ Dp K H (.ref a) d ∧ PyData.showable d = true ∧ d.hasDict = false ∧ d.depth ≤ 32 ∧ d.shown.length ≤ sizeLine ∧ Q (.str d.shown) H
theorem call_reprD (gd : X.A.guards = some []) (hu : X.A.units + 64 < cLine) : CallR X (.builtin "repr") (rReprD X.K) := by
  intro pins s σ H xs us Q I r h
  obtain ⟨a, d, ex, hd, hs, hn, hde, hz, q⟩ := h
  subst ex
  cases r with
  | cons r1 r2 =>
    cases r2
    cases r1
    obtain ⟨as, rd⟩ := Dp.reads I d _ _ hd rfl
    exact repr_of_reads' rd hs (fun z => by rw [hn] at z; cases z) gd (by omega) (fun _ _ z => z) (fun g u tk kp => ⟨.str d.shown, H, I.kept (t' := tk) kp, ⟨u, rfl⟩, q⟩) hz
end
/-! the law itself: it is called where no guard stands -/
section
variable {P : Program} {w : World} {K : PySem.W.Frag} {mg mb : Str → Option Value} {CX : CXT} {k : Nat} {fa a : Addr} {fd : FuncData} {x : Str} {sp : Sp} {s1 : Shared} {vs : List Value} {ns : List Int}
/-- .. from a heap of which the script alone may be told -/
theorem law_from {H : Hp} (inK : K.In s1.heap) (gl : s1.heap.Ns mainGlobals mg) (bl : s1.heap.Ns builtinsNs mb) (bb : ∀ y : Str, y ≠ "__name__" → mb y = bootBuiltins y) (nolim : s1.heap.NoLimit) (nog : s1.gens = #[])
    (isl : ∀ b u, H b = some u → (∃ vs' n, ∀ o, s1.heap.get? b = some o → o.data = .seq vs' n) ∧ K.lookup b = none) (frz : ∀ b u, H b = some u → ∃ o ys, u = .frz o (.lst ys)) (rm : Room k callerA)
    (F : ∀ base : Heap, K.In base → base.Ns mainGlobals mg → FnG P w K mg base CX k fa fd [x] sp) (bi : ∀ (s : Shared) (u : Value), BindsTo s fd ⟨[u], []⟩ [(x, u)]) (ok : HOk P w H s1.heap)
    (pr : sp [.ref a] H (fun v _ => v = .bl true) fun _ _ _ => False) (nox : ∀ e s2, CX [] H s1 (fun _ _ _ => False) e s2 → False) :
    codeAny (model P w) callerA (.call (.ref fa) ⟨[.ref a], []⟩) (fun r s2 => r = .ok (.ret (.bool true)) ∧ OldK s1.heap s2.heap ∧ s2.os = s1.os ∧ AllBare s2.gens) s1 := by
  have sees : ∀ {b : Addr} {o : Obj}, s1.heap.get? b = some o → H b = none → (hidT s1.heap H).get? b = some o := fun z n => hidT_get z n
  have dicts : ∀ {b : Addr} {mm : Str → Option Value}, s1.heap.Ns b mm → (hidT s1.heap H).Ns b mm := by
    rintro b mm ⟨o, es, ep, z, dt, rest⟩
    refine ⟨o, es, ep, sees z ?_, dt, rest⟩
    cases hb : H b with
    | none => rfl
    | some u =>
      obtain ⟨⟨vs', n, is⟩, _⟩ := isl b u hb
      have := (is o z).symm.trans dt
      cases this
  have inB : K.In (hidT s1.heap H) := fun b o z => sees (inK b o z) (by
    cases hb : H b with
    | none => rfl
    | some u =>
      rw [(isl b u hb).2] at z
      cases z)
  have md : Mod K mg (hidT s1.heap H) := by
    obtain ⟨mc, n1, n2⟩ := nolim
    exact ⟨inB, dicts gl, ⟨mb, dicts bl, bb⟩, mc, dicts n1, n2⟩
  have en : Env0 P w K mg (hidT s1.heap H) callerA [] s1 H := ⟨rfl, md, fun b o z => of_hidT z, Nat.le_of_eq (hidT_size _ _), trivial, fun b z => (nomatch (show b ∈ ([] : List Addr) from z)), ok, .of_eq nog⟩
  refine codeAny_mono ((F _ inB (dicts gl)).go callerA [] s1 H ⟨[.ref a], []⟩ [.ref a] [.ref a] _ _ rm rfl en (bi s1 (.ref a)) (.cons rfl .nil) pr) fun r s2 z => ?_
  match r, z with
  | .error er, z => exact (nox er s2 z).elim
  | .ok .next, z => exact z.elim
  | .ok .brk, z => exact z.elim
  | .ok .cont, z => exact z.elim
  | .ok (.ret u), z =>
    obtain ⟨v, G, eos, bare, un, ok2, rel, ev⟩ := z
    have ev : v = .bl true := ev
    subst ev
    obtain rfl : u = Value.bool true := rel
    refine ⟨rfl, OldK.of_keep fun b o hb => ?_, eos, bare⟩
    cases hH : H b with
    | none => exact un.keep b o hb hH (fun z => (nomatch (show b ∈ ([] : List Addr) from z))) (by simp)
    | some u =>
      obtain ⟨ob, ys, rfl⟩ := frz b u hH
      have now := (ok2 b _ (un.frzs b ob _ hH)).1
      have was := (ok b _ hH).1
      exact (Option.some.inj (hb.symm.trans was)) ▸ now
theorem law_callG (inK : K.In s1.heap) (gl : s1.heap.Ns mainGlobals mg) (bl : s1.heap.Ns builtinsNs mb) (bb : ∀ y : Str, y ≠ "__name__" → mb y = bootBuiltins y) (nolim : s1.heap.NoLimit) (nog : s1.gens = #[])
    (ha : s1.heap.get? a = some { cls := .type "list", data := .seq vs.toArray }) (hi : IntsAre vs ns) (hl : ns.length ≤ sizeLine) (rm : Room k callerA)
    (F : ∀ base : Heap, K.In base → base.Ns mainGlobals mg → FnG P w K mg base CX k fa fd [x] sp) (bi : ∀ (s : Shared) (u : Value), BindsTo s fd ⟨[u], []⟩ [(x, u)])
    (pr : ∀ H : Hp, Only H → SqL K H a (ns.map V.int) → sp [.ref a] H (fun v _ => v = .bl true) fun _ _ _ => False) (nox : ∀ H e s2, CX [] H s1 (fun _ _ _ => False) e s2 → False) :
    codeAny (model P w) callerA (.call (.ref fa) ⟨[.ref a], []⟩) (fun r s2 => r = .ok (.ret (.bool true)) ∧ OldK s1.heap s2.heap ∧ s2.os = s1.os ∧ AllBare s2.gens) s1 := by
  have rel := vals_ints hi
  cases own : K.lookup a with
  | some o =>
    obtain rfl := Option.some.inj (ha.symm.trans (inK a o own))
    have no : ∀ {p : Prop} {u : HO}, (none : Option HO) = some u → p := fun z => nomatch z
    exact law_from (H := fun _ => none) inK gl bl bb nolim nog (fun b u z => no z) (fun b u z => no z) rm F bi (fun b u z => no z) (pr _ (fun _ => .inl rfl) (.inr ⟨_, vs.toArray, _, own, rfl, rfl, rfl, by rw [List.size_toArray, hi.length]; exact hl, by simpa using rel⟩)) (nox _)
  | none =>
    have one : ∀ {b : Addr} {u : HO}, (fun b => if b = a then some (.frz { cls := .type "list", data := .seq vs.toArray } (.lst (ns.map V.int))) else none : Hp) b = some u → b = a ∧ u = .frz { cls := .type "list", data := .seq vs.toArray } (.lst (ns.map V.int)) := fun {b u} z => by
      by_cases hb : b = a
      · exact ⟨hb, (Option.some.inj ((if_pos hb).symm.trans z)).symm⟩
      · exact nomatch (if_neg hb).symm.trans z
    refine law_from (H := fun b => if b = a then some (.frz { cls := .type "list", data := .seq vs.toArray } (.lst (ns.map V.int))) else none) inK gl bl bb nolim nog (fun b u z => ?_) (fun b u z => ⟨_, _, (one z).2⟩) rm F bi (fun b u z => ?_) (pr _ (fun b => ?_) (.inl (.inr ⟨_, if_pos rfl⟩))) (nox _)
    · obtain ⟨rfl, _⟩ := one z
      exact ⟨⟨_, _, fun o ho => by rw [← Option.some.inj (ha.symm.trans ho)]⟩, own⟩
    · obtain ⟨rfl, rfl⟩ := one z
      exact ⟨ha, by rw [List.length_map]; exact hl, vs, _, rel, ha⟩
    · by_cases hb : b = a
      · exact .inr ⟨_, _, if_pos hb⟩
      · exact .inl (if_neg hb)
end
theorem walk_G {l : PySem.W.OpenLaw} {n k : Nat} {q : Program} {loose : List Str} {XP : (Str → Option Value) → Heap → Prop} {YP : World → Heap → Prop} {d : DefRec} {K : Params → PySem.W.Frag} {CX : World → CXT} {sp : World → Sp} {x : Str}
    (hn : l.most = some n) (hn2 : n ≤ sizeLine) (hdf : d.params.defaults = []) (rm : Room k callerA) (hY : ∀ (w : World) (h : Heap), YP w h → (K w.params).In h)
    (F : ∀ (w : World) (mg : Str → Option Value) (fa : Addr) (h : Heap), (K w.params).In h → h.Ns mainGlobals mg → mg d.name = some (.ref fa) → ∃ fd : FuncData, (∀ (s : Shared) (u : Value), BindsTo s fd ⟨[u], []⟩ [(x, u)]) ∧ ∀ base : Heap, (K w.params).In base → base.Ns mainGlobals mg → FnG l.prog w (K w.params) mg base (CX w) k fa fd [x] (sp w))
    (pr : ∀ (w : World) (H : Hp) (a : Addr) (ns : List Int), ns.length ≤ n → Only H → SqL (K w.params) H a (ns.map V.int) → sp w [.ref a] H (fun v _ => v = .bl true) fun _ _ _ => False)
    (nox : ∀ (w : World) (H : Hp) (s : Shared) (e : Value) (s2 : Shared), CX w [] H s (fun _ _ _ => False) e s2 → False) : PySem.W.WalkO q loose XP YP l.row.toRowW d [] (fun f vs => PySem.call f vs) :=
  Att.attach_call hn hdf fun w _ s1 mg _ fa _ _ _ _ a _ ns G Y _ _ _ hmg hobj hints hlen hg => by
    obtain ⟨fd, hb, hF⟩ := F w mg fa _ (hY w _ Y) G.T.g hmg
    exact law_callG (hY w _ Y) G.T.g G.T.b G.T.builtins G.T.nolimit hg hobj hints (Nat.le_trans hlen hn2) rm hF hb (fun H hO hS => pr w H a ns hlen hO hS) fun H e s2 => nox w H s1 e s2
end KA
namespace KA
open PySem PySem.Spec PyProof.Rows L2
/-- list + list, whoever made them -/
def rCatQ (K : PySem.W.Frag) : R2 := fun x y H Q => ∃ l b xs zs, x = .ref l ∧ y = .ref b ∧ SqL K H l xs ∧ SqL K H b zs ∧ xs.length + zs.length ≤ sizeLine ∧ ∀ p, H p = none → Q (.ref p) (upd H p (.lst (xs ++ zs)))
theorem op_catQ {X : Cx} : OpR X (binaryOp .Add) (rCatQ X.K) := by
  intro pins s σ H x y v u Q I rx ry h
  obtain ⟨l, b, xs, zs, rfl, rfl, hH, hB, hz, q⟩ := h
  cases rx
  cases ry
  obtain ⟨its, r, p, _⟩ := I.list hH
  obtain ⟨its2, r2, p2, _⟩ := I.list hB
  have e1 := r.length
  have e2 := r2.length
  obtain ⟨⟨cls, dd, data, sl⟩, ho, hc, n, hd⟩ := id p.isList
  obtain ⟨⟨cls2, dd2, data2, sl2⟩, ho2, hc2, n2, hd2⟩ := id p2.isList
  simp only at hc hd hc2 hd2
  subst hc hd hc2 hd2
  have e : its.toArray ++ its2.toArray = (its ++ its2).toArray := by simp
  refine concat_meets ⟨_, ho, rfl⟩ ⟨_, ho2, rfl⟩ noFill_list_add seq_list_add PySem.F.slot_list_add PySem.F.entry_list_add (PySem.F.args_list_add_2 _ _) (list_addW l b its.toArray its2.toArray n n2 dd dd2 sl sl2 (by rw [List.size_toArray, List.size_toArray]; omega)) ⟨ho, ho2, ?_⟩
  rw [e]
  exact ⟨.ref _, _, I.lnew (t' := s.toks) (r.append r2) (by rw [List.length_append]; omega), rfl, q _ I.fresh⟩
end KA
namespace KB
open PySem PySem.Spec PyProof.Rows L2 KA
def topS (i : Nat) : Stmt := PySem.Challenge.pw_pearlrise_k11_worths_reckoned.main.body.getD i (.Pass ⟨0, 0, 0, 0⟩)
abbrev s__wall : Stmt := topS 0
theorem sc__wall : FnScope ["k"] ["k"] (defScope s__wall) := ⟨rfl, rfl, rfl, by decide +kernel, rfl, by decide +kernel, by decide +kernel⟩
abbrev s_PearlError_init : Stmt := inClass (topS 2) 0
theorem sc_PearlError_init : FnScope ["self", "why"] ["self", "why"] (defScope s_PearlError_init) := ⟨rfl, rfl, rfl, by decide +kernel, rfl, by decide +kernel, by decide +kernel⟩
abbrev s_NoSuch_init : Stmt := inClass (topS 4) 0
theorem sc_NoSuch_init : FnScope ["self", "kind", "name"] ["self", "kind", "name"] (defScope s_NoSuch_init) := ⟨rfl, rfl, rfl, by decide +kernel, rfl, by decide +kernel, by decide +kernel⟩
abbrev s_NoShare_init : Stmt := inClass (topS 5) 0
theorem sc_NoShare_init : FnScope ["self", "num"] ["self", "num"] (defScope s_NoShare_init) := ⟨rfl, rfl, rfl, by decide +kernel, rfl, by decide +kernel, by decide +kernel⟩
abbrev s_is_int : Stmt := topS 11
theorem sc_is_int : FnScope ["thing"] ["thing"] (defScope s_is_int) := ⟨rfl, rfl, rfl, by decide +kernel, rfl, by decide +kernel, by decide +kernel⟩
abbrev s_is_whole : Stmt := topS 12
theorem sc_is_whole : FnScope ["thing", "least", "most"] ["thing", "least", "most"] (defScope s_is_whole) := ⟨rfl, rfl, rfl, by decide +kernel, rfl, by decide +kernel, by decide +kernel⟩
abbrev s_is_name : Stmt := topS 13
theorem sc_is_name : FnScope ["thing", "sign"] ["thing"] (defScope s_is_name) := ⟨rfl, rfl, rfl, by decide +kernel, rfl, by decide +kernel, by decide +kernel⟩
abbrev s_is_number : Stmt := topS 14
theorem sc_is_number : FnScope ["thing"] ["thing"] (defScope s_is_number) := ⟨rfl, rfl, rfl, by decide +kernel, rfl, by decide +kernel, by decide +kernel⟩
abbrev s_figures : Stmt := topS 15
theorem sc_figures : FnScope ["number", "groups", "rest", "group"] ["number"] (defScope s_figures) := ⟨rfl, rfl, rfl, by decide +kernel, rfl, by decide +kernel, by decide +kernel⟩
abbrev s_common_part : Stmt := topS 17
theorem sc_common_part : FnScope ["one", "other"] ["one", "other"] (defScope s_common_part) := ⟨rfl, rfl, rfl, by decide +kernel, rfl, by decide +kernel, by decide +kernel⟩
abbrev s_Share_init : Stmt := inClass (topS 18) 0
theorem sc_Share_init : FnScope ["self", "num", "over", "part"] ["self", "num", "over"] (defScope s_Share_init) := ⟨rfl, rfl, rfl, by decide +kernel, rfl, by decide +kernel, by decide +kernel⟩
abbrev s_Share_plus : Stmt := inClass (topS 18) 1
theorem sc_Share_plus : FnScope ["self", "other"] ["self", "other"] (defScope s_Share_plus) := ⟨rfl, rfl, rfl, by decide +kernel, rfl, by decide +kernel, by decide +kernel⟩
abbrev s_Share_minus : Stmt := inClass (topS 18) 2
theorem sc_Share_minus : FnScope ["self", "other"] ["self", "other"] (defScope s_Share_minus) := ⟨rfl, rfl, rfl, by decide +kernel, rfl, by decide +kernel, by decide +kernel⟩
abbrev s_Share_times : Stmt := inClass (topS 18) 3
theorem sc_Share_times : FnScope ["self", "other"] ["self", "other"] (defScope s_Share_times) := ⟨rfl, rfl, rfl, by decide +kernel, rfl, by decide +kernel, by decide +kernel⟩
abbrev s_Share_is_below : Stmt := inClass (topS 18) 4
theorem sc_Share_is_below : FnScope ["self", "other"] ["self", "other"] (defScope s_Share_is_below) := ⟨rfl, rfl, rfl, by decide +kernel, rfl, by decide +kernel, by decide +kernel⟩
abbrev s_Share_eq : Stmt := inClass (topS 18) 5
theorem sc_Share_eq : FnScope ["self", "other"] ["self", "other"] (defScope s_Share_eq) := ⟨rfl, rfl, rfl, by decide +kernel, rfl, by decide +kernel, by decide +kernel⟩
abbrev s_Share_repr : Stmt := inClass (topS 18) 6
theorem sc_Share_repr : FnScope ["self"] ["self"] (defScope s_Share_repr) := ⟨rfl, rfl, rfl, by decide +kernel, rfl, by decide +kernel, by decide +kernel⟩
abbrev s_Share_str : Stmt := inClass (topS 18) 7
theorem sc_Share_str : FnScope ["self"] ["self"] (defScope s_Share_str) := ⟨rfl, rfl, rfl, by decide +kernel, rfl, by decide +kernel, by decide +kernel⟩
abbrev s_shares_sum : Stmt := topS 19
theorem sc_shares_sum : FnScope ["shares", "total", "share"] ["shares"] (defScope s_shares_sum) := ⟨rfl, rfl, rfl, by decide +kernel, rfl, by decide +kernel, by decide +kernel⟩
abbrev s_worth : Stmt := topS 21
theorem sc_worth : FnScope ["bead", "rates", "base", "drilled", "pair", "num"] ["bead", "rates", "base", "drilled"] (defScope s_worth) := ⟨rfl, rfl, rfl, by decide +kernel, rfl, by decide +kernel, by decide +kernel⟩
abbrev s_worth_of : Stmt := topS 22
theorem sc_worth_of : FnScope ["beads", "rates", "base", "drilled", "bead"] ["beads", "rates", "base", "drilled"] (defScope s_worth_of) := ⟨rfl, rfl, rfl, by decide +kernel, rfl, by decide +kernel, by decide +kernel⟩
abbrev s_is_measure : Stmt := topS 26
theorem sc_is_measure : FnScope ["thing"] ["thing"] (defScope s_is_measure) := ⟨rfl, rfl, rfl, by decide +kernel, rfl, by decide +kernel, by decide +kernel⟩
abbrev s_Bead_init : Stmt := inClass (topS 27) 0
theorem sc_Bead_init : FnScope ["self", "number", "across", "weight", "shade", "form", "drilled"] ["self", "number", "across", "weight", "shade", "form", "drilled"] (defScope s_Bead_init) := ⟨rfl, rfl, rfl, by decide +kernel, rfl, by decide +kernel, by decide +kernel⟩
abbrev s_Bead_row : Stmt := inClass (topS 27) 1
theorem sc_Bead_row : FnScope ["self"] ["self"] (defScope s_Bead_row) := ⟨rfl, rfl, rfl, by decide +kernel, rfl, by decide +kernel, by decide +kernel⟩
abbrev s_Bead_key : Stmt := inClass (topS 27) 2
theorem sc_Bead_key : FnScope ["self"] ["self"] (defScope s_Bead_key) := ⟨rfl, rfl, rfl, by decide +kernel, rfl, by decide +kernel, by decide +kernel⟩
abbrev s_Bead_eq : Stmt := inClass (topS 27) 3
theorem sc_Bead_eq : FnScope ["self", "other"] ["self", "other"] (defScope s_Bead_eq) := ⟨rfl, rfl, rfl, by decide +kernel, rfl, by decide +kernel, by decide +kernel⟩
abbrev s_Bead_repr : Stmt := inClass (topS 27) 4
theorem sc_Bead_repr : FnScope ["self", "parts"] ["self"] (defScope s_Bead_repr) := ⟨rfl, rfl, rfl, by decide +kernel, rfl, by decide +kernel, by decide +kernel⟩
abbrev s_Bead_str : Stmt := inClass (topS 27) 5
theorem sc_Bead_str : FnScope ["self"] ["self"] (defScope s_Bead_str) := ⟨rfl, rfl, rfl, by decide +kernel, rfl, by decide +kernel, by decide +kernel⟩
abbrev s_bead_of : Stmt := topS 28
theorem sc_bead_of : FnScope ["row", "number", "across", "weight", "shade", "form", "drilled"] ["row"] (defScope s_bead_of) := ⟨rfl, rfl, rfl, by decide +kernel, rfl, by decide +kernel, by decide +kernel⟩
abbrev s_draws : Stmt := topS 30
theorem sc_draws : FnScope ["_law_cell"] ["_law_cell"] (defScope s_draws) := ⟨rfl, rfl, rfl, by decide +kernel, rfl, by decide +kernel, by decide +kernel⟩
abbrev s_next : Stmt := topS 31
theorem sc_next : FnScope ["_law_draws_here", "_law_size", "_law_found", "_law_mix"] ["_law_draws_here", "_law_size"] (defScope s_next) := ⟨rfl, rfl, rfl, by decide +kernel, rfl, by decide +kernel, by decide +kernel⟩
abbrev s_words : Stmt := topS 32
theorem sc_words : FnScope ["_law_draws_here", "_law_many", "_law_words_here", "_law_first", "_law_k", "_law_stem", "_law_j"] ["_law_draws_here", "_law_many"] (defScope s_words) := ⟨rfl, rfl, rfl, by decide +kernel, rfl, by decide +kernel, by decide +kernel⟩
abbrev s_row : Stmt := topS 33
theorem sc_row : FnScope ["_law_draws_here", "_law_number_here", "_law_words_here", "_law_across", "_law_weight", "_law_form"] ["_law_draws_here", "_law_number_here", "_law_words_here", "_law_across"] (defScope s_row) := ⟨rfl, rfl, rfl, by decide +kernel, rfl, by decide +kernel, by decide +kernel⟩
abbrev s_lowest : Stmt := topS 34
theorem sc_lowest : FnScope ["_law_num", "_law_over", "_law_one_here", "_law_other"] ["_law_num", "_law_over"] (defScope s_lowest) := ⟨rfl, rfl, rfl, by decide +kernel, rfl, by decide +kernel, by decide +kernel⟩
abbrev s_due : Stmt := topS 35
theorem sc_due : FnScope ["_law_row_here", "_law_tariff", "_law_ground", "_law_bored", "_law_num", "_law_over"] ["_law_row_here", "_law_tariff", "_law_ground", "_law_bored"] (defScope s_due) := ⟨rfl, rfl, rfl, by decide +kernel, rfl, by decide +kernel, by decide +kernel⟩
abbrev s_due_of : Stmt := topS 36
theorem sc_due_of : FnScope ["_law_rows", "_law_tariff", "_law_ground", "_law_bored", "_law_total", "_law_row_here", "_law_found"] ["_law_rows", "_law_tariff", "_law_ground", "_law_bored"] (defScope s_due_of) := ⟨rfl, rfl, rfl, by decide +kernel, rfl, by decide +kernel, by decide +kernel⟩
abbrev s_called : Stmt := topS 37
theorem sc_called : FnScope ["_law_way", "_law_some", "_law_tariff", "_law_ground", "_law_bored"] ["_law_way", "_law_some", "_law_tariff", "_law_ground", "_law_bored"] (defScope s_called) := ⟨rfl, rfl, rfl, by decide +kernel, rfl, by decide +kernel, by decide +kernel⟩
abbrev s_one : Stmt := topS 38
theorem sc_one : FnScope ["_law_way", "_law_bead", "_law_tariff", "_law_ground", "_law_bored"] ["_law_way", "_law_bead", "_law_tariff", "_law_ground", "_law_bored"] (defScope s_one) := ⟨rfl, rfl, rfl, by decide +kernel, rfl, by decide +kernel, by decide +kernel⟩
abbrev s_told : Stmt := topS 39
theorem sc_told : FnScope ["_law_way", "_law_thing", "_law_tariff", "_law_ground", "_law_bored", "_law_found", "error"] ["_law_way", "_law_thing", "_law_tariff", "_law_ground", "_law_bored"] (defScope s_told) := ⟨rfl, rfl, rfl, by decide +kernel, rfl, by decide +kernel, by decide +kernel⟩
abbrev s_number : Stmt := topS 40
theorem sc_number : FnScope ["_law_draws_here"] ["_law_draws_here"] (defScope s_number) := ⟨rfl, rfl, rfl, by decide +kernel, rfl, by decide +kernel, by decide +kernel⟩
abbrev s_law : Stmt := topS 41
theorem sc_law : FnScope ["_law_script", "_law_cell", "_law_draws_here", "_law_words_here", "_law_rows", "_law_some", "_law_tariff", "_law_shade", "_law_form", "_law_ground", "_law_bored", "_law_way", "_law_plain", "_law_other", "_law_shown", "_law_turn", "_law_row_here", "_law_bead", "_law_k"] ["_law_script"] (defScope s_law) := ⟨rfl, rfl, rfl, by decide +kernel, rfl, by decide +kernel, by decide +kernel⟩
structure Tx (K : PySem.W.Frag) (mg : Str → Option Value) : Type where
  C_Share : Addr
  cl_Share : Cls K C_Share
  g_Share : mg "Share" = some (.ref C_Share)
  n_Share_num : NoAttr K C_Share "num"
  n_Share_over : NoAttr K C_Share "over"
  C_Bead : Addr
  cl_Bead : Cls K C_Bead
  g_Bead : mg "Bead" = some (.ref C_Bead)
  n_Bead_number : NoAttr K C_Bead "number"
  n_Bead_across : NoAttr K C_Bead "across"
  n_Bead_weight : NoAttr K C_Bead "weight"
  n_Bead_shade : NoAttr K C_Bead "shade"
  n_Bead_form : NoAttr K C_Bead "form"
  n_Bead_drilled : NoAttr K C_Bead "drilled"
  A_NoSuch_init : Addr
  fd_NoSuch_init : FuncData
  F_NoSuch_init : Fun K "__init__" "NoSuch.__init__" s_NoSuch_init A_NoSuch_init fd_NoSuch_init
  b_NoSuch_init : Binds K fd_NoSuch_init ["self", "kind", "name"] []
  A_NoShare_init : Addr
  fd_NoShare_init : FuncData
  F_NoShare_init : Fun K "__init__" "NoShare.__init__" s_NoShare_init A_NoShare_init fd_NoShare_init
  b_NoShare_init : Binds K fd_NoShare_init ["self", "num"] []
  A_is_int : Addr
  fd_is_int : FuncData
  F_is_int : Fun K "is_int" "is_int" s_is_int A_is_int fd_is_int
  g_is_int : mg "is_int" = some (.ref A_is_int)
  b_is_int : Binds K fd_is_int ["thing"] []
  A_is_whole : Addr
  fd_is_whole : FuncData
  F_is_whole : Fun K "is_whole" "is_whole" s_is_whole A_is_whole fd_is_whole
  g_is_whole : mg "is_whole" = some (.ref A_is_whole)
  b_is_whole : Binds K fd_is_whole ["thing", "least", "most"] []
  A_is_name : Addr
  fd_is_name : FuncData
  F_is_name : Fun K "is_name" "is_name" s_is_name A_is_name fd_is_name
  g_is_name : mg "is_name" = some (.ref A_is_name)
  b_is_name : Binds K fd_is_name ["thing"] []
  A_is_number : Addr
  fd_is_number : FuncData
  F_is_number : Fun K "is_number" "is_number" s_is_number A_is_number fd_is_number
  g_is_number : mg "is_number" = some (.ref A_is_number)
  b_is_number : Binds K fd_is_number ["thing"] []
  A_common_part : Addr
  fd_common_part : FuncData
  F_common_part : Fun K "common_part" "common_part" s_common_part A_common_part fd_common_part
  g_common_part : mg "common_part" = some (.ref A_common_part)
  b_common_part : Binds K fd_common_part ["one", "other"] []
  A_Share_init : Addr
  fd_Share_init : FuncData
  F_Share_init : FunD K "__init__" "Share.__init__" (defArgs s_Share_init) (defBody s_Share_init) (defScope s_Share_init) [.int 1] [] A_Share_init fd_Share_init
  mk_Share : Mk K C_Share A_Share_init
  b_Share_init : Binds K fd_Share_init ["self", "num", "over"] []
  A_Share_plus : Addr
  fd_Share_plus : FuncData
  F_Share_plus : Fun K "plus" "Share.plus" s_Share_plus A_Share_plus fd_Share_plus
  m_Share_plus : Meth K C_Share "plus" A_Share_plus
  b_Share_plus : Binds K fd_Share_plus ["self", "other"] []
  A_Share_eq : Addr
  fd_Share_eq : FuncData
  F_Share_eq : Fun K "__eq__" "Share.__eq__" s_Share_eq A_Share_eq fd_Share_eq
  m_Share_eq : Meth K C_Share "__eq__" A_Share_eq
  b_Share_eq : Binds K fd_Share_eq ["self", "other"] []
  A_shares_sum : Addr
  fd_shares_sum : FuncData
  F_shares_sum : Fun K "shares_sum" "shares_sum" s_shares_sum A_shares_sum fd_shares_sum
  g_shares_sum : mg "shares_sum" = some (.ref A_shares_sum)
  b_shares_sum : Binds K fd_shares_sum ["shares"] []
  A_worth : Addr
  fd_worth : FuncData
  F_worth : FunD K "worth" "worth" (defArgs s_worth) (defBody s_worth) (defScope s_worth) [.int 1, .int 2] [] A_worth fd_worth
  g_worth : mg "worth" = some (.ref A_worth)
  b_worth : Binds K fd_worth ["bead", "rates", "base", "drilled"] []
  A_worth_of : Addr
  fd_worth_of : FuncData
  F_worth_of : FunD K "worth_of" "worth_of" (defArgs s_worth_of) (defBody s_worth_of) (defScope s_worth_of) [.int 1, .int 2] [] A_worth_of fd_worth_of
  g_worth_of : mg "worth_of" = some (.ref A_worth_of)
  b_worth_of : Binds K fd_worth_of ["beads", "rates", "base", "drilled"] []
  A_is_measure : Addr
  fd_is_measure : FuncData
  F_is_measure : Fun K "is_measure" "is_measure" s_is_measure A_is_measure fd_is_measure
  g_is_measure : mg "is_measure" = some (.ref A_is_measure)
  b_is_measure : Binds K fd_is_measure ["thing"] []
  A_Bead_init : Addr
  fd_Bead_init : FuncData
  F_Bead_init : FunD K "__init__" "Bead.__init__" (defArgs s_Bead_init) (defBody s_Bead_init) (defScope s_Bead_init) [.str "round", .bl false] [] A_Bead_init fd_Bead_init
  mk_Bead : Mk K C_Bead A_Bead_init
  b_Bead_init : Binds K fd_Bead_init ["self", "number", "across", "weight", "shade", "form", "drilled"] []
  A_Bead_row : Addr
  fd_Bead_row : FuncData
  F_Bead_row : Fun K "row" "Bead.row" s_Bead_row A_Bead_row fd_Bead_row
  m_Bead_row : Meth K C_Bead "row" A_Bead_row
  b_Bead_row : Binds K fd_Bead_row ["self"] []
  A_Bead_repr : Addr
  fd_Bead_repr : FuncData
  F_Bead_repr : Fun K "__repr__" "Bead.__repr__" s_Bead_repr A_Bead_repr fd_Bead_repr
  m_Bead_repr : Meth K C_Bead "__repr__" A_Bead_repr
  b_Bead_repr : Binds K fd_Bead_repr ["self"] []
  A_Bead_str : Addr
  fd_Bead_str : FuncData
  F_Bead_str : Fun K "__str__" "Bead.__str__" s_Bead_str A_Bead_str fd_Bead_str
  m_Bead_str : Meth K C_Bead "__str__" A_Bead_str
  b_Bead_str : Binds K fd_Bead_str ["self"] []
  A_bead_of : Addr
  fd_bead_of : FuncData
  F_bead_of : Fun K "bead_of" "bead_of" s_bead_of A_bead_of fd_bead_of
  g_bead_of : mg "bead_of" = some (.ref A_bead_of)
  b_bead_of : Binds K fd_bead_of ["row"] []
  A_draws : Addr
  fd_draws : FuncData
  F_draws : Fun K "_law_draws" "_law_draws" s_draws A_draws fd_draws
  g_draws : mg "_law_draws" = some (.ref A_draws)
  b_draws : Binds K fd_draws ["_law_cell"] []
  A_next : Addr
  fd_next : FuncData
  F_next : Fun K "_law_next" "_law_next" s_next A_next fd_next
  g_next : mg "_law_next" = some (.ref A_next)
  b_next : Binds K fd_next ["_law_draws_here", "_law_size"] []
  A_words : Addr
  fd_words : FuncData
  F_words : Fun K "_law_words" "_law_words" s_words A_words fd_words
  g_words : mg "_law_words" = some (.ref A_words)
  b_words : Binds K fd_words ["_law_draws_here", "_law_many"] []
  A_row : Addr
  fd_row : FuncData
  F_row : Fun K "_law_row" "_law_row" s_row A_row fd_row
  g_row : mg "_law_row" = some (.ref A_row)
  b_row : Binds K fd_row ["_law_draws_here", "_law_number_here", "_law_words_here", "_law_across"] []
  A_lowest : Addr
  fd_lowest : FuncData
  F_lowest : Fun K "_law_lowest" "_law_lowest" s_lowest A_lowest fd_lowest
  g_lowest : mg "_law_lowest" = some (.ref A_lowest)
  b_lowest : Binds K fd_lowest ["_law_num", "_law_over"] []
  A_due : Addr
  fd_due : FuncData
  F_due : Fun K "_law_due" "_law_due" s_due A_due fd_due
  g_due : mg "_law_due" = some (.ref A_due)
  b_due : Binds K fd_due ["_law_row_here", "_law_tariff", "_law_ground", "_law_bored"] []
  A_due_of : Addr
  fd_due_of : FuncData
  F_due_of : Fun K "_law_due_of" "_law_due_of" s_due_of A_due_of fd_due_of
  g_due_of : mg "_law_due_of" = some (.ref A_due_of)
  b_due_of : Binds K fd_due_of ["_law_rows", "_law_tariff", "_law_ground", "_law_bored"] []
  A_called : Addr
  fd_called : FuncData
  F_called : Fun K "_law_called" "_law_called" s_called A_called fd_called
  g_called : mg "_law_called" = some (.ref A_called)
  b_called : Binds K fd_called ["_law_way", "_law_some", "_law_tariff", "_law_ground", "_law_bored"] []
  A_one : Addr
  fd_one : FuncData
  F_one : Fun K "_law_one" "_law_one" s_one A_one fd_one
  g_one : mg "_law_one" = some (.ref A_one)
  b_one : Binds K fd_one ["_law_way", "_law_bead", "_law_tariff", "_law_ground", "_law_bored"] []
  A_told : Addr
  fd_told : FuncData
  F_told : Fun K "_law_told" "_law_told" s_told A_told fd_told
  g_told : mg "_law_told" = some (.ref A_told)
  b_told : Binds K fd_told ["_law_way", "_law_thing", "_law_tariff", "_law_ground", "_law_bored"] []
  A_number : Addr
  fd_number : FuncData
  F_number : Fun K "_law_number" "_law_number" s_number A_number fd_number
  g_number : mg "_law_number" = some (.ref A_number)
  b_number : Binds K fd_number ["_law_draws_here"] []
  C_PearlError : Addr
  g_PearlError : mg "PearlError" = some (.ref C_PearlError)
  C_BadBead : Addr
  g_BadBead : mg "BadBead" = some (.ref C_BadBead)
  C_NoShare : Addr
  g_NoShare : mg "NoShare" = some (.ref C_NoShare)
  C_NoSuch : Addr
  g_NoSuch : mg "NoSuch" = some (.ref C_NoSuch)
  ox_NoShare : OexB "ZeroDivisionError.__new__" zdT K C_NoShare
  in_NoShare : PySem.W.findIn K (.ref C_NoShare) "__init__" = some (some (.ref A_NoShare_init))
  ti_NoShare : PySem.W.typeIn K (.ref A_NoShare_init) = some (.type "function")
  xc_NoShare : ExcC K C_NoShare
  nf_NoShare_num : PySem.W.findIn K (.ref C_NoShare) "num" = some none
  em_NoShare_NoShare : PySem.W.exmOne K (.ref C_NoShare) (.ref C_NoShare) = some true
  ox_NoSuch : OexB "LookupError.__new__" luT K C_NoSuch
  in_NoSuch : PySem.W.findIn K (.ref C_NoSuch) "__init__" = some (some (.ref A_NoSuch_init))
  ti_NoSuch : PySem.W.typeIn K (.ref A_NoSuch_init) = some (.type "function")
  xc_NoSuch : ExcC K C_NoSuch
  nf_NoSuch_kind : PySem.W.findIn K (.ref C_NoSuch) "kind" = some none
  nf_NoSuch_name : PySem.W.findIn K (.ref C_NoSuch) "name" = some none
  em_NoSuch_NoSuch : PySem.W.exmOne K (.ref C_NoSuch) (.ref C_NoSuch) = some true
  vV_LookupError : PySem.W.findCls K (.type "LookupError") (.type "type") "__init__" = some (.val (.builtin "LookupError.__init__"))
  vV_ZeroDivisionError : PySem.W.findCls K (.type "ZeroDivisionError") (.type "type") "__init__" = some (.val (.builtin "ZeroDivisionError.__init__"))
  vV : PySem.W.findCls K (.type "ValueError") (.type "type") "__init__" = some (.val (.builtin "ValueError.__init__"))
  its_kb_1 : List Value
  kb_1 : KBn K fd_worth_of ["beads", "rates", "base", "drilled"] 2 ["drilled", "base"] (fun us ws => kw [(0, 0), (0, 1), (2, 1), (2, 0)] us its_kb_1 ws) (fun vs zs => kw [(0, 0), (0, 1), (2, 1), (2, 0)] vs [.int 1, .int 2] zs)
  its_kb_2 : List Value
  kb_2 : KBn K fd_worth_of ["beads", "rates", "base", "drilled"] 3 ["drilled"] (fun us ws => kw [(0, 0), (0, 1), (0, 2), (2, 0)] us its_kb_2 ws) (fun vs zs => kw [(0, 0), (0, 1), (0, 2), (2, 0)] vs [.int 1, .int 2] zs)
  its_kb_3 : List Value
  kb_3 : KBn K fd_worth_of ["beads", "rates", "base", "drilled"] 2 ["drilled"] (fun us ws => kw [(0, 0), (0, 1), (1, 0), (2, 0)] us its_kb_3 ws) (fun vs zs => kw [(0, 0), (0, 1), (1, 0), (2, 0)] vs [.int 1, .int 2] zs)
  its_kb_4 : List Value
  kb_4 : KBn K fd_worth_of ["beads", "rates", "base", "drilled"] 0 ["rates", "base", "beads"] (fun us ws => kw [(2, 2), (2, 0), (2, 1), (1, 1)] us its_kb_4 ws) (fun vs zs => kw [(2, 2), (2, 0), (2, 1), (1, 1)] vs [.int 1, .int 2] zs)
  its_kb_5 : List Value
  kb_5 : KBn K fd_worth ["bead", "rates", "base", "drilled"] 2 ["drilled", "base"] (fun us ws => kw [(0, 0), (0, 1), (2, 1), (2, 0)] us its_kb_5 ws) (fun vs zs => kw [(0, 0), (0, 1), (2, 1), (2, 0)] vs [.int 1, .int 2] zs)
  ds2_worth_of : List Value
  hd2_worth_of : Vals [.int 1, .int 2] ds2_worth_of
  bd2_worth_of : Binds K fd_worth_of ["beads", "rates", "base", "drilled"] ds2_worth_of
  ds1_Share : List Value
  hd1_Share : Vals [.int 1] ds1_Share
  bd1_Share : Binds K fd_Share_init ["self", "num", "over"] ds1_Share
  i_Share : ICls K C_Share
  hm_Share : PySem.W.mroIn K C_Share (.type "object") = some true
  hne_Share : PySem.W.findIn K (.ref C_Share) "__ne__" = some (some (.builtin "object.__ne__"))
  sn_NoneType : PySem.W.subIn K (.ref C_Share) (.type "NoneType") = some false
  nf_int : PySem.W.notFirst K C_Share (.type "int") = true
  no_int : PySem.W.kitOne K (.type "int") (.ref C_Share) = some false
  nf_str : PySem.W.notFirst K C_Share (.type "str") = true
  no_str : PySem.W.kitOne K (.type "str") (.ref C_Share) = some false
  nf_bool : PySem.W.notFirst K C_Share (.type "bool") = true
  no_bool : PySem.W.kitOne K (.type "bool") (.ref C_Share) = some false
  nf_NoneType : PySem.W.notFirst K C_Share (.type "NoneType") = true
  no_NoneType : PySem.W.kitOne K (.type "NoneType") (.ref C_Share) = some false
  nf_tuple : PySem.W.notFirst K C_Share (.type "tuple") = true
  no_tuple : PySem.W.kitOne K (.type "tuple") (.ref C_Share) = some false
  en_NoShare : PySem.W.exmOne K (.ref C_NoShare) (.ref C_NoSuch) = some false
  i_Bead : ICls K C_Bead
  lb_Bead : PySem.W.kitOne K (.ref C_Bead) (.type "list") = some false
  t_LONGEST_NAME : Tok
  g_LONGEST_NAME : mg "LONGEST_NAME" = some (.int 8 t_LONGEST_NAME)
  t_GREATEST_NUMBER : Tok
  g_GREATEST_NUMBER : mg "GREATEST_NUMBER" = some (.int 1000000000 t_GREATEST_NUMBER)
  t_GREATEST_MEASURE : Tok
  g_GREATEST_MEASURE : mg "GREATEST_MEASURE" = some (.int 1000000 t_GREATEST_MEASURE)
  t_ROW_LENGTH : Tok
  g_ROW_LENGTH : mg "ROW_LENGTH" = some (.int 6 t_ROW_LENGTH)
  z_LookupError : mg "LookupError" = none
  z_ZeroDivisionError : mg "ZeroDivisionError" = none
  z_bool : mg "bool" = none
  z_isinstance : mg "isinstance" = none
  z_int : mg "int" = none
  z_len : mg "len" = none
  z_str : mg "str" = none
  z_all : mg "all" = none
  z_abs : mg "abs" = none
  z_tuple : mg "tuple" = none
  z_max : mg "max" = none
  z_range : mg "range" = none
  z_list : mg "list" = none
  z_repr : mg "repr" = none
  z_zip : mg "zip" = none
section
variable {P : Program} {w : World} {K : PySem.W.Frag} {mg : Str → Option Value} {base : Heap}
def whl (v : V) (lo hi : Int) : Bool := match v with
  | .int i => decide (lo ≤ i) && decide (i ≤ hi)
  | _ => false
def nm (v : V) : Bool := match v with
  | .str z => decide (1 ≤ z.length) && decide (z.length ≤ 8) && z.cps.toList.all lower
  | _ => false
def spIsInt (K : PySem.W.Frag) : Sp := fun vs H Q _ => ∃ v, vs = [v] ∧ Th K H v ∧ Q (.bl (isI v)) H
def spIsWhole (K : PySem.W.Frag) : Sp := fun vs H Q _ => ∃ v lo hi, vs = [v, .int lo, .int hi] ∧ Th K H v ∧ Q (.bl (whl v lo hi)) H
def spIsNumber (K : PySem.W.Frag) : Sp := fun vs H Q _ => ∃ v, vs = [v] ∧ Th K H v ∧ Q (.bl (whl v 1 1000000000)) H
def spIsName (K : PySem.W.Frag) : Sp := fun vs H Q _ => ∃ v, vs = [v] ∧ Th K H v ∧ (∀ z, v = .str z → z.length ≤ 100000) ∧ ∀ H', Same H H' → Q (.bl (nm v)) H'
theorem ok_is_int (T : Tx K mg) : FnOk P w K mg base CX0 1 T.A_is_int T.fd_is_int ["thing"] (spIsInt K) := by
  refine T.F_is_int.ok sc_is_int (fun vs H Q E h => ?_) (fun cdv A outer s H vs Q E hr h => ?_)
  · obtain ⟨v, rfl, th, q⟩ := h
    rfl
  obtain ⟨v, rfl, th, q⟩ := h
  refine ⟨_, (pss_one (ps_ret (pe_and (pe_callB call_isi (by rfl) T.z_isinstance (by decide +kernel) (pa_cons (pv 0) (pa_cons (pe_bltn (v := .ty "int") (by rfl) T.z_int (by decide +kernel) rfl) pa_nil))) (pe_one (pe_not (pe_callB call_isi (by rfl) T.z_isinstance (by decide +kernel) (pa_cons (pv 0) (pa_cons (pe_bltn (v := .ty "bool") (by rfl) T.z_bool (by decide +kernel) rfl) pa_nil)))))))), ?_⟩
  obtain ⟨t1, ty1, k1⟩ := isi_int th
  obtain ⟨t2, ty2, k2⟩ := isi_bool th
  refine ⟨_, rfl, v, _, t1, _, _, rfl, .ty _, ty1, k1, _, rfl, ?_⟩
  refine ite2 (fun e => ?_) (fun e => ?_)
  · refine ⟨_, rfl, v, _, t2, _, _, rfl, .ty _, ty2, k2, _, rfl, ?_⟩
    have : (!isB v) = isI v := by cases v <;> simp_all [isI, isB]
    rw [this]
    exact q
  · have : isI v = false := by cases v <;> simp_all [isI, isB]
    rw [this] at q
    exact q
theorem ok_is_whole (T : Tx K mg) : FnOk P w K mg base CX0 2 T.A_is_whole T.fd_is_whole ["thing", "least", "most"] (spIsWhole K) := by
  refine T.F_is_whole.ok sc_is_whole (fun vs H Q E h => ?_) (fun cdv A outer s H vs Q E hr h => ?_)
  · obtain ⟨v, lo, hi, rfl, th, q⟩ := h
    rfl
  obtain ⟨v, lo, hi, rfl, th, q⟩ := h
  refine ⟨_, (pss_one (ps_ret (pe_and (pe_call (ok_is_int T) (hr.mono (by decide)) (by rfl) T.g_is_int T.F_is_int.kp T.b_is_int .nil pass0 (pa_cons (pv 0) pa_nil)) (pe_one (pe_chain op_le op_le (pv 1) (pv 0) (pv 2)))))), ?_⟩
  refine ⟨_, rfl, v, rfl, th, _, rfl, ?_⟩
  cases v with
  | int i =>
    refine iteT ?_
    refine ⟨_, rfl, _, rfl, _, _, rfl, rfl, _, rfl, ?_⟩
    refine ite2 (fun e => ?_) (fun e => ?_)
    · refine ⟨_, rfl, _, _, rfl, rfl, ?_⟩
      have q : Q (.bl (decide (lo ≤ i) && decide (i ≤ hi))) H := q
      rw [e] at q
      exact q
    · have q : Q (.bl (decide (lo ≤ i) && decide (i ≤ hi))) H := q
      rw [Bool.not_eq_true] at e
      rw [e] at q
      exact q
  | _ => exact iteF q
theorem ok_is_number (T : Tx K mg) : FnOk P w K mg base CX0 3 T.A_is_number T.fd_is_number ["thing"] (spIsNumber K) := by
  refine T.F_is_number.ok sc_is_number (fun vs H Q E h => ?_) (fun cdv A outer s H vs Q E hr h => ?_)
  · obtain ⟨v, rfl, th, q⟩ := h
    rfl
  obtain ⟨v, rfl, th, q⟩ := h
  refine ⟨_, (pss_one (ps_ret (pe_call (ok_is_whole T) (hr.mono (by decide)) (by rfl) T.g_is_whole T.F_is_whole.kp T.b_is_whole .nil pass0 (pa_cons (pv 0) (pa_cons pe_int (pa_cons (pe_glob (v := .int 1000000000) (by rfl) T.g_GREATEST_NUMBER ⟨_, rfl⟩) pa_nil)))))), ?_⟩
  exact ⟨_, rfl, v, 1, 1000000000, rfl, th, q⟩
theorem nm_no {v : V} (h : isS v = false) : nm v = false := by cases v <;> simp_all [nm, isS]
theorem ok_is_name (T : Tx K mg) : FnOk P w K mg base CX0 1 T.A_is_name T.fd_is_name ["thing"] (spIsName K) := by
  refine T.F_is_name.ok sc_is_name (fun vs H Q E h => ?_) (fun cdv A outer s H vs Q E hr h => ?_)
  · obtain ⟨v, rfl, th, hz, q⟩ := h
    rfl
  obtain ⟨v, rfl, th, hz, q⟩ := h
  refine ⟨_, (pss_cons (ps_if (PW.pt (pw_or (pt_not (pt_val (pe_callB call_isi (by rfl) T.z_isinstance (by decide +kernel) (pa_cons (pv 0) (pa_cons (pe_bltn (v := .ty "str") (by rfl) T.z_str (by decide +kernel) rfl) pa_nil))))) (pw_or1 (pt_not (pt_chain op_le op_le pe_int (pe_callB call_len_str (by rfl) T.z_len PySem.boot_len (pa_cons (pv 0) pa_nil)) (pe_glob (v := .int 8) (by rfl) T.g_LONGEST_NAME ⟨_, rfl⟩)))))) (pss_one (ps_ret pe_bl)) pss_nil)
      (pss_one (ps_ret (pe_callB (cr_all rfl) (by rfl) T.z_all (by decide +kernel) (pa_cons (pe_lc (own := [("sign", 1)]) (g := gName 1) (tt := tYes) rfl sc_is_name.nd (pi_str (pv 0)) (blkOk_by (N := ["thing", "sign"]) (sc := defScope s_is_name) (by decide +kernel)) (fun _ _ _ _ _ => (pg_name (i := 1) sc_is_name.nd rfl (Or.inl rfl))) (fun _ _ _ _ _ => pts_nil) (fun _ _ _ _ _ => (pe_chain op_le_str op_le_str pe_str (pv 1) pe_str))) pa_nil))))), ?_⟩
  obtain ⟨t1, ty1, k1⟩ := isi_str th
  refine ⟨_, rfl, v, _, t1, _, _, rfl, .ty _, ty1, k1, _, rfl, ?_⟩
  by_cases hs : isS v = true
  · obtain ⟨z, rfl⟩ : ∃ z, v = .str z := by
      cases v with
      | str z => exact ⟨z, rfl⟩
      | _ => cases hs
    have hz := hz z rfl
    have hzl : z.length ≤ sizeLine := Nat.le_trans hz (by decide)
    have nmE : nm (.str z) = (decide (1 ≤ z.length) && decide (z.length ≤ 8) && z.cps.toList.all lower) := rfl
    rw [hs]
    refine iteF ?_
    refine ⟨_, rfl, z, rfl, hzl, _, _, rfl, rfl, _, rfl, ?_⟩
    by_cases h1 : 1 ≤ z.length
    · rw [decide_eq_true (show (1 : Int) ≤ (z.length : Int) by omega)]
      refine iteT ⟨_, _, rfl, rfl, _, rfl, ?_⟩
      by_cases h2 : z.length ≤ 8
      · rw [decide_eq_true (show (z.length : Int) ≤ 8 by omega)]
        refine iteF ?_
        refine ⟨_, rfl, z, rfl, fun D hD => lc_all hD hz lower ?_ ?_⟩
        · intro c H2 R C s2 r
          refine ⟨rfl, yesT ?_⟩
          refine ⟨_, rfl, _, _, rfl, rfl, _, rfl, ?_⟩
          rw [ge_a]
          refine ite2 (fun e => ?_) (fun e => ?_)
          · refine ⟨_, _, rfl, rfl, ?_⟩
            rw [le_z]
            have : lower c = decide (c ≤ 122) := by unfold lower; rw [e, Bool.true_and]
            rw [← this]
            exact r
          · rw [Bool.not_eq_true] at e
            have : lower c = false := by unfold lower; rw [e, Bool.false_and]
            rw [← this]
            exact r
        · intro H' s1 e1
          refine ⟨D, z.cps.toList.map lower, rfl, SqL.of e1, ?_⟩
          have q := q H' s1
          have : nm (.str z) = (z.cps.toList.map lower).all id := by
            rw [nmE, decide_eq_true h1, decide_eq_true h2, Bool.true_and, Bool.true_and, List.all_map]
            rfl
          rw [this] at q
          exact q
      · rw [decide_eq_false (show ¬ (z.length : Int) ≤ 8 by omega)]
        refine iteT ?_
        have q := q H (Same.refl H)
        rw [nmE, decide_eq_false h2, Bool.and_false, Bool.false_and] at q
        exact q
    · rw [decide_eq_false (show ¬ (1 : Int) ≤ (z.length : Int) by omega)]
      refine iteF ⟨_, rfl, ?_⟩
      refine iteT ?_
      have q := q H (Same.refl H)
      rw [nmE, decide_eq_false h1, Bool.false_and, Bool.false_and] at q
      exact q
  · rw [Bool.not_eq_true] at hs
    rw [hs]
    refine iteT (iteT ?_)
    have q := q H (Same.refl H)
    rw [nm_no hs] at q
    exact q
theorem ok_NoShare_init (T : Tx K mg) : FnOk P w K mg base CX0 1 T.A_NoShare_init T.fd_NoShare_init ["self", "num"] (spErr "ZeroDivisionError.__new__" zdT K "num") := by
  refine T.F_NoShare_init.ok sc_NoShare_init (fun vs H Q E h => ?_) (fun cdv A outer s H vs Q E hr h => ?_)
  · obtain ⟨a, C, v, rfl, T1, hno, ha, q⟩ := h
    rfl
  obtain ⟨a, C, v, rfl, T1, hno, ha, q⟩ := h
  refine ⟨_, (pss_cons (ps_expr (pe_binit PySem.F.excBase_ZeroDivisionError (by rfl) T.z_ZeroDivisionError (by decide +kernel) typ_ZD (by decide +kernel) (by decide +kernel) T.vV_ZeroDivisionError (pa_cons (pv 0) (pa_cons pe_str pa_nil))))
      (pss_one (ps_ostB (newId := "ZeroDivisionError.__new__") (bmB := zdT) PySem.F.store_ZeroDivisionError (pv 0) (pv 1)))), ?_⟩
  refine ⟨_, rfl, a, C, [.str "a share is over nought"], rfl, (by show 1 ≤ 1000; decide), T1, ha, ?_⟩
  exact ⟨_, rfl, _, rfl, a, C, rfl, T1, hno, .inl ⟨ha, q⟩⟩
/-- E(v1, v2), its fields f1 and f2 -/
def spErr2 (newId : String) (bmB : List Value) (K : PySem.W.Frag) (f1 f2 : Str) : Sp := fun vs H Q _ => ∃ (a C : Addr) (v1 v2 : V), vs = [.ref a, v1, v2] ∧ OexB newId bmB K C ∧ PySem.W.findIn K (.ref C) f1 = some none ∧ PySem.W.findIn K (.ref C) f2 = some none ∧ H a = some (exo a C none) ∧
  ∀ dx, H dx = none → dx ≠ a → Q .non (upd (upd (upd H dx (exd dx [(f1, v1)])) a (exo a C (some dx))) dx (exd dx [(f2, v2), (f1, v1)]))
theorem ok_NoSuch_init (T : Tx K mg) : FnOk P w K mg base CX0 1 T.A_NoSuch_init T.fd_NoSuch_init ["self", "kind", "name"] (spErr2 "LookupError.__new__" luT K "kind" "name") := by
  refine T.F_NoSuch_init.ok sc_NoSuch_init (fun vs H Q E h => ?_) (fun cdv A outer s H vs Q E hr h => ?_)
  · obtain ⟨a, C, v1, v2, rfl, T1, n1, n2, ha, q⟩ := h
    rfl
  obtain ⟨a, C, v1, v2, rfl, T1, n1, n2, ha, q⟩ := h
  refine ⟨_, (pss_cons (ps_expr (pe_binit PySem.F.excBase_LookupError (by rfl) T.z_LookupError (by decide +kernel) typ_LU (by decide +kernel) (by decide +kernel) T.vV_LookupError (pa_cons (pv 0) (pa_cons pe_str pa_nil))))
      (pss_cons (ps_ostB (newId := "LookupError.__new__") (bmB := luT) PySem.F.store_LookupError (pv 0) (pv 1))
      (pss_one (ps_ostB (newId := "LookupError.__new__") (bmB := luT) PySem.F.store_LookupError (pv 0) (pv 2))))), ?_⟩
  refine ⟨_, rfl, a, C, [.str "there is no such thing"], rfl, (by show 1 ≤ 1000; decide), T1, ha, ?_⟩
  refine ⟨_, rfl, _, rfl, a, C, rfl, T1, n1, .inl ⟨ha, fun dx hd hne => ?_⟩⟩
  refine ⟨_, rfl, _, rfl, a, C, rfl, T1, n2, .inr ⟨dx, [("kind", v1)], upd_same, ?_, (by show 1 ≤ 900; decide), q dx hd hne⟩⟩
  rw [upd_ne hne]
  exact upd_same
def sf (x : Int × Int) : List (Str × V) := putF "over" (.int x.2) (putF "num" (.int x.1) [])
theorem sf_num (x : Int × Int) : (sf x).lookup ("num" : Str) = some (.int x.1) := by
  unfold sf
  rw [lookup_putF, if_neg (by decide +kernel), lookup_putF, if_pos rfl]
theorem sf_over (x : Int × Int) : (sf x).lookup ("over" : Str) = some (.int x.2) := by
  unfold sf
  rw [lookup_putF, if_pos rfl]
theorem sf_no (x : Int × Int) {m : Str} (h1 : ¬ m = "over") (h2 : ¬ m = "num") : (sf x).lookup m = none := by
  unfold sf
  rw [lookup_putF, if_neg h1, lookup_putF, if_neg h2]
  rfl
def ShAt (C : Addr) (H : Hp) (p : Addr) (x : Int × Int) : Prop := ∃ dx, H p = some (.ins C dx (sf x))
theorem ShAt.same {C : Addr} {H H' : Hp} {p : Addr} {x : Int × Int} (s : NL H H') (h : ShAt C H p x) : ShAt C H' p x := by
  obtain ⟨dx, e⟩ := h
  exact ⟨dx, s _ _ (fun _ z => by cases z) e⟩
def Ok (k : Nat) (x : Int × Int) : Prop := 0 < x.2 ∧ Sz k x.1 ∧ Sz k x.2
def spCommon : Sp := fun vs H Q _ => ∃ a b : Nat, vs = [.int a, .int b] ∧ Q (.int (Nat.gcd a b : Nat)) H
theorem ok_common_part (T : Tx K mg) : FnOk P w K mg base CX0 1 T.A_common_part T.fd_common_part ["one", "other"] (spCommon) := by
  refine T.F_common_part.ok sc_common_part (fun vs H Q E h => ?_) (fun cdv A outer s H vs Q E hr h => ?_)
  · obtain ⟨a, b, rfl, q⟩ := h
    rfl
  obtain ⟨a, b, rfl, q⟩ := h
  refine ⟨_, (pss_cons (ps_while PassesOwn.never (pt_cmpR op_gt (pv 1) pe_int (nomark _)) (pss_one (ps_par (i := 0) (j := 1) (by rfl) sc_common_part.nd rfl rfl (by decide) rfl rfl (pa_cons (pv 1) (pa_cons (pe_op op_mod (pv 0) (pv 1)) pa_nil)) (by rfl))))
      (pss_one (ps_ret (pv 0)))), ?_⟩
  refine while_by (fun σ H' => ∃ x y : Nat, σ = [some (.int x), some (.int y)] ∧ Nat.gcd x y = Nat.gcd a b ∧ H' = H) (fun σ _ => match σ with | [_, some (.int y)] => y.toNat | _ => 0) ⟨a, b, rfl, rfl, rfl⟩ ?_ ?_
  · rintro σ H' ⟨x, y, rfl, hg, rfl⟩
    refine ⟨_, rfl, _, _, rfl, rfl, _, rfl, ite2 (fun e => ?_) (fun e => ?_)⟩
    · have hy : 0 < y := by
        have := of_decide_eq_true e
        omega
      refine ⟨_, rfl, _, rfl, _, rfl, _, _, rfl, rfl, (by show (0 : Int) < (y : Int); omega), _, _, rfl, ⟨y, x % y, ?_, ?_, rfl⟩, ?_⟩
      · show [some (V.int (y : Int)), some (V.int ((x : Int) % (y : Int)))] = _
        rw [← Int.natCast_emod]
      · rw [gcd_turn x y hy, hg]
      · show ((x : Int) % (y : Int)).toNat < ((y : Nat) : Int).toNat
        have := Int.emod_lt_of_pos (x : Int) (show (0 : Int) < (y : Int) by omega)
        omega
    · have hy : y = 0 := by
        have : ¬ (0 : Int) < (y : Int) := fun z => e (decide_eq_true z)
        omega
      subst hy
      rw [Nat.gcd_zero_right] at hg
      subst hg
      exact ⟨_, rfl, q⟩
  · rintro σ H' Q1 Q2 hQ ⟨v, h1, i, j, h2, h3, k, h4, z⟩
    exact ⟨v, h1, i, j, h2, h3, k, h4, hQ _ _ z⟩
def spShareX (C CB : Addr) : Sp := fun vs H Q E => ∃ (p dx : Addr) (n d : Int) (k : Nat), vs = [.ref p, .int n, .int d] ∧ H p = some (.ins C dx []) ∧ Sz k d ∧ k ≤ 8000 ∧
  (d ≠ 0 → ∀ H' : Hp, ShAt C H' p (shr n d) → (∀ b o, H b = some o → b ≠ p → H' b = some o) → Q .non H') ∧
  (d = 0 → ∀ (H' : Hp) (dd : Addr), Same H H' → H' dd = some (.xd [("num", .int n)]) → E (.ref CB) (some dd) H')
theorem ok_Share_init (T : Tx K mg) : FnOk P w K mg base (L2.CX P w) 3 T.A_Share_init T.fd_Share_init ["self", "num", "over"] (spShareX T.C_Share T.C_NoShare) := by
  refine T.F_Share_init.ok (CX := L2.CX P w) sc_Share_init (fun vs H Q E h => ?_) (fun cdv A outer s H vs Q E hr h => ?_)
  · obtain ⟨p, dx, n, d, k, rfl, hp, hs, hk, q, qn⟩ := h
    rfl
  obtain ⟨p, dx, n, d, k, rfl, hp, hs, hk, q, qn⟩ := h
  refine ⟨_, (pss_cons (ps_if (pt_cmpR op_eq (pv 2) pe_int (nomark _)) (pss_one (ps_raise rfl (takes_of rfl rfl rfl rfl) (pmk_gex PySem.F.excBase_ZeroDivisionError T.ox_NoShare T.in_NoShare T.ti_NoShare (ok_NoShare_init T) (hr.mono (by decide)) T.b_NoShare_init .nil pass0 (by rfl) T.g_NoShare (pa_cons (pv 1) pa_nil)))) pss_nil)
      (pss_cons (ps_set (i := 3) sc_Share_init.nd rfl (Or.inl rfl) (pe_call (ok_common_part T) (hr.mono (by decide)) (by rfl) T.g_common_part T.F_common_part.kp T.b_common_part .nil pass0 (pa_cons (pe_callB call_abs (by rfl) T.z_abs (by decide +kernel) (pa_cons (pv 1) pa_nil)) (pa_cons (pe_callB call_abs (by rfl) T.z_abs (by decide +kernel) (pa_cons (pv 2) pa_nil)) pa_nil))))
      (pss_cutJ (ps_if (pt_cmpR op_lt (pv 2) pe_int (nomark _)) (pss_one (ps_set (i := 3) sc_Share_init.nd rfl (Or.inl rfl) (pe_un un_neg (pv 3)))) pss_nil)
      (pss_cons (ps_fld (pv 0) (pe_op op_fdivX (pv 1) (pv 3)) rfl)
      (pss_one (ps_fld (pv 0) (pe_op op_fdivX (pv 2) (pv 3)) rfl)))))), ?_⟩
  by_cases hd : d = 0
  · subst hd
    refine ⟨_, rfl, rfl, _, rfl, iteT ⟨_, rfl, (by show 1 ≤ 1000; decide), fun x hx => ⟨x, T.C_NoShare, .int n, rfl, T.ox_NoShare, T.nf_NoShare_num, upd_same, fun dd hd hne => ⟨rfl, dd, [("num", .int n)], upd_same, ?_, ?_, ?_⟩⟩⟩⟩
    · rw [upd_ne hne]
      exact upd_same
    · rw [upd_ne hne] at hd
      exact hd
    · rw [upd_ne hne] at hd
      exact qn rfl _ dd (pearl_same hx hd) upd_same
  have q := q hd
  refine ⟨_, rfl, rfl, _, rfl, ?_⟩
  rw [decide_eq_false (show ¬ V.int d = V.int 0 from fun e => hd (by injection e))]
  refine iteF ⟨_, rfl, _, rfl, _, rfl, _, rfl, n.natAbs, d.natAbs, ?_, ?_⟩
  · show [V.int (if n < 0 then -n else n), V.int (if d < 0 then -d else d)] = _
    rw [abs_nat, abs_nat]
  refine ⟨fun σ' H' => σ' = [some (.ref p), some (.int n), some (.int d), some (.int (prt n d))] ∧ H = H', ?_, ?_⟩
  · refine ⟨_, rfl, _, _, rfl, rfl, _, rfl, ite2 (fun e => ?_) (fun e => ?_)⟩
    · refine ⟨_, rfl, _, rfl, ?_, rfl⟩
      have : prt n d = -(Int.gcd n d : Int) := if_pos (of_decide_eq_true e)
      rw [this]
      rfl
    · refine ⟨?_, rfl⟩
      have : prt n d = (Int.gcd n d : Int) := if_neg (fun z => e (decide_eq_true z))
      rw [this]
      rfl
  · rintro σ' _ ⟨rfl, rfl⟩
    refine ⟨_, rfl, _, rfl, _, _, rfl, rfl, ⟨prt_ne hd, prt_log hd hs hk⟩, _, rfl, p, _, dx, _, rfl, hp, T.cl_Share, T.n_Share_num, by decide, ?_⟩
    refine ⟨_, rfl, _, rfl, _, _, rfl, rfl, ⟨prt_ne hd, prt_log hd hs hk⟩, _, rfl, p, _, dx, _, rfl, upd_same, T.cl_Share, T.n_Share_over, Nat.lt_of_le_of_lt (length_putF _ _ _) (by decide), ?_⟩
    refine q _ ⟨dx, upd_same⟩ fun b o e hb => ?_
    rw [upd_ne hb, upd_ne hb]
    exact e
def spMeasure (K : PySem.W.Frag) : Sp := fun vs H Q _ => ∃ v, vs = [v] ∧ Th K H v ∧ Q (.bl (whl v 1 1000000)) H
theorem ok_is_measure (T : Tx K mg) : FnOk P w K mg base CX0 3 T.A_is_measure T.fd_is_measure ["thing"] (spMeasure K) := by
  refine T.F_is_measure.ok sc_is_measure (fun vs H Q E h => ?_) (fun cdv A outer s H vs Q E hr h => ?_)
  · obtain ⟨v, rfl, th, q⟩ := h
    rfl
  obtain ⟨v, rfl, th, q⟩ := h
  refine ⟨_, (pss_one (ps_ret (pe_call (ok_is_whole T) (hr.mono (by decide)) (by rfl) T.g_is_whole T.F_is_whole.kp T.b_is_whole .nil pass0 (pa_cons (pv 0) (pa_cons pe_int (pa_cons (pe_glob (v := .int 1000000) (by rfl) T.g_GREATEST_MEASURE ⟨_, rfl⟩) pa_nil)))))), ?_⟩
  exact ⟨_, rfl, v, 1, 1000000, rfl, th, q⟩
/-- a bead, a rule, as data -/
structure Rw where
  num : Int
  ac : Int
  we : Int
  sh : Str
  fo : Str
  dr : Bool
def GoodRw (r : Rw) : Prop := whl (.int r.num) 1 1000000000 = true ∧ whl (.int r.ac) 1 1000000 = true ∧ whl (.int r.we) 1 1000000 = true ∧ nm (.str r.sh) = true ∧ nm (.str r.fo) = true
theorem short_name {z : Str} (h : nm (.str z) = true) : z.length ≤ 100000 := by
  have nmE : nm (.str z) = (decide (1 ≤ z.length) && decide (z.length ≤ 8) && z.cps.toList.all lower) := rfl
  rw [nmE] at h
  simp only [Bool.and_eq_true, decide_eq_true_eq] at h
  omega
def bf (r : Rw) : List (Str × V) := putF "drilled" (.bl r.dr) (putF "form" (.str r.fo) (putF "shade" (.str r.sh) (putF "weight" (.int r.we) (putF "across" (.int r.ac) (putF "number" (.int r.num) [])))))
theorem bf_number (r : Rw) : (bf r).lookup ("number" : Str) = some (.int r.num) := by
  unfold bf
  rw [lookup_putF, if_neg (by decide +kernel), lookup_putF, if_neg (by decide +kernel), lookup_putF, if_neg (by decide +kernel), lookup_putF, if_neg (by decide +kernel), lookup_putF, if_neg (by decide +kernel), lookup_putF, if_pos rfl]
theorem bf_across (r : Rw) : (bf r).lookup ("across" : Str) = some (.int r.ac) := by
  unfold bf
  rw [lookup_putF, if_neg (by decide +kernel), lookup_putF, if_neg (by decide +kernel), lookup_putF, if_neg (by decide +kernel), lookup_putF, if_neg (by decide +kernel), lookup_putF, if_pos rfl]
theorem bf_weight (r : Rw) : (bf r).lookup ("weight" : Str) = some (.int r.we) := by
  unfold bf
  rw [lookup_putF, if_neg (by decide +kernel), lookup_putF, if_neg (by decide +kernel), lookup_putF, if_neg (by decide +kernel), lookup_putF, if_pos rfl]
theorem bf_shade (r : Rw) : (bf r).lookup ("shade" : Str) = some (.str r.sh) := by
  unfold bf
  rw [lookup_putF, if_neg (by decide +kernel), lookup_putF, if_neg (by decide +kernel), lookup_putF, if_pos rfl]
theorem bf_form (r : Rw) : (bf r).lookup ("form" : Str) = some (.str r.fo) := by
  unfold bf
  rw [lookup_putF, if_neg (by decide +kernel), lookup_putF, if_pos rfl]
theorem bf_drilled (r : Rw) : (bf r).lookup ("drilled" : Str) = some (.bl r.dr) := by
  unfold bf
  rw [lookup_putF, if_pos rfl]
theorem bf_no (r : Rw) {m : Str} (h1 : ¬ m = "drilled") (h2 : ¬ m = "form") (h3 : ¬ m = "shade") (h4 : ¬ m = "weight") (h5 : ¬ m = "across") (h6 : ¬ m = "number") : (bf r).lookup m = none := by
  unfold bf
  rw [lookup_putF, if_neg h1, lookup_putF, if_neg h2, lookup_putF, if_neg h3, lookup_putF, if_neg h4, lookup_putF, if_neg h5, lookup_putF, if_neg h6]
  rfl
theorem few {fs : List (Str × V)} {f : Str} {v : V} {n : Nat} (h : fs.length ≤ n) : (putF f v fs).length ≤ n + 1 := Nat.le_trans (length_putF f v fs) (by omega)
theorem few0 : ([] : List (Str × V)).length ≤ 0 := Nat.le_refl _
def BeadAt (C : Addr) (H : Hp) (p : Addr) (r : Rw) : Prop := ∃ dx, H p = some (.ins C dx (bf r))
def spBead (C : Addr) : Sp := fun vs H Q _ => ∃ (p dx : Addr) (r : Rw), vs = [.ref p, .int r.num, .int r.ac, .int r.we, .str r.sh, .str r.fo, .bl r.dr] ∧ H p = some (.ins C dx []) ∧ GoodRw r ∧
  ∀ H' : Hp, BeadAt C H' p r → (∀ b o, H b = some o → b ≠ p → H' b = some o) → Q .non H'
theorem ok_Bead_init (T : Tx K mg) : FnOk P w K mg base CX0 4 T.A_Bead_init T.fd_Bead_init ["self", "number", "across", "weight", "shade", "form", "drilled"] (spBead T.C_Bead) := by
  refine okD T.F_Bead_init sc_Bead_init (fun vs H Q E h => ?_) (fun cdv A outer s H vs Q E hr h => ?_)
  · obtain ⟨p, dx, r, rfl, hp, ⟨g1, g2, g3, g4, g5⟩, q⟩ := h
    rfl
  obtain ⟨p, dx, r, rfl, hp, ⟨g1, g2, g3, g4, g5⟩, q⟩ := h
  refine ⟨_, (pss_cons (ps_if (pt_not (pt_val (pe_call (ok_is_number T) (hr.mono (by decide)) (by rfl) T.g_is_number T.F_is_number.kp T.b_is_number .nil pass0 (pa_cons (pv 1) pa_nil)))) (pss_one ps_never) pss_nil)
      (pss_cons (ps_if (PW.pt (pw_or (pt_not (pt_val (pe_call (ok_is_measure T) (hr.mono (by decide)) (by rfl) T.g_is_measure T.F_is_measure.kp T.b_is_measure .nil pass0 (pa_cons (pv 2) pa_nil)))) (pw_or1 (pt_not (pt_val (pe_call (ok_is_measure T) (hr.mono (by decide)) (by rfl) T.g_is_measure T.F_is_measure.kp T.b_is_measure .nil pass0 (pa_cons (pv 3) pa_nil))))))) (pss_one ps_never) pss_nil)
      (pss_cons (ps_if (PW.pt (pw_or (pt_not (pt_val (pe_call (ok_is_name T) (hr.mono (by decide)) (by rfl) T.g_is_name T.F_is_name.kp T.b_is_name .nil pass0 (pa_cons (pv 4) pa_nil)))) (pw_or1 (pt_not (pt_val (pe_call (ok_is_name T) (hr.mono (by decide)) (by rfl) T.g_is_name T.F_is_name.kp T.b_is_name .nil pass0 (pa_cons (pv 5) pa_nil))))))) (pss_one ps_never) pss_nil)
      (pss_cons (ps_if (pt_not (pt_val (pe_callB call_isi (by rfl) T.z_isinstance (by decide +kernel) (pa_cons (pv 6) (pa_cons (pe_bltn (v := .ty "bool") (by rfl) T.z_bool (by decide +kernel) rfl) pa_nil))))) (pss_one ps_never) pss_nil)
      (pss_cons (ps_fld (pv 0) (pv 1) rfl)
      (pss_cons (ps_fld (pv 0) (pv 2) rfl)
      (pss_cons (ps_fld (pv 0) (pv 3) rfl)
      (pss_cons (ps_fld (pv 0) (pv 4) rfl)
      (pss_cons (ps_fld (pv 0) (pv 5) rfl)
      (pss_one (ps_fld (pv 0) (pv 6) rfl))))))))))), ?_⟩
  refine ⟨_, rfl, _, rfl, .int _, _, rfl, ?_⟩
  rw [g1]
  refine iteF ⟨_, rfl, _, rfl, .int _, _, rfl, ?_⟩
  rw [g2]
  refine iteF ⟨_, rfl, _, rfl, .int _, _, rfl, ?_⟩
  rw [g3]
  refine iteF ⟨_, rfl, _, rfl, .str _, (fun z hz => by injection hz with hz; rw [← hz]; exact short_name g4), fun H1 s1 => ⟨_, rfl, ?_⟩⟩
  rw [g4]
  refine iteF ⟨_, rfl, _, rfl, .str _, (fun z hz => by injection hz with hz; rw [← hz]; exact short_name g5), fun H2 s2 => ⟨_, rfl, ?_⟩⟩
  rw [g5]
  refine iteF ⟨_, rfl, _, _, _, _, _, rfl, .ty _, .base (.bl _), kit_ty (r := true) (by decide +kernel), _, rfl, ?_⟩
  refine iteF ?_
  have h2 := s2 _ _ (s1 _ _ hp)
  refine ⟨_, rfl, _, rfl, p, _, dx, _, rfl, h2, T.cl_Bead, T.n_Bead_number, by decide, ?_⟩
  refine ⟨_, rfl, _, rfl, p, _, dx, _, rfl, upd_same, T.cl_Bead, T.n_Bead_across, Nat.lt_of_le_of_lt (few few0) (by decide), ?_⟩
  refine ⟨_, rfl, _, rfl, p, _, dx, _, rfl, upd_same, T.cl_Bead, T.n_Bead_weight, Nat.lt_of_le_of_lt (few (few few0)) (by decide), ?_⟩
  refine ⟨_, rfl, _, rfl, p, _, dx, _, rfl, upd_same, T.cl_Bead, T.n_Bead_shade, Nat.lt_of_le_of_lt (few (few (few few0))) (by decide), ?_⟩
  refine ⟨_, rfl, _, rfl, p, _, dx, _, rfl, upd_same, T.cl_Bead, T.n_Bead_form, Nat.lt_of_le_of_lt (few (few (few (few few0)))) (by decide), ?_⟩
  refine ⟨_, rfl, _, rfl, p, _, dx, _, rfl, upd_same, T.cl_Bead, T.n_Bead_drilled, Nat.lt_of_le_of_lt (few (few (few (few (few few0))))) (by decide), ?_⟩
  refine q _ ⟨dx, upd_same⟩ fun b o e hb => ?_
  rw [upd_ne hb, upd_ne hb, upd_ne hb, upd_ne hb, upd_ne hb, upd_ne hb]
  exact s2 _ _ (s1 _ _ e)
def rowVals (r : Rw) : List V := [.int r.num, .int r.ac, .int r.we, .str r.sh, .str r.fo, .bl r.dr]
def spRow (C : Addr) : Sp := fun vs H Q _ => ∃ (p : Addr) (r : Rw), vs = [.ref p] ∧ BeadAt C H p r ∧ ∀ t, H t = none → Q (.ref t) (upd H t (.tup (rowVals r)))
theorem ok_Bead_row (T : Tx K mg) : FnOk P w K mg base CX0 1 T.A_Bead_row T.fd_Bead_row ["self"] (spRow T.C_Bead) := by
  refine T.F_Bead_row.ok sc_Bead_row (fun vs H Q E h => ?_) (fun cdv A outer s H vs Q E hr h => ?_)
  · obtain ⟨p, r, rfl, ⟨dx, hp⟩, q⟩ := h
    rfl
  obtain ⟨p, r, rfl, ⟨dx, hp⟩, q⟩ := h
  refine ⟨_, (pss_one (ps_ret (pe_tup (pa_cons (pe_fld (pv 0) rfl) (pa_cons (pe_fld (pv 0) rfl) (pa_cons (pe_fld (pv 0) rfl) (pa_cons (pe_fld (pv 0) rfl) (pa_cons (pe_fld (pv 0) rfl) (pa_cons (pe_fld (pv 0) rfl) pa_nil))))))))), ?_⟩
  refine ⟨_, rfl, p, _, dx, _, _, rfl, hp, T.cl_Bead, T.n_Bead_number, bf_number r, ?_⟩
  refine ⟨_, rfl, p, _, dx, _, _, rfl, hp, T.cl_Bead, T.n_Bead_across, bf_across r, ?_⟩
  refine ⟨_, rfl, p, _, dx, _, _, rfl, hp, T.cl_Bead, T.n_Bead_weight, bf_weight r, ?_⟩
  refine ⟨_, rfl, p, _, dx, _, _, rfl, hp, T.cl_Bead, T.n_Bead_shade, bf_shade r, ?_⟩
  refine ⟨_, rfl, p, _, dx, _, _, rfl, hp, T.cl_Bead, T.n_Bead_form, bf_form r, ?_⟩
  refine ⟨_, rfl, p, _, dx, _, _, rfl, hp, T.cl_Bead, T.n_Bead_drilled, bf_drilled r, ?_⟩
  exact ⟨(by show 6 ≤ sizeLine; decide), fun t ht => q t ht⟩
end
end KB
namespace KB
open PySem PySem.Spec PyProof.Rows L2 KA
section
variable {P : Program} {w : World} {K : PySem.W.Frag} {mg : Str → Option Value} {base : Heap}
def spTwo (C : Addr) (f : Int × Int → Int × Int → Int × Int) : Sp := fun vs H Q _ => ∃ (p q : Addr) (x y : Int × Int) (k m : Nat), vs = [.ref p, .ref q] ∧ ShAt C H p x ∧ ShAt C H q y ∧ Ok k x ∧ Ok m y ∧ k ≤ 2000 ∧ m ≤ 2000 ∧
  ∀ (H' : Hp) (r : Addr), Same H H' → ShAt C H' r (f x y) → Q (.ref r) H'
def fPlus (x y : Int × Int) : Int × Int := shr (x.1 * y.2 + y.1 * x.2) (x.2 * y.2)
theorem made_same {H H1 : Hp} {x dx C : Addr} (nx : H x = none) (ndx : H dx = none) (k : ∀ b o, (upd (upd H dx (.own x)) x (.ins C dx [])) b = some o → b ≠ x → H1 b = some o) : Same H H1 := fun b o e => k b o (by rw [upd_ne (ne_of_none e nx), upd_ne (ne_of_none e ndx)]; exact e) (ne_of_none e nx)
theorem ok_Share_plus (T : Tx K mg) : FnOk P w K mg base CX0 5 T.A_Share_plus T.fd_Share_plus ["self", "other"] (spTwo T.C_Share fPlus) := by
  refine T.F_Share_plus.ok sc_Share_plus (fun vs H Q E h => ?_) (fun cdv A outer s H vs Q E hr h => ?_)
  · obtain ⟨p, q', x, y, k, m, rfl, ⟨dx, hp⟩, ⟨dy, hq⟩, ⟨x0, x1, x2⟩, ⟨y0, y1, y2⟩, hk, hm, q⟩ := h
    rfl
  obtain ⟨p, q', x, y, k, m, rfl, ⟨dx, hp⟩, ⟨dy, hq⟩, ⟨x0, x1, x2⟩, ⟨y0, y1, y2⟩, hk, hm, q⟩ := h
  refine ⟨_, (pss_one (ps_ret (pe_make T.mk_Share (ok_Share_init T) (hr.mono (by decide)) (by rfl) T.g_Share T.b_Share_init .nil passF (pa_cons (pe_op op_add (pe_op op_mulW (pe_fld (pv 0) rfl) (pe_fld (pv 1) rfl)) (pe_op op_mulW (pe_fld (pv 1) rfl) (pe_fld (pv 0) rfl))) (pa_cons (pe_op op_mulW (pe_fld (pv 0) rfl) (pe_fld (pv 1) rfl)) pa_nil))))), ?_⟩
  refine ⟨_, rfl, p, _, dx, _, _, rfl, hp, T.cl_Share, T.n_Share_num, sf_num x, _, rfl, q', _, dy, _, _, rfl, hq, T.cl_Share, T.n_Share_over, sf_over y, _, _, rfl, rfl, x1.mw y2 (by omega), ?_⟩
  refine ⟨_, rfl, q', _, dy, _, _, rfl, hq, T.cl_Share, T.n_Share_num, sf_num y, _, rfl, p, _, dx, _, _, rfl, hp, T.cl_Share, T.n_Share_over, sf_over x, _, _, rfl, rfl, y1.mw x2 (by omega), _, _, rfl, rfl, ?_⟩
  refine ⟨_, rfl, p, _, dx, _, _, rfl, hp, T.cl_Share, T.n_Share_over, sf_over x, _, rfl, q', _, dy, _, _, rfl, hq, T.cl_Share, T.n_Share_over, sf_over y, _, _, rfl, rfl, x2.mw y2 (by omega), ?_⟩
  intro r dr nr ndr ner
  have hz : x.2 * y.2 ≠ 0 := Int.mul_ne_zero (by omega) (by omega)
  exact ⟨r, dr, _, _, k + m, rfl, upd_same, x2.mul y2, by omega, fun _ H1 hr k1 => ⟨rfl, q H1 r (made_same nr ndr k1) hr⟩, fun z => absurd z hz⟩
/-- a list of shares -/
structure ShL (C : Addr) (H : Hp) (vs : List V) (ls : List (Int × Int)) : Prop where
  len : vs.length = ls.length
  at_ : ∀ (i : Nat) (v : V), vs[i]? = some v → ∃ p l, v = .ref p ∧ ls[i]? = some l ∧ ShAt C H p l
theorem ShL.same {C : Addr} {H H' : Hp} {vs : List V} {ls : List (Int × Int)} (s : NL H H') (h : ShL C H vs ls) : ShL C H' vs ls :=
  ⟨h.len, fun i v hv => by
    obtain ⟨p, l, e1, e2, e3⟩ := h.at_ i v hv
    exact ⟨p, l, e1, e2, e3.same s⟩⟩
theorem plus_sz {k : Nat} {x y : Int × Int} (hx : Ok k x) (hy : Ok 110 y) (hk : 110 ≤ k) : Ok (k + 111) (fPlus x y) := by
  obtain ⟨x0, x1, x2⟩ := hx
  obtain ⟨y0, y1, y2⟩ := hy
  have d0 : x.2 * y.2 ≠ 0 := Int.mul_ne_zero (by omega) (by omega)
  have a := x1.mul y2
  have b := y1.mul x2
  have c := Sz.add a (b.mono (by omega : 110 + k ≤ k + 110))
  have d := (x2.mul y2).mono (by omega : k + 110 ≤ k + 110 + 1)
  have z := shr_sz d0 c d
  exact ⟨shr_pos d0, z.1, z.2⟩
def sumL (ls : List (Int × Int)) : Int × Int := ls.foldl fPlus (0, 1)
theorem shr01 : shr 0 1 = (0, 1) := by decide
theorem sum_sz : ∀ {ls : List (Int × Int)} {t : Int × Int} {k : Nat}, (∀ l ∈ ls, Ok 110 l) → Ok k t → 110 ≤ k → Ok (k + 111 * ls.length) (ls.foldl fPlus t)
  | [], t, k, _, h, _ => by simpa using h
  | l :: ls, t, k, h, ht, hk => by
    have z := sum_sz (fun m hm => h m (List.mem_cons_of_mem _ hm)) (plus_sz ht (h l (List.mem_cons_self ..)) hk) (by omega)
    rw [List.foldl_cons, List.length_cons]
    have e : k + 111 + 111 * ls.length = k + 111 * (ls.length + 1) := by omega
    rw [e] at z
    exact z
theorem ok01 : Ok 110 (0, 1) := ⟨by decide, by show (0 : Int).natAbs < 2 ^ 110; decide, by show (1 : Int).natAbs < 2 ^ 110; decide⟩
theorem sum_ok {ls : List (Int × Int)} (h : ∀ l ∈ ls, Ok 110 l) (hl : ls.length ≤ 12) : Ok 1500 (sumL ls) := by
  have z := sum_sz h ok01 (Nat.le_refl _)
  exact ⟨z.1, z.2.1.mono (by omega), z.2.2.mono (by omega)⟩
def spSum (K : PySem.W.Frag) (C : Addr) : Sp := fun vs H Q _ => ∃ (b : Addr) (xs : List V) (ls : List (Int × Int)), vs = [.ref b] ∧ SqL K H b xs ∧ ShL C H xs ls ∧ (∀ l ∈ ls, Ok 110 l) ∧ ls.length ≤ 12 ∧
  ∀ (H' : Hp) (r : Addr), Same H H' → ShAt C H' r (sumL ls) → Q (.ref r) H'
theorem ok_shares_sum (T : Tx K mg) : FnOk P w K mg base CX0 6 T.A_shares_sum T.fd_shares_sum ["shares"] (spSum K T.C_Share) := by
  refine T.F_shares_sum.ok sc_shares_sum (fun vs H Q E h => ?_) (fun cdv A outer s H vs Q E hr h => ?_)
  · obtain ⟨b, xs, ls, rfl, hS, hL, hG, hl, q⟩ := h
    rfl
  obtain ⟨b, xs, ls, rfl, hS, hL, hG, hl, q⟩ := h
  refine ⟨_, (pss_cons (ps_set (i := 1) sc_shares_sum.nd rfl (Or.inl rfl) (pe_make T.mk_Share (ok_Share_init T) (hr.mono (by decide)) (by rfl) T.g_Share T.bd1_Share T.hd1_Share passF (pa_cons pe_int pa_nil)))
      (pss_cons (ps_for PassesOwn.never rfl (pi_list (pv 0)) (pg_name (i := 2) sc_shares_sum.nd rfl (Or.inl rfl))
        (pss_one (ps_set (i := 1) sc_shares_sum.nd rfl (Or.inl rfl) (pe_meth (pv 1) T.cl_Share T.m_Share_plus (ok_Share_plus T) (hr.mono (by decide)) T.b_Share_plus .nil pass0 (pa_cons (pv 2) pa_nil)))))
      (pss_one (ps_ret (pv 1))))), ?_⟩
  intro r0 dr0 n0 m0 e0
  refine ⟨r0, dr0, 0, 1, 1, rfl, upd_same, (by show (1 : Int).natAbs < 2 ^ 1; decide), by decide, fun _ H1 h1 k1 => ⟨rfl, ?_⟩, fun z => absurd z (by decide)⟩
  have s1 := made_same n0 m0 k1
  rw [shr01] at h1
  have eL := hL.len
  refine ⟨_, rfl, b, rfl, ⟨_, s1.seq hS⟩, for_list (K := K) (a := b) (xs := xs) (fun i σ H' => ∃ (r : Addr) (w2 : Option V), σ = [some (.ref b), some (.ref r), w2] ∧ Same H H' ∧ ShAt T.C_Share H' r (sumL (ls.take i))) ⟨r0, _, rfl, s1, h1⟩ (fun i σ H' _ h => ?_) ?_ ?_⟩
  · obtain ⟨_, _, _, s, _⟩ := h
    exact s.seq hS
  · rintro i x σ H2 hi ⟨r, w2, rfl, s2, ⟨dr, hr'⟩⟩
    obtain ⟨p, l, rfl, hl', hp⟩ := (hL.same (NL.of s2)).at_ i x hi
    have okl := hG l (List.mem_of_getElem? hl')
    have ok := sum_ok (ls := ls.take i) (fun m hm => hG m (List.mem_of_mem_take hm)) (by rw [List.length_take]; omega)
    refine ⟨_, rfl, r, dr, _, rfl, hr', sf_no _ (by decide +kernel) (by decide +kernel), _, rfl, r, p, _, l, 1500, 110, rfl, ⟨dr, hr'⟩, hp, ok, okl, by omega, by omega, fun H3 r3 s3 h3 => ?_⟩
    refine ⟨r3, _, rfl, s2.trans s3, ?_⟩
    rw [List.take_add_one, hl']
    show ShAt T.C_Share H3 r3 (sumL (ls.take i ++ [l]))
    unfold sumL
    rw [List.foldl_append]
    exact h3
  · rintro σ H2 ⟨r, w2, rfl, s2, hr'⟩
    rw [eL, List.take_of_length_le (Nat.le_refl _)] at hr'
    exact ⟨_, rfl, q H2 r s2 hr'⟩
def likeS (x y : Int × Int) : Bool := decide (x.1 = y.1) && decide (x.2 = y.2)
theorem likeS_refl (x : Int × Int) : likeS x x = true := by
  unfold likeS
  simp
def five : List String := ["int", "str", "bool", "NoneType", "tuple"]
theorem no5 (T : Tx K mg) {t : String} (h : t ∈ five) : PySem.W.kitOne K (.type t) (.ref T.C_Share) = some false := by
  unfold five at h
  simp only [List.mem_cons, List.not_mem_nil, or_false] at h
  rcases h with rfl | rfl | rfl | rfl | rfl
  · exact T.no_int
  · exact T.no_str
  · exact T.no_bool
  · exact T.no_NoneType
  · exact T.no_tuple
theorem nf5 (T : Tx K mg) {t : String} (h : t ∈ five) : PySem.W.notFirst K T.C_Share (.type t) = true := by
  unfold five at h
  simp only [List.mem_cons, List.not_mem_nil, or_false] at h
  rcases h with rfl | rfl | rfl | rfl | rfl
  · exact T.nf_int
  · exact T.nf_str
  · exact T.nf_bool
  · exact T.nf_NoneType
  · exact T.nf_tuple
def RS (K : PySem.W.Frag) (C : Addr) : Addr → V → Bool → Hp → Prop := fun a y b H => ∃ x, ShAt C H a x ∧ ((∃ p x', y = .ref p ∧ ShAt C H p x' ∧ b = likeS x x') ∨ (∃ t, t ∈ five ∧ TyX K H y (.type t) ∧ b = false))
theorem dec_int2 (a b : Int) : decide (V.int a = V.int b) = decide (a = b) := by
  rw [decide_eq_decide]
  exact ⟨fun e => by injection e, fun e => by rw [e]⟩
theorem ok_Share_eq (T : Tx K mg) : FnOk P w K mg base CX0 1 T.A_Share_eq T.fd_Share_eq ["self", "other"] (spEqO (RS K T.C_Share)) := by
  refine T.F_Share_eq.ok sc_Share_eq (fun vs H Q E h => ?_) (fun cdv A outer s H vs Q E hr h => ?_)
  · obtain ⟨p, y, b, rfl, ⟨x, ⟨dx, hp⟩, hy⟩, q⟩ := h
    rfl
  obtain ⟨p, y, b, rfl, ⟨x, ⟨dx, hp⟩, hy⟩, q⟩ := h
  refine ⟨_, (pss_one (ps_ret (pe_and (pe_callB call_isi (by rfl) T.z_isinstance (by decide +kernel) (pa_cons (pv 1) (pa_cons (pe_glob (v := .ref T.C_Share) (by rfl) T.g_Share rfl) pa_nil))) (pe_and (pe_cmpR op_eq (pe_fld (pv 0) rfl) (pe_fld (pv 1) rfl) (nomark _)) (pe_one (pe_cmpR op_eq (pe_fld (pv 0) rfl) (pe_fld (pv 1) rfl) (nomark _))))))), ?_⟩
  have q := q H Ext.rfl'
  rcases hy with ⟨p', x', rfl, ⟨dx', hp'⟩, rfl⟩ | ⟨t, ht, ty, rfl⟩
  · refine ⟨_, rfl, .ref p', .ref T.C_Share, .ref T.C_Share, .ref T.C_Share, true, rfl, .own _, T.i_Share.ty T.cl_Share hp', T.i_Share.kit, _, rfl, iteT ?_⟩
    refine ⟨_, rfl, p, _, dx, _, _, rfl, hp, T.cl_Share, T.n_Share_num, sf_num x, _, rfl, p', _, dx', _, _, rfl, hp', T.cl_Share, T.n_Share_num, sf_num x', rfl, _, rfl, ?_⟩
    rw [dec_int2]
    have e : likeS x x' = (decide (x.1 = x'.1) && decide (x.2 = x'.2)) := rfl
    refine ite2 (fun h1 => ?_) (fun h1 => ?_)
    · rw [h1, Bool.true_and] at e
      refine ⟨_, rfl, p, _, dx, _, _, rfl, hp, T.cl_Share, T.n_Share_over, sf_over x, _, rfl, p', _, dx', _, _, rfl, hp', T.cl_Share, T.n_Share_over, sf_over x', rfl, ?_⟩
      rw [dec_int2, ← e]
      exact q
    · rw [Bool.not_eq_true] at h1
      rw [h1] at e
      rw [e] at q
      exact q
  · exact ⟨_, rfl, y, .ref T.C_Share, .type t, .ref T.C_Share, false, rfl, .own _, ty, no5 T ht, _, rfl, iteF q⟩
theorem rs_mon {C : Addr} : ∀ a y b H H', Ext H H' → RS K C a y b H → RS K C a y b H' := fun a y b H H' e h => by
  obtain ⟨r, ⟨dx, ha⟩, hy⟩ := h
  refine ⟨r, ⟨dx, e _ _ ha⟩, ?_⟩
  rcases hy with ⟨p, r', h1, ⟨dy, h2⟩, h3⟩ | ⟨t, ht, ty, hb⟩
  · exact .inl ⟨p, r', h1, ⟨dy, e _ _ h2⟩, h3⟩
  · exact .inr ⟨t, ht, tyx_same e ty, hb⟩
def DOwn2 (K : PySem.W.Frag) (C : Addr) : BEq2 := BOwn K C (RS K C)
theorem monB_own2 {C : Addr} : MonB (DOwn2 K C) := monB_own rs_mon
theorem eqB_own2 {X : Cx} (T : Tx X.K X.mg) : EqB X 1 (DOwn2 X.K T.C_Share) :=
  eqB_own (E := E0) (ok_Share_eq (P := X.prog) (w := X.w) (base := X.base) T) T.m_Share_eq.at_ T.m_Share_eq.fn T.b_Share_eq pass0 T.sn_NoneType
theorem rcB_own2 {X : Cx} (T : Tx X.K X.mg) : RcB X 1 false (DOwn2 X.K T.C_Share) :=
  rcB_own (E := E0) (ok_Share_eq (P := X.prog) (w := X.w) (base := X.base) T) T.m_Share_eq.at_ T.m_Share_eq.fn T.b_Share_eq pass0 T.sn_NoneType
theorem rcB_ne2 {X : Cx} (T : Tx X.K X.mg) : RcB X 2 true (BOwn1 X.K T.C_Share (RS X.K T.C_Share)) :=
  rcB_ownNe (E := E0) (ok_Share_eq (P := X.prog) (w := X.w) (base := X.base) T) T.m_Share_eq.at_ T.m_Share_eq.fn T.b_Share_eq pass0 T.hm_Share T.hne_Share
end
end KB
namespace KB
open PySem PySem.Spec PyProof.Rows L2 KA
section
variable {P : Program} {w : World} {K : PySem.W.Frag} {mg : Str → Option Value} {base : Heap}
theorem dec_str6 (a b : Str) : decide (V.str a = V.str b) = decide (a = b) := by
  rw [decide_eq_decide]
  exact ⟨fun e => by injection e, fun e => by rw [e]⟩
/-! ### how a bead is shown -/
theorem lower_print {c : Nat} (h : lower c = true) (q : Nat) (hq : q = 39) : Builtin.Str.reprChar q c = [c] := by
  have all : (List.range 128).all (fun c => !lower c || (Builtin.Str.reprChar 39 c == [c])) = true := by decide +kernel
  have hl : c < 128 := by
    have := lower_lt h
    omega
  have := List.all_eq_true.mp all c (List.mem_range.mpr hl)
  rw [h] at this
  rw [hq]
  simpa using this
theorem repr_fold (q : Nat) (hq : q = 39) : ∀ (l : List Nat) (acc : Array Nat), (∀ c ∈ l, lower c = true) → (l.foldl (fun out c => out ++ (Builtin.Str.reprChar q c).toArray) acc).toList = acc.toList ++ l
  | [], acc, _ => by simp
  | c :: r, acc, h => by
    rw [List.foldl_cons, repr_fold q hq r _ (fun d hd => h d (List.mem_cons_of_mem _ hd)), lower_print (h c (List.mem_cons_self ..)) q hq]
    simp
theorem nm_low {z : Str} (h : nm (.str z) = true) : z.length ≤ 8 ∧ ∀ c ∈ z.cps.toList, lower c = true := by
  have nmE : nm (.str z) = (decide (1 ≤ z.length) && decide (z.length ≤ 8) && z.cps.toList.all lower) := rfl
  rw [nmE] at h
  simp only [Bool.and_eq_true, decide_eq_true_eq] at h
  exact ⟨h.1.2, fun c hc => List.all_eq_true.mp h.2 c hc⟩
theorem repr_name {z : Str} (h : nm (.str z) = true) : TL.tl (PySem.reprText z) = 39 :: (TL.tl z ++ [39]) := by
  obtain ⟨_, h⟩ := nm_low h
  have hq : PySem.reprQuote z = 39 := by
    unfold PySem.reprQuote
    have : z.cps.contains 39 = false := by
      rw [Bool.eq_false_iff]
      intro hc
      have := h 39 (by simpa using hc)
      exact absurd this (by decide)
    rw [this]
    rfl
  unfold PySem.reprText
  show (Array.push _ _).toList = _
  rw [Array.toList_push, ← Array.foldl_toList, repr_fold _ hq _ _ h, hq]
  rfl
def spShow (C : Addr) (f : Rw → List Nat) : Sp := fun vs H Q _ => ∃ (p : Addr) (r : Rw), vs = [.ref p] ∧ BeadAt C H p r ∧ GoodRw r ∧ ∀ (H' : Hp) (z : Str), TL.tl z = f r → z.length ≤ 1000 → Same H H' → Q (.str z) H'
def nL (i : Int) : List Nat := TL.tl (Str.ofString (toString i))
def strL (r : Rw) : List Nat := nL r.num ++ (TL.tl " " ++ (nL r.ac ++ (TL.tl "/" ++ (nL r.we ++ (TL.tl " " ++ (TL.tl r.sh ++ (TL.tl " " ++ (TL.tl r.fo ++ (if r.dr then TL.tl " drilled" else [])))))))))
def reprL (r : Rw) : List Nat := TL.tl "Bead(" ++ (nL r.num ++ (TL.tl ", " ++ (nL r.ac ++ (TL.tl ", " ++ (nL r.we ++ (TL.tl ", " ++ ([39] ++ (TL.tl r.sh ++ ([39] ++ ((if r.fo = "round" then [] else TL.tl ", form=" ++ ([39] ++ (TL.tl r.fo ++ [39]))) ++ ((if r.dr then TL.tl ", drilled=True" else []) ++ [41])))))))))))
theorem app_le {x y : Str} {m n : Nat} (hx : x.length ≤ m) (hy : y.length ≤ n) : (x ++ y).length ≤ m + n := by
  rw [Str.length_append]
  omega
theorem fit {x : Str} {m : Nat} (h : x.length ≤ m) (hm : m ≤ 100000 := by decide) : x.length ≤ sizeLine := sz _ (Nat.le_trans h hm)
theorem num_le {n : Int} (h0 : 0 ≤ n) (h1 : n ≤ 1000000000) : (Str.ofString (toString n)).length ≤ 59 := toString_length_le h0 (by decide) (by
  have e : (10 : Int) ^ 59 = 100000000000000000000000000000000000000000000000000000000000 := by decide
  rw [e]
  omega)
theorem num_log {n : Int} (h0 : 1 ≤ n) (h1 : n ≤ 1000000000) : n.natAbs.log2 < 1920 := by
  exact Nat.lt_of_lt_of_le (PySem.Flt.log2_lt_of (k := 200) (by omega) (by
      have e2 : (2 : Nat) ^ 200 = 1606938044258990275541962092341162602522202993782792835301376 := by decide
      rw [e2]
      omega)) (by decide)
theorem whl_of {i lo hi : Int} (h : whl (.int i) lo hi = true) : lo ≤ i ∧ i ≤ hi := by
  have e : whl (.int i) lo hi = (decide (lo ≤ i) && decide (i ≤ hi)) := rfl
  rw [e] at h
  simpa using h
theorem c_emp : Str.empty.length ≤ 0 := by decide +kernel
theorem emp_app (x : Str) : TL.tl (Str.empty ++ x) = TL.tl x := by
  rw [TL.tl_append]
  rfl
theorem ok_Bead_str (T : Tx K mg) : FnOk P w K mg base CX0 1 T.A_Bead_str T.fd_Bead_str ["self"] (spShow T.C_Bead strL) := by
  refine T.F_Bead_str.ok sc_Bead_str (fun vs H Q E h => ?_) (fun cdv A outer s H vs Q E hr h => ?_)
  · obtain ⟨p, r, rfl, ⟨dx, hp⟩, ⟨g1, g2, g3, g4, g5⟩, q⟩ := h
    rfl
  obtain ⟨p, r, rfl, ⟨dx, hp⟩, ⟨g1, g2, g3, g4, g5⟩, q⟩ := h
  refine ⟨_, (pss_cons (ps_if (pt_val (pe_fld (pv 0) rfl)) (pss_one (ps_ret (pe_joined (PJ.cons (pe_fmtB (pe_fld (pv 0) rfl)) (PJ.cons pe_str (PJ.cons (pe_fmtB (pe_fld (pv 0) rfl)) (PJ.cons pe_str (PJ.cons (pe_fmtB (pe_fld (pv 0) rfl)) (PJ.cons pe_str (PJ.cons (pe_fmtB (pe_fld (pv 0) rfl)) (PJ.cons pe_str (PJ.cons (pe_fmtB (pe_fld (pv 0) rfl)) (PJ.cons pe_str PJ.nil))))))))))))) pss_nil)
      (pss_one (ps_ret (pe_joined (PJ.cons (pe_fmtB (pe_fld (pv 0) rfl)) (PJ.cons pe_str (PJ.cons (pe_fmtB (pe_fld (pv 0) rfl)) (PJ.cons pe_str (PJ.cons (pe_fmtB (pe_fld (pv 0) rfl)) (PJ.cons pe_str (PJ.cons (pe_fmtB (pe_fld (pv 0) rfl)) (PJ.cons pe_str (PJ.cons (pe_fmtB (pe_fld (pv 0) rfl)) PJ.nil))))))))))))), ?_⟩
  obtain ⟨a1, a2⟩ := whl_of g1
  obtain ⟨a3, a4⟩ := whl_of g2
  obtain ⟨a5, a6⟩ := whl_of g3
  have l1 := num_le (n := r.num) (by omega) a2
  have l2 := num_le (n := r.ac) (by omega) (by omega)
  have l3 := num_le (n := r.we) (by omega) (by omega)
  have l4 := (nm_low g4).1
  have l5 := (nm_low g5).1
  have b1 : (" " : Str).length ≤ 1 := by decide +kernel
  have b2 : ("/" : Str).length ≤ 1 := by decide +kernel
  have b3 : (" drilled" : Str).length ≤ 8 := by decide +kernel
  have c1 := app_le c_emp l1
  have c2 := app_le c1 b1
  have c3 := app_le c2 l2
  have c4 := app_le c3 b2
  have c5 := app_le c4 l3
  have c6 := app_le c5 b1
  have c7 := app_le c6 l4
  have c8 := app_le c7 b1
  have c9 := app_le c8 l5
  have c10 := app_le c9 b3
  refine ⟨_, rfl, p, _, dx, _, _, rfl, hp, T.cl_Bead, T.n_Bead_drilled, bf_drilled r, _, rfl, ?_⟩
  refine ite2 (fun e => ?_) (fun e => ?_)
  · refine ⟨_, rfl, p, _, dx, _, _, rfl, hp, T.cl_Bead, T.n_Bead_number, bf_number r, .inr (.inl ⟨_, rfl, num_log a1 a2, _, rfl, fit c1, _, rfl, fit c2, ?_⟩)⟩
    refine ⟨_, rfl, p, _, dx, _, _, rfl, hp, T.cl_Bead, T.n_Bead_across, bf_across r, .inr (.inl ⟨_, rfl, num_log a3 (by omega), _, rfl, fit c3, _, rfl, fit c4, ?_⟩)⟩
    refine ⟨_, rfl, p, _, dx, _, _, rfl, hp, T.cl_Bead, T.n_Bead_weight, bf_weight r, .inr (.inl ⟨_, rfl, num_log a5 (by omega), _, rfl, fit c5, _, rfl, fit c6, ?_⟩)⟩
    refine ⟨_, rfl, p, _, dx, _, _, rfl, hp, T.cl_Bead, T.n_Bead_shade, bf_shade r, .inl ⟨_, rfl, fit l4, _, rfl, fit c7, _, rfl, fit c8, ?_⟩⟩
    refine ⟨_, rfl, p, _, dx, _, _, rfl, hp, T.cl_Bead, T.n_Bead_form, bf_form r, .inl ⟨_, rfl, fit l5, _, rfl, fit c9, _, rfl, fit c10, ?_⟩⟩
    refine q _ _ ?_ (Nat.le_trans c10 (by decide)) (fun _ _ h => h)
    unfold strL nL
    rw [e, if_pos rfl]
    simp only [TL.tl_append, List.append_assoc]
    rfl
  · refine ⟨_, rfl, p, _, dx, _, _, rfl, hp, T.cl_Bead, T.n_Bead_number, bf_number r, .inr (.inl ⟨_, rfl, num_log a1 a2, _, rfl, fit c1, _, rfl, fit c2, ?_⟩)⟩
    refine ⟨_, rfl, p, _, dx, _, _, rfl, hp, T.cl_Bead, T.n_Bead_across, bf_across r, .inr (.inl ⟨_, rfl, num_log a3 (by omega), _, rfl, fit c3, _, rfl, fit c4, ?_⟩)⟩
    refine ⟨_, rfl, p, _, dx, _, _, rfl, hp, T.cl_Bead, T.n_Bead_weight, bf_weight r, .inr (.inl ⟨_, rfl, num_log a5 (by omega), _, rfl, fit c5, _, rfl, fit c6, ?_⟩)⟩
    refine ⟨_, rfl, p, _, dx, _, _, rfl, hp, T.cl_Bead, T.n_Bead_shade, bf_shade r, .inl ⟨_, rfl, fit l4, _, rfl, fit c7, _, rfl, fit c8, ?_⟩⟩
    refine ⟨_, rfl, p, _, dx, _, _, rfl, hp, T.cl_Bead, T.n_Bead_form, bf_form r, .inl ⟨_, rfl, fit l5, _, rfl, fit c9, ?_⟩⟩
    refine q _ _ ?_ (Nat.le_trans c9 (by decide)) (fun _ _ h => h)
    unfold strL nL
    rw [if_neg e]
    simp only [TL.tl_append, List.append_assoc, List.append_nil]
    rfl
theorem repr_le {z : Str} (h : nm (.str z) = true) : (PySem.reprText z).length ≤ 10 := by
  rw [TL.len_tl, repr_name h, List.length_cons, List.length_append, ← TL.len_tl]
  have := (nm_low h).1
  show z.length + 1 + 1 ≤ 10
  omega
theorem dec_ne (a b : Str) : (!decide (V.str a = V.str b)) = !decide (a = b) := by rw [dec_str6]
theorem join_le {xs : List Str} {m : Nat} (h : xs.length ≤ 3) (hx : ∀ x ∈ xs, x.length ≤ m) : (xs.map (·.length)).sum + xs.length * (", " : Str).length ≤ 3 * m + 6 := by
  have e : (", " : Str).length = 2 := by decide +kernel
  rw [e]
  match xs, h with
  | [], _ => simp
  | [a], _ =>
    have := hx a (by simp)
    simp
    omega
  | [a, b], _ =>
    have := hx a (by simp)
    have := hx b (by simp)
    simp
    omega
  | [a, b, c], _ =>
    have := hx a (by simp)
    have := hx b (by simp)
    have := hx c (by simp)
    simp
    omega
theorem jn_le {xs : List Str} {m : Nat} (h : (xs.map (·.length)).sum + xs.length * (", " : Str).length ≤ m) : (Txt.join ", " xs).length ≤ m := by
  refine Nat.le_trans ?_ h
  rw [TL.len_tl, TL.join_eq, TL.tl_join]
  generalize hL : (", " : Str).length = k
  have hk : (TL.tl (", " : Str)).length = k := by rw [← TL.len_tl]; exact hL
  clear h hL
  induction xs with
  | nil => exact Nat.zero_le _
  | cons a r ih =>
    cases r with
    | nil =>
      simp only [List.map_cons, List.map_nil, TL.joinL, List.sum_cons, List.sum_nil, List.length_cons, List.length_nil]
      rw [← TL.len_tl]
      omega
    | cons b r =>
      have e : TL.joinL (TL.tl ", ") ((a :: b :: r).map TL.tl) = TL.tl a ++ (TL.tl ", " ++ TL.joinL (TL.tl ", ") ((b :: r).map TL.tl)) := rfl
      have e2 : ((a :: b :: r).map (·.length)).sum = a.length + ((b :: r).map (·.length)).sum := List.sum_cons
      have e3 : (a :: b :: r).length * k = (b :: r).length * k + k := by rw [List.length_cons, Nat.add_mul, Nat.one_mul]
      rw [e, List.length_append, List.length_append, hk, e2, e3, ← TL.len_tl]
      omega
theorem ok_Bead_repr (T : Tx K mg) : FnOk P w K mg base CX0 1 T.A_Bead_repr T.fd_Bead_repr ["self"] (spShow T.C_Bead reprL) := by
  refine T.F_Bead_repr.ok sc_Bead_repr (fun vs H Q E h => ?_) (fun cdv A outer s H vs Q E hr h => ?_)
  · obtain ⟨p, r, rfl, ⟨dx, hp⟩, ⟨g1, g2, g3, g4, g5⟩, q⟩ := h
    rfl
  obtain ⟨p, r, rfl, ⟨dx, hp⟩, ⟨g1, g2, g3, g4, g5⟩, q⟩ := h
  refine ⟨_, (pss_cons (ps_set (i := 1) sc_Bead_repr.nd rfl (Or.inl rfl) (pe_lst (pa_cons (pe_joined (PJ.cons (pe_fmtB (pe_fld (pv 0) rfl)) (PJ.cons pe_str (PJ.cons (pe_fmtB (pe_fld (pv 0) rfl)) (PJ.cons pe_str (PJ.cons (pe_fmtB (pe_fld (pv 0) rfl)) (PJ.cons pe_str (PJ.cons (pe_fmtR (pe_fld (pv 0) rfl)) PJ.nil)))))))) pa_nil)))
      (pss_cons (ps_if (pt_cmpR op_ne (pe_fld (pv 0) rfl) pe_str (nomark _)) (pss_one (ps_expr (pe_bm PySem.F.plainAttrs_list PySem.F.slot_list_append PySem.F.type_list_append mt_append (pv 1) (pa_cons (pe_joined (PJ.cons pe_str (PJ.cons (pe_fmtR (pe_fld (pv 0) rfl)) PJ.nil))) pa_nil)))) pss_nil)
      (pss_cons (ps_if (pt_val (pe_fld (pv 0) rfl)) (pss_one (ps_expr (pe_bm PySem.F.plainAttrs_list PySem.F.slot_list_append PySem.F.type_list_append mt_append (pv 1) (pa_cons pe_str pa_nil)))) pss_nil)
      (pss_one (ps_ret (pe_joined (PJ.cons pe_str (PJ.cons (pe_fmtB (pe_bm PySem.F.plainAttrs_str PySem.F.slot_str_join PySem.F.type_str_join mt_join pe_str (pa_cons (pv 1) pa_nil))) (PJ.cons pe_str PJ.nil))))))))), ?_⟩
  obtain ⟨a1, a2⟩ := whl_of g1
  obtain ⟨a3, a4⟩ := whl_of g2
  obtain ⟨a5, a6⟩ := whl_of g3
  have l1 := num_le (n := r.num) (by omega) a2
  have l2 := num_le (n := r.ac) (by omega) (by omega)
  have l3 := num_le (n := r.we) (by omega) (by omega)
  have l4 := repr_le g4
  have l5 := repr_le g5
  have b1 : (", " : Str).length ≤ 2 := by decide +kernel
  have b2 : ("form=" : Str).length ≤ 5 := by decide +kernel
  have c1 := app_le c_emp l1
  have c2 := app_le c1 b1
  have c3 := app_le c2 l2
  have c4 := app_le c3 b1
  have c5 := app_le c4 l3
  have c6 := app_le c5 b1
  have c7 := app_le c6 l4
  refine ⟨_, rfl, p, _, dx, _, _, rfl, hp, T.cl_Bead, T.n_Bead_number, bf_number r, .inr (.inl ⟨_, rfl, num_log a1 a2, _, rfl, fit c1, _, rfl, fit c2, ?_⟩)⟩
  refine ⟨_, rfl, p, _, dx, _, _, rfl, hp, T.cl_Bead, T.n_Bead_across, bf_across r, .inr (.inl ⟨_, rfl, num_log a3 (by omega), _, rfl, fit c3, _, rfl, fit c4, ?_⟩)⟩
  refine ⟨_, rfl, p, _, dx, _, _, rfl, hp, T.cl_Bead, T.n_Bead_weight, bf_weight r, .inr (.inl ⟨_, rfl, num_log a5 (by omega), _, rfl, fit c5, _, rfl, fit c6, ?_⟩)⟩
  refine ⟨_, rfl, p, _, dx, _, _, rfl, hp, T.cl_Bead, T.n_Bead_shade, bf_shade r, .inl ⟨_, rfl, fit l4, _, rfl, fit c7, ?_⟩⟩
  refine ⟨(by show 1 ≤ sizeLine; decide), fun l hl => ?_⟩
  have c8 := app_le (app_le c_emp b2) l5
  have b3 : ("drilled=True" : Str).length ≤ 12 := by decide +kernel
  have d1 := app_le c_emp (show ("Bead(" : Str).length ≤ 5 by decide +kernel)
  have bb : (")" : Str).length ≤ 1 := by decide +kernel
  have e0 : (upd H l (.lst [V.str (Str.empty ++ Str.ofString (toString r.num) ++ ", " ++ Str.ofString (toString r.ac) ++ ", " ++ Str.ofString (toString r.we) ++ ", " ++ PySem.reprText r.sh)])) p = some (.ins T.C_Bead dx (bf r)) := by rw [upd_ne (ne_of_none hp hl)]; exact hp
  have t0 : TL.tl (Str.empty ++ Str.ofString (toString r.num) ++ ", " ++ Str.ofString (toString r.ac) ++ ", " ++ Str.ofString (toString r.we) ++ ", " ++ PySem.reprText r.sh) = nL r.num ++ (TL.tl ", " ++ (nL r.ac ++ (TL.tl ", " ++ (nL r.we ++ (TL.tl ", " ++ ([39] ++ (TL.tl r.sh ++ [39]))))))) := by
    unfold nL
    simp only [TL.tl_append, List.append_assoc, repr_name g4]
    rfl
  have t1 : TL.tl (Str.empty ++ "form=" ++ PySem.reprText r.fo) = TL.tl "form=" ++ ([39] ++ (TL.tl r.fo ++ [39])) := by
    simp only [TL.tl_append, List.append_assoc, repr_name g5]
    rfl
  generalize Str.empty ++ Str.ofString (toString r.num) ++ ", " ++ Str.ofString (toString r.ac) ++ ", " ++ Str.ofString (toString r.we) ++ ", " ++ PySem.reprText r.sh = S0 at c7 e0 t0 ⊢
  generalize hS1 : Str.empty ++ "form=" ++ PySem.reprText r.fo = S1 at c8 t1
  have sl := same_upd hl (o := .lst [V.str S0])
  refine ⟨_, rfl, p, _, dx, _, _, rfl, e0, T.cl_Bead, T.n_Bead_form, bf_form r, rfl, _, rfl, ?_⟩
  rw [show decide (V.str r.fo = V.str "round") = decide (r.fo = "round") from dec_str6 _ _]
  have fe : (if r.fo = "round" then ([] : List Nat) else TL.tl ", form=" ++ ([39] ++ (TL.tl r.fo ++ [39]))) = if decide (r.fo = "round") then [] else TL.tl ", form=" ++ ([39] ++ (TL.tl r.fo ++ [39])) := by
    by_cases h : r.fo = "round"
    · rw [if_pos h, if_pos (decide_eq_true h)]
    · rw [if_neg h, if_neg (by simpa using h)]
  have tf : TL.tl (", form=" : Str) = TL.tl ", " ++ TL.tl "form=" := by decide +kernel
  have td : TL.tl (", drilled=True" : Str) = TL.tl ", " ++ TL.tl "drilled=True" := by decide +kernel
  unfold reprL at q
  rw [fe, tf, td] at q
  generalize decide (r.fo = "round") = rd at q ⊢
  cases rd with
  | true =>
    refine iteF ⟨_, rfl, p, _, dx, _, _, rfl, e0, T.cl_Bead, T.n_Bead_drilled, bf_drilled r, _, rfl, ite2 (fun e => ?_) (fun e => ?_)⟩
    · rw [e] at q
      refine ⟨_, rfl, .inl ⟨rfl, _, SqL.of upd_same⟩, l, _, _, rfl, rfl, upd_same, (by show 1 < sizeLine; decide), ?_⟩
      have jl := join_le (xs := [S0, "drilled=True"]) (m := 300) (by simp) (fun x hx => by
        simp only [List.mem_cons, List.not_mem_nil, or_false] at hx
        rcases hx with rfl | rfl
        · exact Nat.le_trans c7 (by decide)
        · exact Nat.le_trans b3 (by decide))
      have jt := jn_le jl
      refine ⟨_, rfl, fit d1, rfl, _, rfl, _, l, [S0, "drilled=True"], rfl, rfl, .inl (SqL.of upd_same), Nat.le_trans jl (by decide), .inl ⟨_, rfl, fit jt, _, rfl, fit (app_le d1 jt), _, rfl, fit (app_le (app_le d1 jt) bb), ?_⟩⟩
      refine q _ _ ?_ (Nat.le_trans (app_le (app_le d1 jt) bb) (by decide)) (fun b o h => by have nb := ne_of_none h hl; simp only [upd_ne nb]; exact h)
      rw [TL.tl_append, TL.tl_append, TL.join_eq, TL.tl_join]
      simp only [List.map_cons, List.map_nil, TL.joinL, t0, t1, List.append_assoc, if_true, if_false, Bool.false_eq_true, List.nil_append, List.append_nil, emp_app]
      rfl
    · rw [Bool.not_eq_true] at e
      rw [e] at q
      have jl := join_le (xs := [S0]) (m := 300) (by simp) (fun x hx => by
        simp only [List.mem_cons, List.not_mem_nil, or_false] at hx
        rcases hx with rfl
        · exact Nat.le_trans c7 (by decide))
      have jt := jn_le jl
      refine ⟨_, rfl, fit d1, rfl, _, rfl, _, l, [S0], rfl, rfl, .inl (SqL.of upd_same), Nat.le_trans jl (by decide), .inl ⟨_, rfl, fit jt, _, rfl, fit (app_le d1 jt), _, rfl, fit (app_le (app_le d1 jt) bb), ?_⟩⟩
      refine q _ _ ?_ (Nat.le_trans (app_le (app_le d1 jt) bb) (by decide)) (fun b o h => by have nb := ne_of_none h hl; simp only [upd_ne nb]; exact h)
      rw [TL.tl_append, TL.tl_append, TL.join_eq, TL.tl_join]
      simp only [List.map_cons, List.map_nil, TL.joinL, t0, t1, List.append_assoc, if_true, if_false, Bool.false_eq_true, List.nil_append, List.append_nil, emp_app]
      rfl
  | false =>
    refine iteT ⟨_, rfl, .inl ⟨rfl, _, SqL.of upd_same⟩, _, rfl, fit (app_le c_emp b2), _, rfl, p, _, dx, _, _, rfl, e0, T.cl_Bead, T.n_Bead_form, bf_form r, .inl ⟨_, rfl, fit l5, _, rfl, (by rw [hS1]; exact fit c8), l, _, _, rfl, rfl, upd_same, (by show 1 < sizeLine; decide), ?_⟩⟩
    rw [hS1]
    have e1 : (upd (upd H l (.lst [V.str S0])) l (.lst ([V.str S0] ++ [V.str S1]))) p = some (.ins T.C_Bead dx (bf r)) := by rw [upd_ne (ne_of_none hp hl)]; exact e0
    refine ⟨_, rfl, p, _, dx, _, _, rfl, e1, T.cl_Bead, T.n_Bead_drilled, bf_drilled r, _, rfl, ite2 (fun e => ?_) (fun e => ?_)⟩
    · rw [e] at q
      refine ⟨_, rfl, .inl ⟨rfl, _, SqL.of upd_same⟩, l, _, _, rfl, rfl, upd_same, (by show 2 < sizeLine; decide), ?_⟩
      have jl := join_le (xs := [S0, S1, "drilled=True"]) (m := 300) (by simp) (fun x hx => by
        simp only [List.mem_cons, List.not_mem_nil, or_false] at hx
        rcases hx with rfl | rfl | rfl
        · exact Nat.le_trans c7 (by decide)
        · exact Nat.le_trans c8 (by decide)
        · exact Nat.le_trans b3 (by decide))
      have jt := jn_le jl
      refine ⟨_, rfl, fit d1, rfl, _, rfl, _, l, [S0, S1, "drilled=True"], rfl, rfl, .inl (SqL.of upd_same), Nat.le_trans jl (by decide), .inl ⟨_, rfl, fit jt, _, rfl, fit (app_le d1 jt), _, rfl, fit (app_le (app_le d1 jt) bb), ?_⟩⟩
      refine q _ _ ?_ (Nat.le_trans (app_le (app_le d1 jt) bb) (by decide)) (fun b o h => by have nb := ne_of_none h hl; simp only [upd_ne nb]; exact h)
      rw [TL.tl_append, TL.tl_append, TL.join_eq, TL.tl_join]
      simp only [List.map_cons, List.map_nil, TL.joinL, t0, t1, List.append_assoc, if_true, if_false, Bool.false_eq_true, List.nil_append, List.append_nil, emp_app]
      rfl
    · rw [Bool.not_eq_true] at e
      rw [e] at q
      have jl := join_le (xs := [S0, S1]) (m := 300) (by simp) (fun x hx => by
        simp only [List.mem_cons, List.not_mem_nil, or_false] at hx
        rcases hx with rfl | rfl
        · exact Nat.le_trans c7 (by decide)
        · exact Nat.le_trans c8 (by decide))
      have jt := jn_le jl
      refine ⟨_, rfl, fit d1, rfl, _, rfl, _, l, [S0, S1], rfl, rfl, .inl (SqL.of upd_same), Nat.le_trans jl (by decide), .inl ⟨_, rfl, fit jt, _, rfl, fit (app_le d1 jt), _, rfl, fit (app_le (app_le d1 jt) bb), ?_⟩⟩
      refine q _ _ ?_ (Nat.le_trans (app_le (app_le d1 jt) bb) (by decide)) (fun b o h => by have nb := ne_of_none h hl; simp only [upd_ne nb]; exact h)
      rw [TL.tl_append, TL.tl_append, TL.join_eq, TL.tl_join]
      simp only [List.map_cons, List.map_nil, TL.joinL, t0, t1, List.append_assoc, if_true, if_false, Bool.false_eq_true, List.nil_append, List.append_nil, emp_app]
      rfl
theorem beadAt_same {C : Addr} {H H' : Hp} {p : Addr} {r : Rw} (s : NL H H') (h : BeadAt C H p r) : BeadAt C H' p r := by
  obtain ⟨dx, e⟩ := h
  exact ⟨dx, s _ _ (fun _ z => by cases z) e⟩
def spBeadOf (K : PySem.W.Frag) (C : Addr) : Sp := fun vs H Q _ => ∃ (t : Addr) (r : Rw), vs = [.ref t] ∧ H t = some (.tup (rowVals r)) ∧ GoodRw r ∧ ∀ (H' : Hp) (p : Addr), Same H H' → H p = none → BeadAt C H' p r → Q (.ref p) H'
theorem ok_bead_of (T : Tx K mg) : FnOk P w K mg base CX0 6 T.A_bead_of T.fd_bead_of ["row"] (spBeadOf K T.C_Bead) := by
  refine T.F_bead_of.ok sc_bead_of (fun vs H Q E h => ?_) (fun cdv A outer s H vs Q E hr h => ?_)
  · obtain ⟨t, r, rfl, ht, hG, q⟩ := h
    rfl
  obtain ⟨t, r, rfl, ht, hG, q⟩ := h
  refine ⟨_, (pss_cons (ps_if (PW.pt (pw_or (pt_not (pt_val (pe_callB call_isi (by rfl) T.z_isinstance (by decide +kernel) (pa_cons (pv 0) (pa_cons (pe_bltn (v := .ty "tuple") (by rfl) T.z_tuple (by decide +kernel) rfl) pa_nil))))) (pw_or1 (pt_cmpR op_ne (pe_callB call_len_seq (by rfl) T.z_len PySem.boot_len (pa_cons (pv 0) pa_nil)) (pe_glob (v := .int 6) (by rfl) T.g_ROW_LENGTH ⟨_, rfl⟩) (nomark _))))) (pss_one ps_never) pss_nil)
      (pss_cons (ps_asg (pv 0) (pg_tup (by rfl) (pgs_cons (pg_name (i := 1) sc_bead_of.nd rfl (Or.inl rfl)) (pgs_cons (pg_name (i := 2) sc_bead_of.nd rfl (Or.inl rfl)) (pgs_cons (pg_name (i := 3) sc_bead_of.nd rfl (Or.inl rfl)) (pgs_cons (pg_name (i := 4) sc_bead_of.nd rfl (Or.inl rfl)) (pgs_cons (pg_name (i := 5) sc_bead_of.nd rfl (Or.inl rfl)) (pgs_cons (pg_name (i := 6) sc_bead_of.nd rfl (Or.inl rfl)) pgs_nil))))))))
      (pss_one (ps_ret (pe_make T.mk_Bead (ok_Bead_init T) (hr.mono (by decide)) (by rfl) T.g_Bead T.b_Bead_init .nil pass0 (pa_cons (pv 1) (pa_cons (pv 2) (pa_cons (pv 3) (pa_cons (pv 4) (pa_cons (pv 5) (pa_cons (pv 6) pa_nil))))))))))), ?_⟩
  refine ⟨_, rfl, _, _, _, _, _, rfl, .ty _, .base (.tup ht), kit_ty (r := true) (by decide +kernel), _, rfl, iteF ?_⟩
  refine ⟨_, rfl, _, _, rfl, .inr (.inl (.inl ht)), rfl, _, rfl, ?_⟩
  rw [decide_eq_true (show V.int (((rowVals r).length : Nat) : Int) = V.int 6 from rfl)]
  refine iteF ⟨_, rfl, t, _, rfl, .inl (.inl ht), rfl, ?_⟩
  refine ⟨_, _, rfl, _, _, rfl, _, _, rfl, _, _, rfl, _, _, rfl, _, _, rfl, rfl, ?_⟩
  refine ⟨_, rfl, _, rfl, _, rfl, _, rfl, _, rfl, _, rfl, ?_⟩
  intro p dx np ndx ne
  exact ⟨p, dx, r, rfl, upd_same, hG, fun H1 h1 k1 => ⟨rfl, q H1 p (made_same np ndx k1) np h1⟩⟩
end
end KB
namespace KB
open PySem PySem.Spec PyProof.Rows L2 KA
section
variable {P : Program} {w : World} {K : PySem.W.Frag} {mg : Str → Option Value} {base : Heap}
def PM : Int → Prop := fun b => 0 ≤ b ∧ b < 2147483647
def spDraws : Sp := fun vs H Q _ => ∃ (n : Int), vs = [.int n] ∧ ∀ (d : Addr) (H' : Hp), H d = none → Same H H' → Dr PM d 0 H' → Q (.ref d) H'
theorem at2 {a b : V} {i : Int} (h0 : 0 ≤ i) (h1 : i < 2) : ∃ v, atI [a, b] i = some v ∧ (v = a ∨ v = b) := by
  rcases (by omega : i = 0 ∨ i = 1) with rfl | rfl
  · exact ⟨a, rfl, .inl rfl⟩
  · exact ⟨b, rfl, .inr rfl⟩
theorem ok_draws (T : Tx K mg) : FnOk P w K mg base CX0 1 T.A_draws T.fd_draws ["_law_cell"] (spDraws) := by
  refine T.F_draws.ok sc_draws (fun vs H Q E h => ?_) (fun cdv A outer s H vs Q E hr h => ?_)
  · obtain ⟨n, rfl, q⟩ := h
    rfl
  obtain ⟨n, rfl, q⟩ := h
  refine ⟨_, (pss_one (ps_ret (pe_lst (pa_cons (pe_ix ix_list (pe_lst (pa_cons (pe_callB (call_max2 rfl) (by rfl) T.z_max (by decide +kernel) (pa_cons pe_int (pa_cons (pe_op op_fdiv (pv 0) pe_int) pa_nil))) (pa_cons pe_int pa_nil))) (pe_op op_mod (pv 0) pe_int) (fun _ _ => rfl)) (pa_cons (pe_op op_mod (pv 0) pe_int) (pa_cons pe_int pa_nil)))))), ?_⟩
  refine ⟨_, rfl, _, _, rfl, rfl, ⟨by decide, by decide⟩, _, _, rfl, (by show 2 ≤ sizeLine; decide), fun l hl => ?_⟩
  obtain ⟨v, hat, hv⟩ := at2 (a := V.int (if n / 2 > 0 then n / 2 else 0)) (b := V.int 0) (Int.emod_nonneg n (by decide : (2 : Int) ≠ 0)) (Int.emod_lt_of_pos n (by decide : (0 : Int) < 2))
  obtain ⟨x, rfl⟩ : ∃ x, v = V.int x := by
    rcases hv with rfl | rfl
    · exact ⟨_, rfl⟩
    · exact ⟨_, rfl⟩
  refine ⟨_, rfl, _, _, rfl, rfl, (by show (0 : Int) < 2; decide), l, _, _, _, rfl, rfl, SqL.of upd_same, hat, ?_⟩
  refine ⟨_, rfl, _, _, rfl, rfl, (by show (0 : Int) < 2147483647; decide), (by show 3 ≤ sizeLine; decide), fun d hd => ?_⟩
  have nd : H d = none := by
    by_cases e : d = l
    · rw [e]; exact hl
    · rw [upd_ne e] at hd; exact hd
  exact q d _ nd ((same_upd hl).trans (same_upd hd)) ⟨_, _, _, upd_same, ⟨Int.emod_nonneg _ (by decide), Int.emod_lt_of_pos _ (by decide)⟩, Int.le_refl _, Int.le_refl _⟩
def spOne : Sp := fun vs H Q _ => ∃ (d : Addr) (m : Int) (n : Nat), vs = [.ref d, .int m] ∧ 0 < m ∧ m.natAbs.log2 < 9000 ∧ Dr PM d n H ∧ n ≤ 1000000 ∧
  ∀ (H' : Hp) (r : Int), 0 ≤ r → r < m → But d H H' → Dr PM d (n + 1) H' → Q (.int r) H'
theorem ok_next (T : Tx K mg) : FnOk P w K mg base CX0 1 T.A_next T.fd_next ["_law_draws_here", "_law_size"] (spOne) := by
  refine T.F_next.ok sc_next (fun vs H Q E h => ?_) (fun cdv A outer s H vs Q E hr h => ?_)
  · obtain ⟨d, m, n, rfl, hm, hl, ⟨a, b, c, hd, ⟨hb0, hb1⟩, hc0, hc1⟩, hn, q⟩ := h
    rfl
  obtain ⟨d, m, n, rfl, hm, hl, ⟨a, b, c, hd, ⟨hb0, hb1⟩, hc0, hc1⟩, hn, q⟩ := h
  refine ⟨_, (pss_cons (ps_if (pt_cmpR op_gt (pe_ix ix_list (pv 0) pe_int (fun _ _ => rfl)) pe_int (nomark _)) (pss_cons (ps_set (i := 2) sc_next.nd rfl (Or.inl rfl) (pe_op op_mod (pe_ix ix_list (pv 0) pe_int (fun _ _ => rfl)) (pv 1)))
      (pss_cons (ps_asg (pe_op op_fdivW (pe_ix ix_list (pv 0) pe_int (fun _ _ => rfl)) (pv 1)) (pg_sub (pv 0) pe_int set_list))
      (pss_one (ps_ret (pv 2))))) pss_nil)
      (pss_cons (ps_asg (pe_op op_add (pe_ix ix_list (pv 0) pe_int (fun _ _ => rfl)) pe_int) (pg_sub (pv 0) pe_int set_list))
      (pss_cons (ps_set (i := 3) sc_next.nd rfl (Or.inl rfl) (pe_op op_mod (pe_op op_pow (pe_op op_add (pe_op op_add (pe_ix ix_list (pv 0) pe_int (fun _ _ => rfl)) (pe_op op_mul pe_int (pe_ix ix_list (pv 0) pe_int (fun _ _ => rfl)))) pe_int) pe_int) pe_int))
      (pss_cons (ps_set (i := 3) sc_next.nd rfl (Or.inl rfl) (pe_op op_mod (pe_op op_mul (pv 3) (pe_op op_add (pe_op op_add (pe_op op_fdiv (pv 3) pe_int) pe_int) (pe_ix ix_list (pv 0) pe_int (fun _ _ => rfl)))) pe_int))
      (pss_one (ps_ret (pe_op op_mod (pe_op op_mod (pe_op op_mul (pv 3) (pe_op op_add (pe_op op_fdiv (pv 3) pe_int) pe_int)) pe_int) (pv 1)))))))), ?_⟩
  refine ⟨_, rfl, d, _, _, _, rfl, rfl, SqL.of hd, atI_nat (j := 0) rfl, _, _, rfl, rfl, _, rfl, ite2 (fun e => ?_) (fun e => ?_)⟩
  · refine ⟨_, rfl, d, _, _, _, rfl, rfl, SqL.of hd, atI_nat (j := 0) rfl, _, rfl, _, _, rfl, rfl, hm, ?_⟩
    refine ⟨_, rfl, d, _, _, _, rfl, rfl, SqL.of hd, atI_nat (j := 0) rfl, _, rfl, _, _, rfl, rfl, ⟨hm, hl⟩, ?_⟩
    refine ⟨_, rfl, d, _, _, 0, rfl, rfl, hd, rfl, ?_⟩
    exact ⟨_, rfl, q _ _ (Int.emod_nonneg _ (by omega)) (Int.emod_lt_of_pos _ hm) But.at_ ⟨_, _, _, upd_same, ⟨hb0, hb1⟩, hc0, by omega⟩⟩
  · refine ⟨_, rfl, d, _, _, _, rfl, rfl, SqL.of hd, atI_nat (j := 2) rfl, _, _, rfl, rfl, ?_⟩
    refine ⟨_, rfl, d, _, _, 2, rfl, rfl, hd, rfl, ?_⟩
    have hd' : (upd H d (.lst [.int a, .int b, .int (c + 1)])) d = some (.lst [.int a, .int b, .int (c + 1)]) := upd_same
    refine ⟨_, rfl, d, _, _, _, rfl, rfl, SqL.of hd', atI_nat (j := 1) rfl, _, rfl, d, _, _, _, rfl, rfl, SqL.of hd', atI_nat (j := 2) rfl, _, _, rfl, rfl, .inl ⟨by decide, by decide⟩, _, _, rfl, rfl, _, _, rfl, rfl, _, _, rfl, rfl, ⟨by decide, by decide, ?_⟩, _, _, rfl, rfl, (by show (0 : Int) < 2147483647; decide), ?_⟩
    · have e64 : (2 : Nat) ^ 64 = 18446744073709551616 := by decide
      rw [e64]
      omega
    · generalize hx : (b + 7919 * (c + 1) + 1) ^ (5 : Int).toNat % 2147483647 = x
      have hx0 : 0 ≤ x := by rw [← hx]; exact Int.emod_nonneg _ (by decide)
      have hx1 : x < 2147483647 := by rw [← hx]; exact Int.emod_lt_of_pos _ (by decide)
      have e64 : (2 : Int) ^ 64 = 18446744073709551616 := by decide
      refine ⟨_, rfl, _, rfl, _, _, rfl, rfl, ⟨by decide, by decide⟩, _, _, rfl, rfl, _, rfl, d, _, _, _, rfl, rfl, SqL.of hd', atI_nat (j := 2) rfl, _, _, rfl, rfl, _, _, rfl, rfl, .inl ⟨?_, ?_⟩, _, _, rfl, rfl, (by show (0 : Int) < 2147483629; decide), ?_⟩
      · rw [e64]; omega
      · rw [e64]; omega
      · generalize hy : x * (x / 1009 + 69621 + (c + 1)) % 2147483629 = y
        have hy0 : 0 ≤ y := by rw [← hy]; exact Int.emod_nonneg _ (by decide)
        have hy1 : y < 2147483629 := by rw [← hy]; exact Int.emod_lt_of_pos _ (by decide)
        refine ⟨_, rfl, _, rfl, _, _, rfl, rfl, ⟨by decide, by decide⟩, _, _, rfl, rfl, _, _, rfl, rfl, .inl ⟨?_, ?_⟩, _, _, rfl, rfl, (by show (0 : Int) < 2147483399; decide), _, rfl, _, _, rfl, rfl, hm, ?_⟩
        · rw [e64]; omega
        · rw [e64]; omega
        · exact q _ _ (Int.emod_nonneg _ (by omega)) (Int.emod_lt_of_pos _ hm) But.at_ ⟨_, _, _, upd_same, ⟨hb0, hb1⟩, by omega, by omega⟩
def spNumber : Sp := fun vs H Q _ => ∃ (d : Addr) (n : Nat), vs = [.ref d] ∧ Dr PM d n H ∧ n ≤ 100000 ∧
  ∀ (H' : Hp) (x : Int), -1000000 ≤ x → x ≤ 1000000 → But d H H' → Dr PM d (n + 3) H' → Q (.int x) H'
theorem ok_number (T : Tx K mg) : FnOk P w K mg base CX0 2 T.A_number T.fd_number ["_law_draws_here"] (spNumber) := by
  refine T.F_number.ok sc_number (fun vs H Q E h => ?_) (fun cdv A outer s H vs Q E hr h => ?_)
  · obtain ⟨d, n, rfl, dr, hn, q⟩ := h
    rfl
  obtain ⟨d, n, rfl, dr, hn, q⟩ := h
  refine ⟨_, (pss_one (ps_ret (pe_ix ix_list (pe_lst (pa_cons (pe_op op_sub (pe_call (ok_next T) (hr.mono (by decide)) (by rfl) T.g_next T.F_next.kp T.b_next .nil pass0 (pa_cons (pv 0) (pa_cons pe_int pa_nil))) pe_int) (pa_cons (pe_op op_add pe_int (pe_call (ok_next T) (hr.mono (by decide)) (by rfl) T.g_next T.F_next.kp T.b_next .nil pass0 (pa_cons (pv 0) (pa_cons (pe_op op_pow pe_int pe_int) pa_nil)))) pa_nil))) (pe_op op_fdiv (pe_call (ok_next T) (hr.mono (by decide)) (by rfl) T.g_next T.F_next.kp T.b_next .nil pass0 (pa_cons (pv 0) (pa_cons pe_int pa_nil))) pe_int) (fun _ _ => rfl)))), ?_⟩
  have e6 : (10 : Int) ^ (6 : Int).toNat = 1000000 := by decide
  refine ⟨_, rfl, d, 13, n, rfl, by decide, log_tiny (by decide) (by decide), dr, by omega, fun H1 r1 a1 c1 b1 dr1 => ⟨_, _, rfl, rfl, ?_⟩⟩
  refine ⟨_, rfl, _, _, rfl, rfl, ⟨by decide, by decide, by decide⟩, d, _, n + 1, rfl, by decide, log_tiny (by decide) (by decide), dr1, by omega, fun H2 r2 a2 c2 b2 dr2 => ⟨_, _, rfl, rfl, ?_⟩⟩
  refine ⟨(by show 2 ≤ sizeLine; decide), fun l hl => ?_⟩
  have nl := dr2.ne hl
  refine ⟨_, rfl, d, 4, n + 2, rfl, by decide, log_tiny (by decide) (by decide), dr2.upd nl, by omega, fun H3 r3 a3 c3 b3 dr3 => ⟨_, _, rfl, rfl, ⟨by decide, by decide⟩, ?_⟩⟩
  obtain ⟨v, hat, hv⟩ := at2 (a := V.int (r1 - 3)) (b := V.int (1 + r2)) (i := r3 / 3) (by omega) (by omega)
  rw [e6] at c2
  have bt : But d H H3 := (b1.trans b2).trans ((But.new hl).trans b3)
  refine ⟨l, _, _, v, rfl, rfl, SqL.of (b3 _ _ nl upd_same), hat, ?_⟩
  rcases hv with rfl | rfl
  · exact q H3 _ (by omega) (by omega) bt dr3
  · exact q H3 _ (by omega) (by omega) bt dr3
def spRowL : Sp := fun vs H Q _ => ∃ (d wl : Addr) (n : Nat) (k ac : Int) (w0 w1 w2 w3 : Str), vs = [.ref d, .int k, .ref wl, .int ac] ∧ Dr PM d n H ∧ n ≤ 100000 ∧ wl ≠ d ∧ H wl = some (.lst [.str w0, .str w1, .str w2, .str w3]) ∧ nm (.str w0) = true ∧ nm (.str w1) = true ∧ nm (.str w2) = true ∧ nm (.str w3) = true ∧
  1 ≤ k ∧ k ≤ 1000000000 ∧ 1 ≤ ac ∧ ac ≤ 1000000 ∧ ∀ (H' : Hp) (t : Addr) (r : Rw), GoodRw r → H' t = some (.tup (rowVals r)) → But d H H' → Dr PM d (n + 6) H' → Q (.ref t) H'
theorem whl_mk {i lo hi : Int} (h1 : lo ≤ i) (h2 : i ≤ hi) : whl (.int i) lo hi = true := by
  have e : whl (.int i) lo hi = (decide (lo ≤ i) && decide (i ≤ hi)) := rfl
  rw [e, decide_eq_true h1, decide_eq_true h2]
  rfl
theorem nm_round : nm (.str "round") = true := by decide +kernel
theorem at3 {a b c : V} {i : Int} (h0 : 0 ≤ i) (h1 : i < 3) : ∃ v, atI [a, b, c] i = some v ∧ (v = a ∨ v = b ∨ v = c) := by
  rcases (by omega : i = 0 ∨ i = 1 ∨ i = 2) with rfl | rfl | rfl
  · exact ⟨a, rfl, .inl rfl⟩
  · exact ⟨b, rfl, .inr (.inl rfl)⟩
  · exact ⟨c, rfl, .inr (.inr rfl)⟩
theorem ok_row (T : Tx K mg) : FnOk P w K mg base CX0 2 T.A_row T.fd_row ["_law_draws_here", "_law_number_here", "_law_words_here", "_law_across"] (spRowL) := by
  refine T.F_row.ok sc_row (fun vs H Q E h => ?_) (fun cdv A outer s H vs Q E hr h => ?_)
  · obtain ⟨d, wl, n, k, ac, w0, w1, w2, w3, rfl, dr, hn, nwl, hw, g0, g1, g2, g3, k1, k2, a1, a2, q⟩ := h
    rfl
  obtain ⟨d, wl, n, k, ac, w0, w1, w2, w3, rfl, dr, hn, nwl, hw, g0, g1, g2, g3, k1, k2, a1, a2, q⟩ := h
  refine ⟨_, (pss_cons (ps_set (i := 4) sc_row.nd rfl (Or.inl rfl) (pe_ix ix_list (pe_lst (pa_cons (pe_op op_add pe_int (pe_call (ok_next T) (hr.mono (by decide)) (by rfl) T.g_next T.F_next.kp T.b_next .nil pass0 (pa_cons (pv 0) (pa_cons pe_int pa_nil)))) (pa_cons (pe_op op_sub (pe_op op_pow pe_int pe_int) (pe_call (ok_next T) (hr.mono (by decide)) (by rfl) T.g_next T.F_next.kp T.b_next .nil pass0 (pa_cons (pv 0) (pa_cons pe_int pa_nil)))) pa_nil))) (pe_op op_fdiv (pe_call (ok_next T) (hr.mono (by decide)) (by rfl) T.g_next T.F_next.kp T.b_next .nil pass0 (pa_cons (pv 0) (pa_cons pe_int pa_nil))) pe_int) (fun _ _ => rfl)))
      (pss_cons (ps_set (i := 5) sc_row.nd rfl (Or.inl rfl) (pe_ix ix_list (pe_lst (pa_cons (pe_ix ix_list (pv 2) pe_int (fun _ _ => rfl)) (pa_cons pe_str (pa_cons (pe_ix ix_list (pv 2) pe_int (fun _ _ => rfl)) pa_nil)))) (pe_call (ok_next T) (hr.mono (by decide)) (by rfl) T.g_next T.F_next.kp T.b_next .nil pass0 (pa_cons (pv 0) (pa_cons pe_int pa_nil))) (fun _ _ => rfl)))
      (pss_one (ps_ret (pe_tup (pa_cons (pv 1) (pa_cons (pv 3) (pa_cons (pv 4) (pa_cons (pe_ix ix_list (pv 2) (pe_call (ok_next T) (hr.mono (by decide)) (by rfl) T.g_next T.F_next.kp T.b_next .nil pass0 (pa_cons (pv 0) (pa_cons pe_int pa_nil))) (fun _ _ => rfl)) (pa_cons (pv 5) (pa_cons (pe_cmpR op_eq (pe_call (ok_next T) (hr.mono (by decide)) (by rfl) T.g_next T.F_next.kp T.b_next .nil pass0 (pa_cons (pv 0) (pa_cons pe_int pa_nil))) pe_int (nomark _)) pa_nil))))))))))), ?_⟩
  have e6 : (10 : Int) ^ (6 : Int).toNat = 1000000 := by decide
  refine ⟨_, rfl, d, 40, n, rfl, by decide, log_tiny (by decide) (by decide), dr, by omega, fun H1 r1 u1 c1 b1 dr1 => ⟨_, _, rfl, rfl, ?_⟩⟩
  refine ⟨_, _, rfl, rfl, ⟨by decide, by decide, by decide⟩, _, rfl, d, 9, n + 1, rfl, by decide, log_tiny (by decide) (by decide), dr1, by omega, fun H2 r2 u2 c2 b2 dr2 => ⟨_, _, rfl, rfl, ?_⟩⟩
  refine ⟨(by show 2 ≤ sizeLine; decide), fun l hl => ?_⟩
  have nl := dr2.ne hl
  refine ⟨_, rfl, d, 6, n + 2, rfl, by decide, log_tiny (by decide) (by decide), dr2.upd nl, by omega, fun H3 r3 u3 c3 b3 dr3 => ⟨_, _, rfl, rfl, ⟨by decide, by decide⟩, ?_⟩⟩
  obtain ⟨v, hat, hv⟩ := at2 (a := V.int (1 + r1)) (b := V.int (10 ^ (6 : Int).toNat - r2)) (i := r3 / 5) (by omega) (by omega)
  obtain ⟨we, rfl, we1, we2⟩ : ∃ we : Int, v = .int we ∧ 1 ≤ we ∧ we ≤ 1000000 := by
    rw [e6] at hv
    rcases hv with rfl | rfl
    · exact ⟨_, rfl, by omega, by omega⟩
    · exact ⟨_, rfl, by omega, by omega⟩
  have bt3 : But d H H3 := (b1.trans b2).trans ((But.new hl).trans b3)
  refine ⟨l, _, _, _, rfl, rfl, SqL.of (b3 _ _ nl upd_same), hat, ?_⟩
  have hw3 := bt3 _ _ nwl hw
  refine ⟨_, rfl, wl, _, _, _, rfl, rfl, SqL.of hw3, atI_nat (j := 2) rfl, _, rfl, wl, _, _, _, rfl, rfl, SqL.of hw3, atI_nat (j := 3) rfl, (by show 3 ≤ sizeLine; decide), fun l2 hl2 => ?_⟩
  have nl2 := dr3.ne hl2
  refine ⟨_, rfl, d, 3, n + 3, rfl, by decide, log_tiny (by decide) (by decide), dr3.upd nl2, by omega, fun H4 r4 u4 c4 b4 dr4 => ?_⟩
  obtain ⟨v2, hat2, hv2⟩ := at3 (a := V.str w2) (b := V.str "round") (c := V.str w3) (i := r4) u4 c4
  obtain ⟨fo, rfl, hfo⟩ : ∃ fo : Str, v2 = .str fo ∧ nm (.str fo) = true := by
    rcases hv2 with rfl | rfl | rfl
    · exact ⟨_, rfl, g2⟩
    · exact ⟨_, rfl, nm_round⟩
    · exact ⟨_, rfl, g3⟩
  have bt4 : But d H H4 := bt3.trans ((But.new hl2).trans b4)
  refine ⟨l2, _, _, _, rfl, rfl, SqL.of (b4 _ _ nl2 upd_same), hat2, ?_⟩
  refine ⟨_, rfl, _, rfl, _, rfl, _, rfl, _, rfl, d, 2, n + 4, rfl, by decide, log_tiny (by decide) (by decide), dr4, by omega, fun H5 r5 u5 c5 b5 dr5 => ?_⟩
  have bt5 : But d H H5 := bt4.trans b5
  have hw5 := bt5 _ _ nwl hw
  obtain ⟨sh, hat3, hsh⟩ : ∃ sh : Str, atI [V.str w0, .str w1, .str w2, .str w3] r5 = some (.str sh) ∧ nm (.str sh) = true := by
    rcases (by omega : r5 = 0 ∨ r5 = 1) with rfl | rfl
    · exact ⟨w0, rfl, g0⟩
    · exact ⟨w1, rfl, g1⟩
  refine ⟨wl, _, _, _, rfl, rfl, SqL.of hw5, hat3, ?_⟩
  refine ⟨_, rfl, _, rfl, d, 3, n + 5, rfl, by decide, log_tiny (by decide) (by decide), dr5, by omega, fun H6 r6 u6 c6 b6 dr6 => ⟨rfl, ?_⟩⟩
  refine ⟨(by show 6 ≤ sizeLine; decide), fun t ht => ?_⟩
  exact q _ t ⟨k, ac, we, sh, fo, _⟩ ⟨whl_mk k1 k2, whl_mk a1 a2, whl_mk we1 we2, hsh, hfo⟩ upd_same ((bt5.trans b6).trans (But.new ht)) (dr6.upd (dr6.ne ht))
def Stem (z : Str) : Prop := z.length ≤ 7 ∧ ∀ c ∈ z.cps.toList, lower c = true
def spWords : Sp := fun vs H Q _ => ∃ (d : Addr) (n : Nat), vs = [.ref d, .int 4] ∧ Dr PM d n H ∧ n ≤ 100000 ∧
  ∀ (H' : Hp) (p : Addr) (w0 w1 w2 w3 : Str), H p = none → H' p = some (.lst [.str w0, .str w1, .str w2, .str w3]) → nm (.str w0) = true → nm (.str w1) = true → nm (.str w2) = true → nm (.str w3) = true → But d H H' → Dr PM d (n + 60) H' → Q (.ref p) H'
theorem nopart {σ : L2.St} {H : Hp} {R : Option Int → Hp → Prop} (h : R none H) : tNoPart σ H R := h
theorem cps_app (z : Str) (c : Nat) : (z ++ (⟨#[c]⟩ : Str)).cps.toList = z.cps.toList ++ [c] := by
  show (z.cps ++ #[c]).toList = _
  simp
theorem low_snoc {z : Str} {c : Nat} (h : ∀ c ∈ z.cps.toList, lower c = true) (hc : lower c = true) : ∀ x ∈ (z ++ (⟨#[c]⟩ : Str)).cps.toList, lower x = true := fun x hx => by
  rw [cps_app] at hx
  rcases List.mem_append.mp hx with h1 | h1
  · exact h x h1
  · rw [List.mem_singleton.mp h1]
    exact hc
theorem nm_snoc {z : Str} {c : Nat} (h : Stem z) (hc : lower c = true) : nm (.str (z ++ ⟨#[c]⟩)) = true := by
  have nmE : ∀ z : Str, nm (.str z) = (decide (1 ≤ z.length) && decide (z.length ≤ 8) && z.cps.toList.all lower) := fun _ => rfl
  have l : (z ++ (⟨#[c]⟩ : Str)).length = z.length + 1 := by
    rw [Str.length_append]
    rfl
  have := h.1
  rw [nmE, l, decide_eq_true (by omega), decide_eq_true (by omega), Bool.true_and, Bool.true_and, List.all_eq_true]
  exact low_snoc h.2 hc
theorem stem_cut {z : Str} (h : nm (.str z) = true) : Stem (cutS z none (some 7)) := by
  obtain ⟨h1, h2⟩ := nm_low h
  refine ⟨?_, fun c hc => h2 c ?_⟩
  · show (((z.cps.toList.drop (HT.sIx z.length 0 none)).take (HT.sIx z.length z.length (some 7) - HT.sIx z.length 0 none)).toArray).size ≤ 7
    have e : HT.sIx z.length z.length (some 7) ≤ 7 := by
      unfold HT.sIx
      simp
      omega
    rw [List.size_toArray, List.length_take]
    omega
  · exact List.mem_of_mem_drop (List.mem_of_mem_take hc)
theorem nil_ne1 {H : Hp} {f e : Addr} {z : Str} {ws : List Str} {R : VK} (hf : H f = some (.lst ((z :: ws).map V.str))) (he : H e = none) (q : ∀ H', Same H H' → R (.bl true) H') : rEqB true (BList BFlat) (.ref f) (.ref e) (upd H e (.lst [])) R := by
  refine ⟨false, ⟨f, e, _, [], fun _ => true, rfl, rfl, same_upd he _ _ hf, upd_same, fun h => ?_, ?_⟩, fun H' s => q H' ((same_upd he).trans s)⟩
  · rw [List.length_map, List.length_cons] at h
    simp at h
  · rw [decide_eq_false (show ¬ ((z :: ws).map V.str).length = ([] : List V).length by rw [List.length_map, List.length_cons]; simp)]
    rfl
theorem nil_ne0 {H : Hp} {f e : Addr} {R : VK} (hf : H f = some (.lst [])) (he : H e = none) (q : ∀ H', Same H H' → R (.bl false) H') : rEqB true (BList BFlat) (.ref f) (.ref e) (upd H e (.lst [])) R := by
  refine ⟨true, ⟨f, e, [], [], fun _ => true, rfl, rfl, same_upd he _ _ hf, upd_same, fun h => ?_, ?_⟩, fun H' s => q H' ((same_upd he).trans s)⟩
  · intro i x y h1
    simp at h1
  · rfl
theorem ok_words (T : Tx K mg) : FnOk P w K mg base CX0 2 T.A_words T.fd_words ["_law_draws_here", "_law_many"] (spWords) := by
  refine T.F_words.ok sc_words (fun vs H Q E h => ?_) (fun cdv A outer s H vs Q E hr h => ?_)
  · obtain ⟨d, n, rfl, dr, hn, q⟩ := h
    rfl
  obtain ⟨d, n, rfl, dr, hn, q⟩ := h
  refine ⟨_, (pss_cons (ps_set (i := 2) sc_words.nd rfl (Or.inl rfl) (pe_lst pa_nil))
      (pss_cons (ps_set (i := 3) sc_words.nd rfl (Or.inl rfl) (pe_call (ok_next T) (hr.mono (by decide)) (by rfl) T.g_next T.F_next.kp T.b_next .nil pass0 (pa_cons (pv 0) (pa_cons pe_int pa_nil))))
      (pss_cons (ps_for PassesOwn.never rfl (pi_range1 (by rfl) T.z_range (pa_cons (pv 1) pa_nil)) (pg_name (i := 4) sc_words.nd rfl (Or.inl rfl))
        (pss_cons (ps_set (i := 5) sc_words.nd rfl (Or.inl rfl) pe_str)
      (pss_cutJ (ps_if (PW.pt (pw_and (pt_cmpR (op_neB (rcB_list true monB_flat eqB_flat) (hr.mono (by decide))) (pv 2) (pe_lst pa_nil) (nomark _)) (pw_and1 (pt_cmpR op_eq (pe_call (ok_next T) (hr.mono (by decide)) (by rfl) T.g_next T.F_next.kp T.b_next .nil pass0 (pa_cons (pv 0) (pa_cons pe_int pa_nil))) pe_int (nomark _))))) (pss_one (ps_set (i := 5) sc_words.nd rfl (Or.inl rfl) (pe_slice sl_str (pe_ix ix_list (pv 2) (pe_call (ok_next T) (hr.mono (by decide)) (by rfl) T.g_next T.F_next.kp T.b_next .nil pass0 (pa_cons (pv 0) (pa_cons (pe_callB call_len_seq (by rfl) T.z_len PySem.boot_len (pa_cons (pv 2) pa_nil)) pa_nil))) (fun _ _ => rfl)) po_none (po_some pe_int)))) (pss_one (ps_for PassesOwn.never rfl (pi_range1 (by rfl) T.z_range (pa_cons (pe_call (ok_next T) (hr.mono (by decide)) (by rfl) T.g_next T.F_next.kp T.b_next .nil pass0 (pa_cons (pv 0) (pa_cons pe_int pa_nil))) pa_nil)) (pg_name (i := 6) sc_words.nd rfl (Or.inl rfl))
        (pss_one (ps_set (i := 5) sc_words.nd rfl (Or.inl rfl) (pe_op op_add_str (pv 5) (pe_ix ix_str pe_str (pe_call (ok_next T) (hr.mono (by decide)) (by rfl) T.g_next T.F_next.kp T.b_next .nil pass0 (pa_cons (pv 0) (pa_cons pe_int pa_nil))) (fun _ _ => rfl))))))))
      (pss_one (ps_expr (pe_bm PySem.F.plainAttrs_list PySem.F.slot_list_append PySem.F.type_list_append mt_append (pv 2) (pa_cons (pe_op op_add_str (pv 5) (pe_ix ix_str pe_str (pe_op op_mod (pe_op op_add (pv 3) (pe_op op_mul pe_int (pv 4))) pe_int) (fun _ _ => rfl))) pa_nil)))))))
      (pss_one (ps_ret (pv 2)))))), ?_⟩
  refine ⟨Nat.zero_le _, fun f hf => ?_⟩
  have nf := dr.ne hf
  refine ⟨_, rfl, d, 26, n, rfl, by decide, log_tiny (by decide) (by decide), dr.upd nf, by omega, fun H1 first a1 c1 b1 dr1 => ?_⟩
  have bf1 : But d H H1 := (But.new hf).trans b1
  refine ⟨_, rfl, _, rfl, by decide, by decide, ?_⟩
  refine for_range (lo := 0) (n := 4) (fun i σ H' => ∃ (w4 w5 w6 : Option V) (ws : List Str), σ = [some (.ref d), some (.int 4), some (.ref f), some (.int first), w4, w5, w6] ∧ H' f = some (.lst (ws.map V.str)) ∧ ws.length = i ∧ (∀ z ∈ ws, nm (.str z) = true) ∧ But d H H' ∧ Dr PM d (n + 1 + 12 * i) H')
    ⟨_, _, _, [], rfl, b1 _ _ nf upd_same, rfl, (fun _ h => nomatch h), bf1, dr1⟩ ?_ ?_
  · rintro i σ H2 hi ⟨w4, w5, w6, ws, rfl, ef, hl, hw, b2, dr2⟩
    refine ⟨fun σ' H' => ∃ (z : Str) (w6 : Option V), σ' = [some (.ref d), some (.int 4), some (.ref f), some (.int first), some (.int (0 + i)), some (.str z), w6] ∧ Stem z ∧ H' f = some (.lst (ws.map V.str)) ∧ But d H H' ∧ Dr PM d (n + 1 + 12 * i + 12) H', ?_, ?_⟩
    · refine ⟨_, rfl, Nat.zero_le _, fun e he => ?_⟩
      cases ws with
      | nil =>
        refine nil_ne0 ef he fun H3 s3 => ⟨_, rfl, iteF (iteF ?_)⟩
        refine ⟨_, rfl, d, 8, _, rfl, by decide, log_tiny (by decide) (by decide), (dr2.same s3), by omega, fun H6 r6 u6 c6 b6 dr6 => ?_⟩
        refine ⟨_, rfl, by omega, by omega, ?_⟩
        refine for_range (lo := 0) (n := r6.toNat) (fun j σ H' => ∃ (z : Str) (w6 : Option V), σ = [some (.ref d), some (.int 4), some (.ref f), some (.int first), some (.int (0 + i)), some (.str z), w6] ∧ z.length = j ∧ (∀ c ∈ z.cps.toList, lower c = true) ∧ H' f = some (.lst (([] : List Str).map V.str)) ∧ But d H H' ∧ Dr PM d (n + 1 + 12 * i + 2 + j) H') ⟨"", _, rfl, rfl, (fun _ h => nomatch h), b6 _ _ nf (s3 _ _ ef), (b2.trans (But.of s3)).trans b6, dr6.mono (by omega)⟩ ?_ ?_
        · rintro j σ H7 hj ⟨z, w6', rfl, hz, hc, ef7, b7, dr7⟩
          refine ⟨_, rfl, _, rfl, d, 26, _, rfl, by decide, log_tiny (by decide) (by decide), dr7, by omega, fun H8 r8 u8 c8 b8 dr8 => ?_⟩
          obtain ⟨c, hc8, hl8⟩ := az_at u8 c8
          refine ⟨_, _, c, rfl, rfl, (by decide +kernel), hc8, ?_⟩
          refine ⟨_, _, rfl, rfl, ?_, z ++ ⟨#[c]⟩, _, rfl, ?_, ?_, b8 _ _ nf ef7, b7.trans b8, dr8.mono (by omega)⟩
          · exact Nat.le_trans (show z.length + 1 ≤ 10 by omega) (by decide)
          · rw [Str.length_append, hz]
            rfl
          · exact low_snoc hc hl8
        · rintro σ H7 ⟨z, w6', rfl, hz, hc, ef7, b7, dr7⟩
          exact ⟨z, _, rfl, ⟨by omega, hc⟩, ef7, b7, dr7.mono (by omega)⟩
      | cons z0 wr =>
        refine nil_ne1 ef he fun H3 s3 => ⟨_, rfl, iteT ?_⟩
        have dr3 := dr2.same s3
        refine ⟨_, rfl, d, 4, _, rfl, by decide, log_tiny (by decide) (by decide), dr3, by omega, fun H4 r4 u4 c4 b4 dr4 => ⟨rfl, _, rfl, ite2 (fun e0 => ?_) (fun e0 => ?_)⟩⟩
        · have ef4 := b4 _ _ nf (s3 _ _ ef)
          have hlen : 0 < (((z0 :: wr).map V.str).length : Int) := by rw [List.length_map, List.length_cons]; omega
          refine ⟨_, rfl, _, rfl, _, rfl, f, _, rfl, .inl (SqL.of ef4), d, _, _, rfl, hlen, log_tiny hlen (by rw [List.length_map, hl]; omega), dr4, by omega, fun H5 r5 u5 c5 b5 dr5 => ?_⟩
          obtain ⟨j, rfl⟩ : ∃ j : Nat, r5 = (j : Int) := ⟨r5.toNat, by omega⟩
          have hj : j < (z0 :: wr).length := by rw [List.length_map] at c5; omega
          have hat : atI ((z0 :: wr).map V.str) (j : Int) = some (.str (z0 :: wr)[j]) := atI_nat (by rw [List.getElem?_map, List.getElem?_eq_getElem hj]; rfl)
          have hz := hw _ (List.getElem_mem hj)
          refine ⟨f, _, _, _, rfl, rfl, SqL.of (b5 _ _ nf ef4), hat, nopart ?_⟩
          exact ⟨7, rfl, _, rfl, Nat.le_trans (short_name hz) (by decide), cutS (z0 :: wr)[j] none (some 7), _, rfl, stem_cut hz, b5 _ _ nf ef4, ((b2.trans (But.of s3)).trans b4).trans b5, dr5.mono (by omega)⟩
        · refine ⟨_, rfl, d, 8, _, rfl, by decide, log_tiny (by decide) (by decide), dr4, by omega, fun H6 r6 u6 c6 b6 dr6 => ?_⟩
          refine ⟨_, rfl, by omega, by omega, ?_⟩
          refine for_range (lo := 0) (n := r6.toNat) (fun j σ H' => ∃ (z : Str) (w6 : Option V), σ = [some (.ref d), some (.int 4), some (.ref f), some (.int first), some (.int (0 + i)), some (.str z), w6] ∧ z.length = j ∧ (∀ c ∈ z.cps.toList, lower c = true) ∧ H' f = some (.lst ((z0 :: wr).map V.str)) ∧ But d H H' ∧ Dr PM d (n + 1 + 12 * i + 2 + j) H') ⟨"", _, rfl, rfl, (fun _ h => nomatch h), b6 _ _ nf (b4 _ _ nf (s3 _ _ ef)), ((b2.trans (But.of s3)).trans b4).trans b6, dr6.mono (by omega)⟩ ?_ ?_
          · rintro j σ H7 hj ⟨z, w6', rfl, hz, hc, ef7, b7, dr7⟩
            refine ⟨_, rfl, _, rfl, d, 26, _, rfl, by decide, log_tiny (by decide) (by decide), dr7, by omega, fun H8 r8 u8 c8 b8 dr8 => ?_⟩
            obtain ⟨c, hc8, hl8⟩ := az_at u8 c8
            refine ⟨_, _, c, rfl, rfl, (by decide +kernel), hc8, ?_⟩
            refine ⟨_, _, rfl, rfl, ?_, z ++ ⟨#[c]⟩, _, rfl, ?_, ?_, b8 _ _ nf ef7, b7.trans b8, dr8.mono (by omega)⟩
            · exact Nat.le_trans (show z.length + 1 ≤ 10 by omega) (by decide)
            · rw [Str.length_append, hz]
              rfl
            · exact low_snoc hc hl8
          · rintro σ H7 ⟨z, w6', rfl, hz, hc, ef7, b7, dr7⟩
            exact ⟨z, _, rfl, ⟨by omega, hc⟩, ef7, b7, dr7.mono (by omega)⟩
    · rintro σ' H3 ⟨z, w6', rfl, hz, ef3, b3, dr3⟩
      refine ⟨_, rfl, .inl ⟨rfl, _, SqL.of ef3⟩, _, rfl, _, rfl, _, rfl, _, _, rfl, rfl, .inl ⟨?_, ?_⟩, _, _, rfl, rfl, _, _, rfl, rfl, (by show (0 : Int) < 26; decide), ?_⟩
      · decide
      · have e64 : (2 : Int) ^ 64 = 18446744073709551616 := by decide
        rw [e64]
        omega
      obtain ⟨c, hc8, hl8⟩ := az_at (Int.emod_nonneg (first + 3 * (0 + (i : Int))) (by decide : (26 : Int) ≠ 0)) (Int.emod_lt_of_pos _ (by decide : (0 : Int) < 26))
      refine ⟨_, _, c, rfl, rfl, (by decide +kernel), hc8, _, _, rfl, rfl, Nat.le_trans (show z.length + 1 ≤ 10 by have := hz.1; omega) (by decide), ?_⟩
      refine ⟨f, _, _, rfl, rfl, ef3, Nat.lt_of_le_of_lt (by rw [List.length_map, hl]; omega : (ws.map V.str).length ≤ 4) (by decide), ?_⟩
      refine ⟨_, _, _, ws ++ [z ++ ⟨#[c]⟩], rfl, ?_, ?_, ?_, ?_, ?_⟩
      · rw [List.map_append]
        exact upd_same
      · rw [List.length_append, hl]
        rfl
      · intro y hy
        rcases List.mem_append.mp hy with h | h
        · exact hw y h
        · rw [List.mem_singleton.mp h]
          exact nm_snoc hz hl8
      · exact b3.mut hf
      · exact (dr3.mono (by omega)).upd nf
  · rintro σ H2 ⟨w4, w5, w6, ws, rfl, ef, hl, hw, b2, dr2⟩
    match ws, hl with
    | [w0, w1, w2, w3], _ =>
      refine ⟨_, rfl, q H2 f w0 w1 w2 w3 hf ef (hw _ (by simp)) (hw _ (by simp)) (hw _ (by simp)) (hw _ (by simp)) b2 (dr2.mono (by omega))⟩
end
end KB
namespace KB
open PySem PySem.Spec PyProof.Rows L2 KA
section
variable {P : Program} {w : World} {K : PySem.W.Frag} {mg : Str → Option Value} {base : Heap}
def spLowest : Sp := fun vs H Q _ => ∃ (n d : Int) (k : Nat), vs = [.int n, .int d] ∧ d ≠ 0 ∧ Sz k d ∧ k ≤ 8000 ∧ ∀ t, H t = none → Q (.ref t) (upd H t (.tup [.int (shr n d).1, .int (shr n d).2]))
theorem ok_lowest (T : Tx K mg) : FnOk P w K mg base CX0 1 T.A_lowest T.fd_lowest ["_law_num", "_law_over"] (spLowest) := by
  refine T.F_lowest.ok sc_lowest (fun vs H Q E h => ?_) (fun cdv A outer s H vs Q E hr h => ?_)
  · obtain ⟨n, d, k, rfl, hd, hs, hk, q⟩ := h
    rfl
  obtain ⟨n, d, k, rfl, hd, hs, hk, q⟩ := h
  refine ⟨_, (pss_cons (ps_par (i := 2) (j := 3) (by rfl) sc_lowest.nd rfl rfl (by decide) rfl rfl (pa_cons (pe_callB call_abs (by rfl) T.z_abs (by decide +kernel) (pa_cons (pv 0) pa_nil)) (pa_cons (pe_callB call_abs (by rfl) T.z_abs (by decide +kernel) (pa_cons (pv 1) pa_nil)) pa_nil)) (by rfl))
      (pss_cons (ps_while PassesOwn.never (pt_cmpR op_gt (pv 3) pe_int (nomark _)) (pss_one (ps_par (i := 2) (j := 3) (by rfl) sc_lowest.nd rfl rfl (by decide) rfl rfl (pa_cons (pv 3) (pa_cons (pe_op op_mod (pv 2) (pv 3)) pa_nil)) (by rfl))))
      (pss_cutJ (ps_if (pt_cmpR op_lt (pv 1) pe_int (nomark _)) (pss_one (ps_set (i := 2) sc_lowest.nd rfl (Or.inl rfl) (pe_op op_sub pe_int (pv 2)))) pss_nil)
      (pss_one (ps_ret (pe_tup (pa_cons (pe_op op_fdivX (pv 0) (pv 2)) (pa_cons (pe_op op_fdivX (pv 1) (pv 2)) pa_nil)))))))), ?_⟩
  refine ⟨_, rfl, _, rfl, _, rfl, _, rfl, _, _, rfl, ?_⟩
  rw [abs_nat, abs_nat]
  refine while_by (fun σ H' => ∃ x y : Nat, σ = [some (.int n), some (.int d), some (.int x), some (.int y)] ∧ Nat.gcd x y = Int.gcd n d ∧ H' = H) (fun σ _ => match σ with | [_, _, _, some (.int y)] => y.toNat | _ => 0) ⟨n.natAbs, d.natAbs, rfl, rfl, rfl⟩ ?_ ?_
  · rintro σ H' ⟨x, y, rfl, hg, rfl⟩
    refine ⟨_, rfl, _, _, rfl, rfl, _, rfl, ite2 (fun e => ?_) (fun e => ?_)⟩
    · have hy : 0 < y := by
        have := of_decide_eq_true e
        omega
      refine ⟨_, rfl, _, rfl, _, rfl, _, _, rfl, rfl, (by show (0 : Int) < (y : Int); omega), _, _, rfl, ⟨y, x % y, ?_, ?_, rfl⟩, ?_⟩
      · show [some (V.int n), some (V.int d), some (V.int (y : Int)), some (V.int ((x : Int) % (y : Int)))] = _
        rw [← Int.natCast_emod]
      · rw [gcd_turn x y hy, hg]
      · show ((x : Int) % (y : Int)).toNat < ((y : Nat) : Int).toNat
        have := Int.emod_lt_of_pos (x : Int) (show (0 : Int) < (y : Int) by omega)
        omega
    · have hy : y = 0 := by
        have : ¬ (0 : Int) < (y : Int) := fun z => e (decide_eq_true z)
        omega
      subst hy
      rw [Nat.gcd_zero_right] at hg
      subst hg
      refine ⟨fun σ' H2 => σ' = [some (.int n), some (.int d), some (.int (prt n d)), some (.int 0)] ∧ H2 = H', ⟨_, rfl, _, _, rfl, rfl, _, rfl, ite2 (fun e2 => ?_) (fun e2 => ?_)⟩, ?_⟩
      · refine ⟨_, rfl, _, _, rfl, rfl, ?_, rfl⟩
        have : prt n d = 0 - (Int.gcd n d : Int) := by
          rw [show prt n d = -(Int.gcd n d : Int) from if_pos (of_decide_eq_true e2)]
          omega
        rw [this]
        rfl
      · refine ⟨?_, rfl⟩
        rw [show prt n d = (Int.gcd n d : Int) from if_neg (fun z => e2 (decide_eq_true z))]
        rfl
      · rintro σ' H2 ⟨rfl, rfl⟩
        refine ⟨_, rfl, _, rfl, _, _, rfl, rfl, ⟨prt_ne hd, prt_log hd hs hk⟩, _, rfl, _, rfl, _, _, rfl, rfl, ⟨prt_ne hd, prt_log hd hs hk⟩, (by show 2 ≤ sizeLine; decide), fun t ht => q t ht⟩
  · rintro σ H' Q1 Q2 hQ ⟨v, h1, i, j, h2, h3, k, h4, z⟩
    exact ⟨v, h1, i, j, h2, h3, k, h4, hQ _ _ z⟩
/-! ### what is due -/
def rateO (kvs : List (List Str × Int)) (r : Rw) : Option V := valV (dictV kvs) [Sum.inr r.sh, Sum.inr r.fo]
def GoodT (kvs : List (List Str × Int)) : Prop := ∀ p ∈ kvs, 0 ≤ p.2 ∧ p.2 < 100000000000000000000
theorem rate_cases {kvs : List (List Str × Int)} (h : GoodT kvs) (r : Rw) : rateO kvs r = none ∨ ∃ x : Int, rateO kvs r = some (.int x) ∧ 0 ≤ x ∧ x < 100000000000000000000 := by
  unfold rateO valV dictV
  rw [List.find?_map]
  cases e : kvs.find? ((fun kv : List Key × V => decide (kv.1 = [Sum.inr r.sh, Sum.inr r.fo])) ∘ fun p : List Str × Int => (p.1.map Sum.inr, V.int p.2)) with
  | none => exact .inl rfl
  | some p => exact .inr ⟨p.2, rfl, h p (List.mem_of_find?_eq_some e)⟩
def ovr (g o : Int) (r : Rw) : Int := if r.dr = true then g * o else g
inductive Due where
  | none (sh fo : Str)
  | nought (n : Int)
  | told (x : Int × Int)
def dueOf (kvs : List (List Str × Int)) (g o : Int) (r : Rw) : Due := match rateO kvs r with
  | some (.int x) => if ovr g o r = 0 then .nought (x * r.we * r.we) else .told (shr (x * r.we * r.we) (ovr g o r))
  | _ => .none r.sh r.fo
def ErrAt (C1 C2 : Addr) : Due → Value → Option Addr → Hp → Prop
  | .none sh fo => fun cls d H => cls = .ref C1 ∧ ∃ dd t, d = some dd ∧ H dd = some (.xd [("name", .ref t), ("kind", .str "rate")]) ∧ H t = some (.tup [.str sh, .str fo])
  | .nought n => fun cls d H => cls = .ref C2 ∧ ∃ dd, d = some dd ∧ H dd = some (.xd [("num", .int n)])
  | .told _ => fun _ _ _ => False
def Sml (x : Int) : Prop := -1000000 ≤ x ∧ x ≤ 1000000
theorem sml_sz {x : Int} (h : Sml x) : Sz 20 x := by
  show x.natAbs < 2 ^ 20
  have e : (2 : Nat) ^ 20 = 1048576 := by decide
  rw [e]
  have := h.1
  have := h.2
  omega
theorem rate_sz {x : Int} (h0 : 0 ≤ x) (h1 : x < 100000000000000000000) : Sz 67 x := by
  show x.natAbs < 2 ^ 67
  have e : (2 : Nat) ^ 67 = 147573952589676412928 := by decide
  rw [e]
  omega
theorem ovr_sz {g o : Int} {r : Rw} (hg : Sml g) (ho : Sml o) : Sz 40 (ovr g o r) := by
  unfold ovr
  split
  · exact (sml_sz hg).mul (sml_sz ho)
  · exact (sml_sz hg).mono (by decide)
theorem due_ok {kvs : List (List Str × Int)} {g o : Int} {r : Rw} {x : Int × Int} (hT : GoodT kvs) (hG : GoodRw r) (hg : Sml g) (ho : Sml o) (h : dueOf kvs g o r = .told x) : Ok 110 x := by
  have wz : Sz 20 r.we := by
    have := whl_of hG.2.2.1
    exact sml_sz ⟨by omega, by omega⟩
  unfold dueOf at h
  rcases rate_cases hT r with e | ⟨y, e, y0, y1⟩
  · rw [e] at h
    cases h
  · rw [e] at h
    by_cases z : ovr g o r = 0
    · simp only [if_pos z] at h
      cases h
    · simp only [if_neg z] at h
      injection h with h
      rw [← h]
      have sz := shr_sz (k := 110) z ((((rate_sz y0 y1).mul wz).mul wz).mono (by decide)) ((ovr_sz hg ho).mono (by decide))
      exact ⟨shr_pos z, sz.1, sz.2⟩
theorem mk2_same {H : Hp} {x dd : Addr} {o0 o1 o2 o3 o4 : HO} (hx : H x = none) (hd : H dd = none) : Same H (upd (del (upd (upd (upd (upd H x o0) dd o1) x o2) dd o3) x) dd o4) := fun b o z => by
  have n1 := ne_of_none z hx
  have n2 := ne_of_none z hd
  rw [upd_ne n2]
  unfold del
  rw [if_neg n1, upd_ne n2, upd_ne n1, upd_ne n2, upd_ne n1]
  exact z
def spWorth (CB CS C1 C2 : Addr) : Sp := fun vs H Q E => ∃ (b tf : Addr) (g o : Int) (r : Rw) (kvs : List (List Str × Int)), vs = [.ref b, .ref tf, .int g, .int o] ∧ BeadAt CB H b r ∧ GoodRw r ∧ H tf = some (.dT (dictV kvs)) ∧ GoodT kvs ∧ Sml g ∧ Sml o ∧
  (∀ x, dueOf kvs g o r = .told x → ∀ (H' : Hp) (s : Addr), Same H H' → ShAt CS H' s x → Q (.ref s) H') ∧ ∀ cls d H', Same H H' → ErrAt C1 C2 (dueOf kvs g o r) cls d H' → E cls d H'
theorem ok_worth (T : Tx K mg) : FnOk P w K mg base (L2.CX P w) 5 T.A_worth T.fd_worth ["bead", "rates", "base", "drilled"] (spWorth T.C_Bead T.C_Share T.C_NoSuch T.C_NoShare) := by
  refine T.F_worth.ok (CX := L2.CX P w) sc_worth (fun vs H Q E h => ?_) (fun cdv A outer s H vs Q E hr h => ?_)
  · obtain ⟨b, tf, g, o, r, kvs, rfl, ⟨dx, hb⟩, hG, ht, hT, hg, ho, q, qe⟩ := h
    rfl
  obtain ⟨b, tf, g, o, r, kvs, rfl, ⟨dx, hb⟩, hG, ht, hT, hg, ho, q, qe⟩ := h
  refine ⟨_, (pss_cons (ps_set (i := 4) sc_worth.nd rfl (Or.inl rfl) (pe_tup (pa_cons (pe_fld (pv 0) rfl) (pa_cons (pe_fld (pv 0) rfl) pa_nil))))
      (pss_cons (ps_if (pt_cmp (pc_dnotin (Nat.lt_of_le_of_lt (Nat.add_le_add_left (by decide) _) hr.units) (pv 4) (pv 1))) (pss_one (ps_raise rfl (takes_of rfl rfl rfl rfl) (pmk_gex PySem.F.excBase_LookupError T.ox_NoSuch T.in_NoSuch T.ti_NoSuch (ok_NoSuch_init T) (hr.mono (by decide)) T.b_NoSuch_init .nil pass0 (by rfl) T.g_NoSuch (pa_cons pe_str (pa_cons (pv 4) pa_nil))))) pss_nil)
      (pss_cons (ps_set (i := 5) sc_worth.nd rfl (Or.inl rfl) (pe_op op_mulW (pe_op op_mulW (pe_dget (Nat.lt_of_le_of_lt (Nat.add_le_add_left (by decide) _) hr.units) (pv 1) (pv 4) (fun _ _ => rfl)) (pe_fld (pv 0) rfl)) (pe_fld (pv 0) rfl)))
      (pss_cons (ps_if (pt_val (pe_fld (pv 0) rfl)) (pss_one (ps_ret (pe_make T.mk_Share (ok_Share_init T) (hr.mono (by decide)) (by rfl) T.g_Share T.b_Share_init .nil (passes_call (takes_of rfl rfl rfl rfl) (fun _ _ _ _ h => h)) (pa_cons (pv 5) (pa_cons (pe_op op_mulW (pv 2) (pv 3)) pa_nil))))) pss_nil)
      (pss_one (ps_ret (pe_make T.mk_Share (ok_Share_init T) (hr.mono (by decide)) (by rfl) T.g_Share T.b_Share_init .nil (passes_call (takes_of rfl rfl rfl rfl) (fun _ _ _ _ h => h)) (pa_cons (pv 5) (pa_cons (pv 2) pa_nil))))))))), ?_⟩
  refine ⟨_, rfl, b, _, dx, _, _, rfl, hb, T.cl_Bead, T.n_Bead_shade, bf_shade r, _, rfl, b, _, dx, _, _, rfl, hb, T.cl_Bead, T.n_Bead_form, bf_form r, (by show 2 ≤ sizeLine; decide), fun tp htp => ?_⟩
  have s1 := same_upd htp (o := .tup [.str r.sh, .str r.fo])
  have gd : DGet (upd H tp (.tup [.str r.sh, .str r.fo])) tf (.ref tp) (rateO kvs r) := DGet.t (k := [Sum.inr r.sh, Sum.inr r.fo]) (s1 _ _ ht) upd_same
  have hb1 := s1 _ _ hb
  have wz : Sz 20 r.we := by
    have := whl_of hG.2.2.1
    exact sml_sz ⟨by omega, by omega⟩
  rcases rate_cases hT r with e | ⟨x, e, x0, x1⟩
  · have ed : dueOf kvs g o r = .none r.sh r.fo := by
      unfold dueOf
      rw [e]
    rw [e] at gd
    rw [ed] at qe
    refine ⟨_, rfl, _, rfl, tf, _, rfl, gd, _, rfl, iteT ?_⟩
    refine ⟨_, rfl, (by show 2 ≤ 1000; decide), fun x hx => ⟨x, T.C_NoSuch, .str "rate", .ref tp, rfl, T.ox_NoSuch, T.nf_NoSuch_kind, T.nf_NoSuch_name, upd_same, fun dd hd hne => ⟨rfl, dd, [("name", .ref tp), ("kind", .str "rate")], ?_, upd_same, ?_, ?_⟩⟩⟩
    · rw [upd_ne hne.symm]
      exact upd_same
    · rw [upd_ne hne] at hd
      exact hd
    · rw [upd_ne hne] at hd
      exact qe _ _ _ (s1.trans (mk2_same hx hd)) ⟨rfl, dd, tp, rfl, upd_same, mk2_same hx hd _ _ upd_same⟩
  · rw [e] at gd
    refine ⟨_, rfl, _, rfl, tf, _, rfl, gd, _, rfl, iteF ?_⟩
    refine ⟨_, rfl, _, rfl, tf, _, rfl, gd, _, rfl, b, _, dx, _, _, rfl, hb1, T.cl_Bead, T.n_Bead_weight, bf_weight r, _, _, rfl, rfl, (rate_sz x0 x1).mw wz (by omega), _, rfl, b, _, dx, _, _, rfl, hb1, T.cl_Bead, T.n_Bead_weight, bf_weight r, _, _, rfl, rfl, ((rate_sz x0 x1).mul wz).mw wz (by omega), ?_⟩
    refine ⟨_, rfl, b, _, dx, _, _, rfl, hb1, T.cl_Bead, T.n_Bead_drilled, bf_drilled r, _, rfl, ?_⟩
    have fin : ∀ (od : Int), ovr g o r = od → ∀ (p dp : Addr), (upd H tp (.tup [.str r.sh, .str r.fo])) p = none → (upd H tp (.tup [.str r.sh, .str r.fo])) dp = none → dp ≠ p → spShareX T.C_Share T.C_NoShare [.ref p, .int (x * r.we * r.we), .int od] (upd (upd (upd H tp (.tup [.str r.sh, .str r.fo])) dp (.own p)) p (.ins T.C_Share dp [])) (fun v H' => v = .non ∧ Q (.ref p) H') E := fun od hod p dp hp hdp hne => by
      refine ⟨p, dp, _, _, 40, rfl, upd_same, by rw [← hod]; exact ovr_sz hg ho, by decide, fun hz H1 h1 k1 => ⟨rfl, ?_⟩, fun hz H1 dd s2 h1 => ?_⟩
      · refine q _ ?_ H1 p (s1.trans (made_same hp hdp k1)) h1
        unfold dueOf
        rw [e]
        simp only [hod, if_neg hz]
      · refine qe _ _ _ (s1.trans ((made_same hp hdp fun b o z _ => z).trans s2)) ?_
        have ed : dueOf kvs g o r = .nought (x * r.we * r.we) := by
          unfold dueOf
          rw [e]
          simp only [hod, if_pos hz]
        rw [ed]
        exact ⟨rfl, dd, rfl, h1⟩
    cases hdr : r.dr with
    | true =>
      refine iteT ⟨_, rfl, _, rfl, _, rfl, _, _, rfl, rfl, (sml_sz hg).mw (sml_sz ho) (by omega), ?_⟩
      exact fin _ (by unfold ovr; rw [hdr]; rfl)
    | false =>
      refine iteF ⟨_, rfl, _, rfl, ?_⟩
      exact fin _ (by unfold ovr; rw [hdr]; rfl)
end
end KB
namespace KB
open PySem PySem.Spec PyProof.Rows L2 KA
section
variable {P : Program} {w : World} {K : PySem.W.Frag} {mg : Str → Option Value} {base : Heap}
/-- the beads of a list; the rows of a list -/
def BdL (C : Addr) (H : Hp) (xs : List V) (rs : List Rw) : Prop := xs.length = rs.length ∧ ∀ (i : Nat) r, rs[i]? = some r → ∃ p, xs[i]? = some (.ref p) ∧ BeadAt C H p r
def RwL (H : Hp) (xs : List V) (rs : List Rw) : Prop := xs.length = rs.length ∧ ∀ (i : Nat) r, rs[i]? = some r → ∃ t, xs[i]? = some (.ref t) ∧ H t = some (.tup (rowVals r))
theorem BeadAt.nl {C : Addr} {H H' : Hp} {p : Addr} {r : Rw} (h : BeadAt C H p r) (s : NL H H') : BeadAt C H' p r := by
  obtain ⟨dx, h⟩ := h
  exact ⟨dx, s _ _ (fun xs z => by cases z) h⟩
theorem BdL.nl {C : Addr} {H H' : Hp} {xs : List V} {rs : List Rw} (h : BdL C H xs rs) (s : NL H H') : BdL C H' xs rs := ⟨h.1, fun i r hr => by
  obtain ⟨p, h1, h2⟩ := h.2 i r hr
  exact ⟨p, h1, h2.nl s⟩⟩
theorem RwL.nl {H H' : Hp} {xs : List V} {rs : List Rw} (h : RwL H xs rs) (s : NL H H') : RwL H' xs rs := ⟨h.1, fun i r hr => by
  obtain ⟨p, h1, h2⟩ := h.2 i r hr
  exact ⟨p, h1, s _ _ (fun xs z => by cases z) h2⟩⟩
theorem BdL.snoc {C : Addr} {H : Hp} {xs : List V} {rs : List Rw} {p : Addr} {r : Rw} (h : BdL C H xs rs) (hp : BeadAt C H p r) : BdL C H (xs ++ [.ref p]) (rs ++ [r]) := by
  refine ⟨by rw [List.length_append, List.length_append, h.1]; rfl, fun i z hz => ?_⟩
  by_cases hi : i < rs.length
  · rw [List.getElem?_append_left hi] at hz
    obtain ⟨p', h1, h2⟩ := h.2 i z hz
    exact ⟨p', by rw [List.getElem?_append_left (by rw [h.1]; exact hi)]; exact h1, h2⟩
  · rw [List.getElem?_append_right (by omega)] at hz
    have hlt := (List.getElem?_eq_some_iff.mp hz).1
    rw [List.length_singleton] at hlt
    have e : i = rs.length := by omega
    subst e
    rw [Nat.sub_self] at hz
    cases hz
    exact ⟨p, by rw [← h.1, List.getElem?_append_right (Nat.le_refl _), Nat.sub_self]; rfl, hp⟩
theorem RwL.snoc {H : Hp} {xs : List V} {rs : List Rw} {p : Addr} {r : Rw} (h : RwL H xs rs) (hp : H p = some (.tup (rowVals r))) : RwL H (xs ++ [.ref p]) (rs ++ [r]) := by
  refine ⟨by rw [List.length_append, List.length_append, h.1]; rfl, fun i z hz => ?_⟩
  by_cases hi : i < rs.length
  · rw [List.getElem?_append_left hi] at hz
    obtain ⟨p', h1, h2⟩ := h.2 i z hz
    exact ⟨p', by rw [List.getElem?_append_left (by rw [h.1]; exact hi)]; exact h1, h2⟩
  · rw [List.getElem?_append_right (by omega)] at hz
    have hlt := (List.getElem?_eq_some_iff.mp hz).1
    rw [List.length_singleton] at hlt
    have e : i = rs.length := by omega
    subst e
    rw [Nat.sub_self] at hz
    cases hz
    exact ⟨p, by rw [← h.1, List.getElem?_append_right (Nat.le_refl _), Nat.sub_self]; rfl, hp⟩
/-- .. and what the earlier turns told -/
theorem lc_genP {K : PySem.W.Frag} {a : Addr} {xs : List V} {H : Hp} {D : Addr} (hD : H D = none) (hS : SqL K H a xs) (hl : xs.length ≤ 10000) (G : Nat → V → Hp → Prop) (hG : ∀ j v H1 H2, NL H1 H2 → G j v H1 → G j v H2) (P : Nat → Prop) (hP : ∀ j v H, G j v H → P j)
    {g : TG} {tt : TT} {te : TE} {vs : List Nat} {σ : L2.St} {Qd : Hp → Prop}
    (turn : ∀ (i : Nat) (x : V) (H2 : Hp) (R : V → Hp → Prop) (C : Hp → Prop), xs[i]? = some x → Same H H2 → (∀ j, j < i → P j) → (∀ v H3, Same H2 H3 → G i v H3 → R v H3) → g x (wipe σ vs) H2 fun σ2 H2 => wipe σ2 vs = wipe σ vs ∧ tt σ2 H2 fun b H3 => if b = true then te σ2 H3 R else C H3)
    (fin : ∀ H' acc, Same H H' → H' D = some (.lst acc) → acc.length = xs.length → (∀ j v, acc[j]? = some v → G j v H') → Qd H') :
    ∃ W : Nat → Nat → Hp → Prop, (∃ m, W 0 m (upd H D (.lst []))) ∧ ∀ i m H, W i m H →
      ((Itl K a).stop i H ∧ Qd H) ∨ ((Itl K a).go i H ∧ ∃ Nx : Hp → Prop, (∀ H', Nx H' → ∃ m', m' < m ∧ W (i + 1) m' H') ∧ ∀ x H', (Itl K a).yld i H x H' → g x (wipe σ vs) H' fun σ2 H2 => wipe σ2 vs = wipe σ vs ∧ tt σ2 H2 fun b H3 =>
        if b = true then te σ2 H3 fun y H4 => ∃ acc, H4 D = some (.lst acc) ∧ acc.length < sizeLine ∧ Nx (upd H4 D (.lst (acc ++ [y]))) else Nx H3) := by
  refine lc_list (K := K) (a := a) (xs := xs) (fun i H' => Same H H' ∧ ∃ acc, H' D = some (.lst acc) ∧ acc.length = i ∧ ∀ j v, acc[j]? = some v → G j v H') ⟨same_upd hD, [], upd_same, rfl, fun j v h => by simp at h⟩ (fun i H' _ h => h.1.seq hS) ?_ ?_
  · rintro i x H2 hi ⟨s2, acc, e2, l2, g2⟩
    have hil : i < xs.length := (List.getElem?_eq_some_iff.mp hi).1
    refine turn i x H2 _ _ hi s2 (fun j hj => hP j _ H2 (g2 j _ (List.getElem?_eq_getElem (by rw [l2]; exact hj)))) fun v H3 s3 hv => ?_
    have e3 := s3 _ _ e2
    refine ⟨acc, e3, ?_, fun b o h => ?_, acc ++ [v], upd_same, ?_, fun j w hj => ?_⟩
    · rw [l2]
      exact Nat.lt_of_lt_of_le (show i < 10000 by omega) (by decide)
    · rw [upd_ne (ne_of_none h hD)]
      exact s3 _ _ (s2 _ _ h)
    · rw [List.length_append, l2]
      rfl
    · refine hG j w H3 _ (NL.at_ e3) ?_
      by_cases h : j < acc.length
      · rw [List.getElem?_append_left h] at hj
        exact hG j w H2 H3 (NL.of s3) (g2 j w hj)
      · rw [List.getElem?_append_right (by omega)] at hj
        have : j = i := by
          have := (List.getElem?_eq_some_iff.mp hj).1
          rw [List.length_singleton] at this
          omega
        subst this
        rw [l2, Nat.sub_self] at hj
        have : v = w := Option.some.inj hj
        subst this
        exact hv
  · rintro H' ⟨s, acc, e, l, g⟩
    exact fin H' acc s e l g
def dueAll (f : Rw → Due) : Int × Int → List Rw → Due
  | t, [] => .told t
  | t, r :: rs => match f r with
    | .told x => dueAll f (fPlus t x) rs
    | .none sh fo => .none sh fo
    | .nought n => .nought n
def Told (d : Due) : Prop := ∃ x, d = .told x
theorem dueAll_bad {f : Rw → Due} : ∀ {rs : List Rw} {t : Int × Int} {i : Nat} {r : Rw}, (∀ j, j < i → ∀ r, rs[j]? = some r → Told (f r)) → rs[i]? = some r → ¬ Told (f r) → dueAll f t rs = f r
  | [], _, _, _, _, h, _ => by simp at h
  | r0 :: rs, t, 0, r, _, h, hn => by
    have e : r0 = r := Option.some.inj h
    subst e
    unfold dueAll
    cases e : f r0 with
    | told x => exact absurd ⟨x, e⟩ hn
    | none sh fo => rfl
    | nought n => rfl
  | r0 :: rs, t, i + 1, r, hp, h, hn => by
    obtain ⟨x, e⟩ := hp 0 (Nat.succ_pos i) r0 rfl
    unfold dueAll
    rw [e]
    exact dueAll_bad (rs := rs) (i := i) (fun j hj r' hr => hp (j + 1) (by omega) r' hr) h hn
theorem dueAll_told {f : Rw → Due} : ∀ {rs : List Rw} {ls : List (Int × Int)} {t : Int × Int}, ls.length = rs.length → (∀ (j : Nat) r l, rs[j]? = some r → ls[j]? = some l → f r = .told l) → dueAll f t rs = .told (ls.foldl fPlus t)
  | [], [], _, _, _ => rfl
  | [], _ :: _, _, h, _ => by simp at h
  | _ :: _, [], _, h, _ => by simp at h
  | r :: rs, l :: ls, t, h, hf => by
    unfold dueAll
    rw [hf 0 r l rfl rfl]
    exact dueAll_told (rs := rs) (ls := ls) (by simpa using h) (fun j r' l' h1 h2 => hf (j + 1) r' l' h1 h2)
theorem err_told {C1 C2 : Addr} {d : Due} {cls : Value} {dd : Option Addr} {H : Hp} (h : ErrAt C1 C2 d cls dd H) : ¬ Told d := by
  rintro ⟨x, rfl⟩
  exact h
def spWorthOf (K : PySem.W.Frag) (CB CS C1 C2 : Addr) : Sp := fun vs H Q E => ∃ (b tf : Addr) (g o : Int) (xs : List V) (rs : List Rw) (kvs : List (List Str × Int)), vs = [.ref b, .ref tf, .int g, .int o] ∧ H b = some (.lst xs) ∧ BdL CB H xs rs ∧ rs.length ≤ 10 ∧ (∀ r ∈ rs, GoodRw r) ∧ H tf = some (.dT (dictV kvs)) ∧ GoodT kvs ∧ Sml g ∧ Sml o ∧
  (∀ x, dueAll (dueOf kvs g o) (0, 1) rs = .told x → ∀ (H' : Hp) (s : Addr), Same H H' → ShAt CS H' s x → Q (.ref s) H') ∧ ∀ cls d H', Same H H' → ErrAt C1 C2 (dueAll (dueOf kvs g o) (0, 1) rs) cls d H' → E cls d H'
theorem ok_worth_of (T : Tx K mg) : FnOk P w K mg base (L2.CX P w) 7 T.A_worth_of T.fd_worth_of ["beads", "rates", "base", "drilled"] (spWorthOf K T.C_Bead T.C_Share T.C_NoSuch T.C_NoShare) := by
  refine T.F_worth_of.ok (CX := L2.CX P w) sc_worth_of (fun vs H Q E h => ?_) (fun cdv A outer s H vs Q E hr h => ?_)
  · obtain ⟨b, tf, g, o, xs, rs, kvs, rfl, hb, hB, hl, hG, ht, hT, hg, ho, q, qe⟩ := h
    rfl
  obtain ⟨b, tf, g, o, xs, rs, kvs, rfl, hb, hB, hl, hG, ht, hT, hg, ho, q, qe⟩ := h
  refine ⟨_, (pss_one (ps_ret (pe_call (ok_shares_sum T) (hr.mono (by decide)) (by rfl) T.g_shares_sum T.F_shares_sum.kp T.b_shares_sum .nil pass0 (pa_cons (pe_lcE (own := [("bead", 4)]) (g := gName 4) (tt := fun _ => tYes) rfl rfl rfl (takes_of rfl rfl rfl rfl) sc_worth_of.nd (pi_list (pv 0)) (blkOk_by (N := ["beads", "rates", "base", "drilled", "bead"]) (sc := defScope s_worth_of) (by decide +kernel)) (fun E _ _ _ _ _ => (pg_name (i := 4) sc_worth_of.nd rfl (Or.inl rfl))) (fun E _ _ _ _ _ => pts_nil) (fun E _ _ _ _ _ => (pe_call (E := E) (ok_worth T) (hr.mono (by decide)) (by rfl) T.g_worth T.F_worth.kp T.b_worth .nil pass_blk (pa_cons (pv 4) (pa_cons (pv 1) (pa_cons (pv 2) (pa_cons (pv 3) pa_nil))))))) pa_nil)))), ?_⟩
  refine ⟨E, fun _ _ _ h => h, _, rfl, b, rfl, ⟨_, SqL.of hb⟩, fun D hD => ?_⟩
  refine lc_genP hD (SqL.of hb) (by rw [hB.1]; omega) (fun j v H' => ∀ r, rs[j]? = some r → ∃ p x, v = .ref p ∧ dueOf kvs g o r = .told x ∧ ShAt T.C_Share H' p x) (fun j v H1 H2 s h r hr => ?_) (fun j => ∀ r, rs[j]? = some r → Told (dueOf kvs g o r)) (fun j v H' h r hr => ?_) ?_ ?_
  · obtain ⟨p, x, h1, h2, h3⟩ := h r hr
    exact ⟨p, x, h1, h2, h3.same s⟩
  · obtain ⟨p, x, h1, h2, h3⟩ := h r hr
    exact ⟨x, h2⟩
  · intro i x H2 R C hi s2 pre hRv
    have hir : i < rs.length := by
      rw [← hB.1]
      exact (List.getElem?_eq_some_iff.mp hi).1
    obtain ⟨p, h1, hp⟩ := hB.2 i _ (List.getElem?_eq_getElem hir)
    rw [h1] at hi
    cases hi
    refine ⟨rfl, yesT ⟨_, rfl, _, rfl, _, rfl, _, rfl, p, tf, g, o, rs[i], kvs, rfl, hp.nl (NL.of s2), hG _ (List.getElem_mem hir), s2 _ _ ht, hT, hg, ho, fun y hy H3 sp s3 h3 => ?_, fun cls d H3 s3 h3 => ?_⟩⟩
    · refine hRv _ _ s3 fun r hr => ?_
      rw [List.getElem?_eq_getElem hir] at hr
      cases hr
      exact ⟨sp, y, rfl, hy, h3⟩
    · refine qe cls d H3 (s2.trans s3) ?_
      rw [dueAll_bad (fun j hj r hr => pre j hj r hr) (List.getElem?_eq_getElem hir) (err_told h3)]
      exact h3
  · intro H' acc s e l hg'
    have hlen : acc.length = rs.length := by rw [l, hB.1]
    obtain ⟨ls, hls, hsh⟩ : ∃ ls : List (Int × Int), ls.length = rs.length ∧ ∀ (j : Nat) r l, rs[j]? = some r → ls[j]? = some l → dueOf kvs g o r = .told l := by
      refine ⟨rs.map fun r => match dueOf kvs g o r with | .told x => x | _ => (0, 1), List.length_map _, fun j r l' hr hl' => ?_⟩
      rw [List.getElem?_map, hr] at hl'
      have hj : j < acc.length := by
        rw [hlen]
        exact (List.getElem?_eq_some_iff.mp hr).1
      obtain ⟨p, x, h1, h2, h3⟩ := hg' j _ (List.getElem?_eq_getElem hj) r hr
      rw [Option.map_some, h2] at hl'
      rw [h2]
      injection hl' with hl'
      exact congrArg Due.told hl'
    refine ⟨D, acc, ls, rfl, SqL.of e, ⟨by rw [hlen, hls], fun i v hv => ?_⟩, fun l' hl' => ?_, by omega, fun H4 r s4 h4 => ?_⟩
    · have hi : i < rs.length := by
        rw [← hlen]
        exact (List.getElem?_eq_some_iff.mp hv).1
      obtain ⟨p, x, h1, h2, h3⟩ := hg' i v hv _ (List.getElem?_eq_getElem hi)
      have hi2 : i < ls.length := by rw [hls]; exact hi
      have h4 := hsh i _ _ (List.getElem?_eq_getElem hi) (List.getElem?_eq_getElem hi2)
      rw [h2] at h4
      injection h4 with h4
      exact ⟨p, x, h1, by rw [List.getElem?_eq_getElem hi2, h4], h3⟩
    · obtain ⟨j, hj⟩ := List.getElem?_of_mem hl'
      have hi : j < rs.length := by
        rw [← hls]
        exact (List.getElem?_eq_some_iff.mp hj).1
      exact due_ok hT (hG _ (List.getElem_mem hi)) hg ho (hsh j _ _ (List.getElem?_eq_getElem hi) hj)
    · exact q _ (dueAll_told hls hsh) H4 r (s.trans s4) h4
end
end KB
namespace KB
open PySem PySem.Spec PyProof.Rows L2 KA
section
variable {P : Program} {w : World} {K : PySem.W.Frag} {mg : Str → Option Value} {base : Heap}
def DueAt (H : Hp) : Due → Addr → Prop
  | .none sh fo => fun t => ∃ t2, H t = some (.tup [.str "none", .str "rate", .ref t2]) ∧ H t2 = some (.tup [.str sh, .str fo])
  | .nought n => fun t => H t = some (.tup [.str "nought", .int n])
  | .told x => fun t => H t = some (.tup [.str "told", .int x.1, .int x.2])
theorem DueAt.same {H H' : Hp} (s : Same H H') : ∀ {d : Due} {t : Addr}, DueAt H d t → DueAt H' d t
  | .none _ _, _, ⟨t2, h1, h2⟩ => ⟨t2, s _ _ h1, s _ _ h2⟩
  | .nought _, _, h => s _ _ h
  | .told _, _, h => s _ _ h
def spDue : Sp := fun vs H Q E => ∃ (b tf : Addr) (g o : Int) (r : Rw) (kvs : List (List Str × Int)), vs = [.ref b, .ref tf, .int g, .int o] ∧ H b = some (.tup (rowVals r)) ∧ GoodRw r ∧ H tf = some (.dT (dictV kvs)) ∧ GoodT kvs ∧ Sml g ∧ Sml o ∧
  ∀ (H' : Hp) (t : Addr), Same H H' → DueAt H' (dueOf kvs g o r) t → Q (.ref t) H'
theorem ok_due (T : Tx K mg) : FnOk P w K mg base CX0 2 T.A_due T.fd_due ["_law_row_here", "_law_tariff", "_law_ground", "_law_bored"] (spDue) := by
  refine T.F_due.ok sc_due (fun vs H Q E h => ?_) (fun cdv A outer s H vs Q E hr h => ?_)
  · obtain ⟨b, tf, g, o, r, kvs, rfl, hb, hG, ht, hT, hg, ho, q⟩ := h
    rfl
  obtain ⟨b, tf, g, o, r, kvs, rfl, hb, hG, ht, hT, hg, ho, q⟩ := h
  refine ⟨_, (pss_cons (ps_if (pt_cmp (pc_dnotin (Nat.lt_of_le_of_lt (Nat.add_le_add_left (by decide) _) hr.units) (pe_slice sl_tupA (pv 0) (po_some pe_int) (po_some pe_int)) (pv 1))) (pss_one (ps_ret (pe_tup (pa_cons pe_str (pa_cons pe_str (pa_cons (pe_slice sl_tupA (pv 0) (po_some pe_int) (po_some pe_int)) pa_nil)))))) pss_nil)
      (pss_cons (ps_set (i := 4) sc_due.nd rfl (Or.inl rfl) (pe_op op_mulW (pe_op op_mulW (pe_dget (Nat.lt_of_le_of_lt (Nat.add_le_add_left (by decide) _) hr.units) (pv 1) (pe_slice sl_tupA (pv 0) (po_some pe_int) (po_some pe_int)) (fun _ _ => rfl)) (pe_ix ix_tup (pv 0) pe_int (fun _ _ => rfl))) (pe_ix ix_tup (pv 0) pe_int (fun _ _ => rfl))))
      (pss_cons (ps_set (i := 5) sc_due.nd rfl (Or.inl rfl) (pe_op op_mulW (pv 2) (pe_ix ix_list (pe_lst (pa_cons pe_int (pa_cons (pv 3) pa_nil))) (pe_callTy call_int1 (by rfl) T.z_int (by decide +kernel) (pa_cons (pe_ix ix_tup (pv 0) pe_int (fun _ _ => rfl)) pa_nil)) (fun _ _ => rfl))))
      (pss_cons (ps_if (pt_cmpR op_eq (pv 5) pe_int (nomark _)) (pss_one (ps_ret (pe_tup (pa_cons pe_str (pa_cons (pv 4) pa_nil))))) pss_nil)
      (pss_one (ps_ret (pe_op op_catA (pe_tup (pa_cons pe_str pa_nil)) (pe_call (ok_lowest T) (hr.mono (by decide)) (by rfl) T.g_lowest T.F_lowest.kp T.b_lowest .nil pass0 (pa_cons (pv 4) (pa_cons (pv 5) pa_nil)))))))))), ?_⟩
  refine ⟨_, rfl, 3, rfl, 5, rfl, sla_of hb fun H1 p1 s1 e1 => ?_⟩
  have e1 : H1 p1 = some (.tup [.str r.sh, .str r.fo]) := e1
  have gd : DGet H1 tf (.ref p1) (rateO kvs r) := DGet.t (k := [Sum.inr r.sh, Sum.inr r.fo]) (s1 _ _ ht) e1
  have wz : Sz 20 r.we := by
    have := whl_of hG.2.2.1
    exact sml_sz ⟨by omega, by omega⟩
  rcases rate_cases hT r with e | ⟨x, e, x0, x1⟩
  · rw [e] at gd
    refine ⟨_, rfl, tf, _, rfl, gd, _, rfl, iteT ?_⟩
    refine ⟨_, rfl, 3, rfl, 5, rfl, sla_of (s1 _ _ hb) fun H2 p2 s2 e2 => ?_⟩
    refine ⟨(by show 3 ≤ sizeLine; decide), fun t ht => q _ t ((s1.trans s2).trans (same_upd ht)) ?_⟩
    have ed : dueOf kvs g o r = .none r.sh r.fo := by
      unfold dueOf
      rw [e]
    rw [ed]
    exact ⟨p2, upd_same, same_upd ht _ _ e2⟩
  · rw [e] at gd
    refine ⟨_, rfl, tf, _, rfl, gd, _, rfl, iteF ?_⟩
    refine ⟨_, rfl, _, rfl, 3, rfl, 5, rfl, sla_of (s1 _ _ hb) fun H2 p2 s2 e2 => ?_⟩
    have hb2 := s2 _ _ (s1 _ _ hb)
    have gd2 : DGet H2 tf (.ref p2) (rateO kvs r) := DGet.t (k := [Sum.inr r.sh, Sum.inr r.fo]) (s2 _ _ (s1 _ _ ht)) e2
    rw [e] at gd2
    refine ⟨tf, _, rfl, gd2, _, rfl, b, _, _, _, rfl, rfl, .inl (.inl hb2), atI_nat (j := 2) rfl, _, _, rfl, rfl, (rate_sz x0 x1).mw wz (by omega), _, rfl, b, _, _, _, rfl, rfl, .inl (.inl hb2), atI_nat (j := 2) rfl, _, _, rfl, rfl, ((rate_sz x0 x1).mul wz).mw wz (by omega), ?_⟩
    obtain ⟨y, hat, hy, sy⟩ : ∃ y : Int, atI [V.int 1, V.int o] (if r.dr = true then 1 else 0) = some (.int y) ∧ g * y = ovr g o r ∧ Sz 20 y := by
      unfold ovr
      cases r.dr with
      | true => exact ⟨o, rfl, rfl, sml_sz ho⟩
      | false => exact ⟨1, rfl, by rw [Int.mul_one]; rfl, sml_sz ⟨by decide, by decide⟩⟩
    refine ⟨_, rfl, _, rfl, (by show 2 ≤ sizeLine; decide), fun l hl => ?_⟩
    have s3 := same_upd hl (o := .lst [.int 1, .int o])
    have S := (s1.trans s2).trans s3
    refine ⟨_, rfl, b, _, _, _, rfl, rfl, .inl (.inl (s3 _ _ hb2)), atI_nat (j := 5) rfl, .inr ⟨_, rfl, l, _, _, _, rfl, rfl, SqL.of upd_same, hat, _, _, rfl, rfl, (sml_sz hg).mw sy (by omega), ?_⟩⟩
    refine ⟨_, rfl, rfl, _, rfl, ?_⟩
    refine ite2 (fun ez => ?_) (fun ez => ?_)
    · have hz : ovr g o r = 0 := by
        have z : V.int (g * y) = V.int 0 := of_decide_eq_true ez
        injection z with z
        rw [← hy, z]
      refine ⟨_, rfl, (by show 2 ≤ sizeLine; decide), fun t ht => q _ t (S.trans (same_upd ht)) ?_⟩
      have ed : dueOf kvs g o r = .nought (x * r.we * r.we) := by
        unfold dueOf
        rw [e]
        simp only [if_pos hz]
      rw [ed]
      exact upd_same
    · have hz0 : ¬ g * y = 0 := fun z => ez (decide_eq_true (show V.int (g * y) = V.int 0 by rw [z]))
      have hz : ¬ ovr g o r = 0 := by rw [← hy]; exact hz0
      refine ⟨(by show 1 ≤ sizeLine; decide), fun t1 ht1 => ⟨_, rfl, _, rfl, _, _, 40, rfl, hz0, (by rw [hy]; exact ovr_sz hg ho), by decide, fun t2 ht2 => ?_⟩⟩
      refine cata_of (same_upd ht2 _ _ upd_same) upd_same (by show 3 ≤ sizeLine; decide) fun H5 t5 s5 e5 => q _ t5 (((S.trans (same_upd ht1)).trans (same_upd ht2)).trans s5) ?_
      have ed : dueOf kvs g o r = .told (shr (x * r.we * r.we) (ovr g o r)) := by
        unfold dueOf
        rw [e]
        simp only [if_neg hz]
      rw [ed, ← hy]
      exact e5
def spDueOf : Sp := fun vs H Q E => ∃ (b tf : Addr) (g o : Int) (xs : List V) (rs : List Rw) (kvs : List (List Str × Int)), vs = [.ref b, .ref tf, .int g, .int o] ∧ H b = some (.lst xs) ∧ RwL H xs rs ∧ rs.length ≤ 10 ∧ (∀ r ∈ rs, GoodRw r) ∧ H tf = some (.dT (dictV kvs)) ∧ GoodT kvs ∧ Sml g ∧ Sml o ∧
  ∀ (H' : Hp) (t : Addr), Same H H' → DueAt H' (dueAll (dueOf kvs g o) (0, 1) rs) t → Q (.ref t) H'
theorem ok_due_of (T : Tx K mg) : FnOk P w K mg base CX0 3 T.A_due_of T.fd_due_of ["_law_rows", "_law_tariff", "_law_ground", "_law_bored"] (spDueOf) := by
  refine T.F_due_of.ok sc_due_of (fun vs H Q E h => ?_) (fun cdv A outer s H vs Q E hr h => ?_)
  · obtain ⟨b, tf, g, o, xs, rs, kvs, rfl, hb, hR, hl, hG, ht, hT, hg, ho, q⟩ := h
    rfl
  obtain ⟨b, tf, g, o, xs, rs, kvs, rfl, hb, hR, hl, hG, ht, hT, hg, ho, q⟩ := h
  refine ⟨_, (pss_cons (ps_set (i := 4) sc_due_of.nd rfl (Or.inl rfl) (pe_tup (pa_cons pe_int (pa_cons pe_int pa_nil))))
      (pss_cons (ps_for PassesOwn.never rfl (pi_list (pv 0)) (pg_name (i := 5) sc_due_of.nd rfl (Or.inl rfl))
        (pss_cons (ps_set (i := 6) sc_due_of.nd rfl (Or.inl rfl) (pe_call (ok_due T) (hr.mono (by decide)) (by rfl) T.g_due T.F_due.kp T.b_due .nil pass0 (pa_cons (pv 5) (pa_cons (pv 1) (pa_cons (pv 2) (pa_cons (pv 3) pa_nil))))))
      (pss_cons (ps_if (pt_cmpR (op_neD hr.units) (pe_ix ix_tup (pv 6) pe_int (fun _ _ => rfl)) pe_str (nomark _)) (pss_one (ps_ret (pv 6))) pss_nil)
      (pss_one (ps_set (i := 4) sc_due_of.nd rfl (Or.inl rfl) (pe_call (ok_lowest T) (hr.mono (by decide)) (by rfl) T.g_lowest T.F_lowest.kp T.b_lowest .nil pass0 (pa_cons (pe_op op_add (pe_op op_mulW (pe_ix ix_tup (pv 4) pe_int (fun _ _ => rfl)) (pe_ix ix_tup (pv 6) pe_int (fun _ _ => rfl))) (pe_op op_mulW (pe_ix ix_tup (pv 6) pe_int (fun _ _ => rfl)) (pe_ix ix_tup (pv 4) pe_int (fun _ _ => rfl)))) (pa_cons (pe_op op_mulW (pe_ix ix_tup (pv 4) pe_int (fun _ _ => rfl)) (pe_ix ix_tup (pv 6) pe_int (fun _ _ => rfl))) pa_nil))))))))
      (pss_one (ps_ret (pe_op op_catA (pe_tup (pa_cons pe_str pa_nil)) (pv 4)))))), ?_⟩
  refine ⟨(by show 2 ≤ sizeLine; decide), fun t0 ht0 => ?_⟩
  have s0 := same_upd ht0 (o := .tup [.int 0, .int 1])
  have okL : ∀ (ls : List (Int × Int)), ls.length ≤ rs.length → (∀ (j : Nat) r l, rs[j]? = some r → ls[j]? = some l → dueOf kvs g o r = .told l) → Ok 1500 (sumL ls) := fun ls hl1 hf => by
    refine sum_ok (fun l hm => ?_) (by omega)
    obtain ⟨j, hj⟩ := List.getElem?_of_mem hm
    have hi : j < rs.length := Nat.lt_of_lt_of_le (List.getElem?_eq_some_iff.mp hj).1 hl1
    exact due_ok hT (hG _ (List.getElem_mem hi)) hg ho (hf j _ _ (List.getElem?_eq_getElem hi) hj)
  refine ⟨_, rfl, b, rfl, ⟨_, SqL.of (s0 _ _ hb)⟩, for_list (K := K) (a := b) (xs := xs) (fun i σ H' => ∃ (tt : Addr) (ls : List (Int × Int)) (w5 w6 : Option V), σ = [some (.ref b), some (.ref tf), some (.int g), some (.int o), some (.ref tt), w5, w6] ∧ Same H H' ∧ H' tt = some (.tup [.int (sumL ls).1, .int (sumL ls).2]) ∧ ls.length = i ∧ ∀ (j : Nat) r l, rs[j]? = some r → ls[j]? = some l → dueOf kvs g o r = .told l) ⟨t0, [], _, _, rfl, s0, upd_same, rfl, fun j r l _ h => by simp at h⟩ (fun i σ H' _ h => ?_) ?_ ?_⟩
  · obtain ⟨_, _, _, _, _, s, _⟩ := h
    exact SqL.of (s _ _ hb)
  · rintro i x σ H2 hi ⟨tt, ls, w5, w6, rfl, s2, htt, hls, hf⟩
    have hir : i < rs.length := by
      rw [← hR.1]
      exact (List.getElem?_eq_some_iff.mp hi).1
    obtain ⟨p, h1, hp⟩ := hR.2 i _ (List.getElem?_eq_getElem hir)
    rw [h1] at hi
    cases hi
    have gr := hG _ (List.getElem_mem hir)
    have hri : rs[i]? = some rs[i] := List.getElem?_eq_getElem hir
    generalize rs[i] = r at hp gr hri
    refine ⟨_, rfl, _, rfl, _, rfl, _, rfl, p, tf, g, o, r, kvs, rfl, s2 _ _ hp, gr, s2 _ _ ht, hT, hg, ho, fun H3 td s3 h3 => ?_⟩
    have S := s2.trans s3
    have bad : ¬ Told (dueOf kvs g o r) → dueAll (dueOf kvs g o) (0, 1) rs = dueOf kvs g o r := fun hn => dueAll_bad (i := i) (fun j hj r' hr' => by
      have hj2 : j < ls.length := by omega
      exact ⟨_, hf j r' _ hr' (List.getElem?_eq_getElem hj2)⟩) hri hn
    cases hd : dueOf kvs g o r with
    | none sh fo =>
      have bad := bad (by rw [hd]; rintro ⟨x, z⟩; cases z)
      rw [hd] at h3 bad
      obtain ⟨t2, h31, h32⟩ := id h3
      refine ⟨_, rfl, td, _, _, _, rfl, rfl, .inl (.inl h31), atI_nat (j := 0) rfl, _, _, .str _, .str _, (by decide +kernel), (by decide +kernel), _, rfl, ?_⟩
      rw [show PyData.eqv (PyData.str "none") (PyData.str "told") = false by decide +kernel]
      exact iteT ⟨_, rfl, q H3 td S (by rw [bad]; exact h3)⟩
    | nought n =>
      have bad := bad (by rw [hd]; rintro ⟨x, z⟩; cases z)
      rw [hd] at h3 bad
      have h31 : H3 td = some (.tup [.str "nought", .int n]) := h3
      refine ⟨_, rfl, td, _, _, _, rfl, rfl, .inl (.inl h31), atI_nat (j := 0) rfl, _, _, .str _, .str _, (by decide +kernel), (by decide +kernel), _, rfl, ?_⟩
      rw [show PyData.eqv (PyData.str "nought") (PyData.str "told") = false by decide +kernel]
      exact iteT ⟨_, rfl, q H3 td S (by rw [bad]; exact h3)⟩
    | told y =>
      have oky := due_ok hT gr hg ho hd
      rw [hd] at h3
      have h31 : H3 td = some (.tup [.str "told", .int y.1, .int y.2]) := h3
      refine ⟨_, rfl, td, _, _, _, rfl, rfl, .inl (.inl h31), atI_nat (j := 0) rfl, _, _, .str _, .str _, (by decide +kernel), (by decide +kernel), _, rfl, ?_⟩
      rw [show PyData.eqv (PyData.str "told") (PyData.str "told") = true by decide +kernel]
      have okt := okL ls (by omega) hf
      obtain ⟨t0', t1', t2'⟩ := okt
      obtain ⟨y0, y1, y2⟩ := oky
      have htt3 := s3 _ _ htt
      refine iteF ⟨_, rfl, tt, _, _, _, rfl, rfl, .inl (.inl htt3), atI_nat (j := 0) rfl, _, rfl, td, _, _, _, rfl, rfl, .inl (.inl h31), atI_nat (j := 2) rfl, _, _, rfl, rfl, t1'.mw y2 (by omega), ?_⟩
      refine ⟨_, rfl, td, _, _, _, rfl, rfl, .inl (.inl h31), atI_nat (j := 1) rfl, _, rfl, tt, _, _, _, rfl, rfl, .inl (.inl htt3), atI_nat (j := 1) rfl, _, _, rfl, rfl, y1.mw t2' (by omega), _, _, rfl, rfl, ?_⟩
      refine ⟨_, rfl, tt, _, _, _, rfl, rfl, .inl (.inl htt3), atI_nat (j := 1) rfl, _, rfl, td, _, _, _, rfl, rfl, .inl (.inl h31), atI_nat (j := 2) rfl, _, _, rfl, rfl, t2'.mw y2 (by omega), ?_⟩
      refine ⟨_, _, 1610, rfl, Int.mul_ne_zero (by omega) (by omega), t2'.mul y2, by decide, fun t5 ht5 => ?_⟩
      refine ⟨t5, ls ++ [y], _, _, rfl, S.trans (same_upd ht5), ?_, by rw [List.length_append, hls]; rfl, fun j r' l' hr' hl' => ?_⟩
      · rw [show sumL (ls ++ [y]) = fPlus (sumL ls) y by unfold sumL; rw [List.foldl_append]; rfl]
        exact upd_same
      · by_cases hj : j < ls.length
        · rw [List.getElem?_append_left hj] at hl'
          exact hf j r' l' hr' hl'
        · rw [List.getElem?_append_right (by omega)] at hl'
          have hj2 : j = i := by
            have := (List.getElem?_eq_some_iff.mp hl').1
            rw [List.length_singleton] at this
            omega
          subst hj2
          rw [hls, Nat.sub_self] at hl'
          cases hl'
          rw [hri] at hr'
          cases hr'
          exact hd
  · rintro σ H2 ⟨tt, ls, w5, w6, rfl, s2, htt, hls, hf⟩
    refine ⟨(by show 1 ≤ sizeLine; decide), fun t1 ht1 => ⟨_, rfl, ?_⟩⟩
    refine cata_of upd_same (same_upd ht1 _ _ htt) (by show 3 ≤ sizeLine; decide) fun H5 t5 s5 e5 => q _ t5 ((s2.trans (same_upd ht1)).trans s5) ?_
    rw [dueAll_told (by rw [hls, hR.1]) hf]
    exact e5
end
end KB
namespace KB
open PySem PySem.Spec PyProof.Rows L2 KA
section
variable {P : Program} {w : World} {K : PySem.W.Frag} {mg : Str → Option Value} {base : Heap}
def gOf (w : Int) (g : Int) : Int := if w = 3 ∨ w = 4 then 1 else g
def oOf (w : Int) (o : Int) : Int := if w = 3 ∨ w = 5 then 2 else o
def spCalled (K : PySem.W.Frag) (CB CS C1 C2 : Addr) : Sp := fun vs H Q E => ∃ (b tf : Addr) (w g o : Int) (xs : List V) (rs : List Rw) (kvs : List (List Str × Int)), vs = [.int w, .ref b, .ref tf, .int g, .int o] ∧ 0 ≤ w ∧ w < 6 ∧ H b = some (.lst xs) ∧ BdL CB H xs rs ∧ rs.length ≤ 10 ∧ (∀ r ∈ rs, GoodRw r) ∧ H tf = some (.dT (dictV kvs)) ∧ GoodT kvs ∧ Sml g ∧ Sml o ∧
  (∀ x, dueAll (dueOf kvs (gOf w g) (oOf w o)) (0, 1) rs = .told x → ∀ (H' : Hp) (s : Addr), Same H H' → ShAt CS H' s x → Q (.ref s) H') ∧ ∀ cls d H', Same H H' → ErrAt C1 C2 (dueAll (dueOf kvs (gOf w g) (oOf w o)) (0, 1) rs) cls d H' → E cls d H'
theorem ok_called (T : Tx K mg) : FnOk P w K mg base (L2.CX P w) 8 T.A_called T.fd_called ["_law_way", "_law_some", "_law_tariff", "_law_ground", "_law_bored"] (spCalled K T.C_Bead T.C_Share T.C_NoSuch T.C_NoShare) := by
  refine T.F_called.okX sc_called (fun vs H Q E h => ?_) (fun cdv A outer s H vs Q E hr h => ?_)
  · obtain ⟨b, tf, wy, g, o, xs, rs, kvs, rfl, hw0, hw1, hb, hB, hl, hG, ht, hT, hg, ho, q, qe⟩ := h
    rfl
  obtain ⟨b, tf, wy, g, o, xs, rs, kvs, rfl, hw0, hw1, hb, hB, hl, hG, ht, hT, hg, ho, q, qe⟩ := h
  refine ⟨_, (pss_cons (ps_if (pt_cmpR op_eq (pv 0) pe_int (nomark _)) (pss_one (ps_ret (pe_call (CX := L2.CX P w) (E := E) (ok_worth_of T) (hr.mono (by decide)) (by rfl) T.g_worth_of T.F_worth_of.kp T.b_worth_of .nil (passes_call (takes_of rfl rfl rfl rfl) (fun _ _ _ _ h => h)) (pa_cons (pv 1) (pa_cons (pv 2) (pa_cons (pv 3) (pa_cons (pv 4) pa_nil))))))) pss_nil)
      (pss_cons (ps_if (pt_cmpR op_eq (pv 0) pe_int (nomark _)) (pss_one (ps_ret (pe_callN (CX := L2.CX P w) (E := E) (ok_worth_of T) (hr.mono (by decide)) (by rfl) T.g_worth_of T.F_worth_of.kp T.kb_1 (passes_call (takes_of rfl rfl rfl rfl) (fun _ _ _ _ h => h)) (pa_cons (pv 1) (pa_cons (pv 2) pa_nil)) (pk_cons (pv 4) (pk_cons (pv 3) pk_nil))))) pss_nil)
      (pss_cons (ps_if (pt_cmpR op_eq (pv 0) pe_int (nomark _)) (pss_one (ps_ret (pe_callN (CX := L2.CX P w) (E := E) (ok_worth_of T) (hr.mono (by decide)) (by rfl) T.g_worth_of T.F_worth_of.kp T.kb_2 (passes_call (takes_of rfl rfl rfl rfl) (fun _ _ _ _ h => h)) (pa_cons (pv 1) (pa_cons (pv 2) (pa_cons (pv 3) pa_nil))) (pk_cons (pv 4) pk_nil)))) pss_nil)
      (pss_cons (ps_if (pt_cmpR op_eq (pv 0) pe_int (nomark _)) (pss_one (ps_ret (pe_call (CX := L2.CX P w) (E := E) (ok_worth_of T) (hr.mono (by decide)) (by rfl) T.g_worth_of T.F_worth_of.kp T.bd2_worth_of T.hd2_worth_of (passes_call (takes_of rfl rfl rfl rfl) (fun _ _ _ _ h => h)) (pa_cons (pv 1) (pa_cons (pv 2) pa_nil))))) pss_nil)
      (pss_cons (ps_if (pt_cmpR op_eq (pv 0) pe_int (nomark _)) (pss_one (ps_ret (pe_callN (CX := L2.CX P w) (E := E) (ok_worth_of T) (hr.mono (by decide)) (by rfl) T.g_worth_of T.F_worth_of.kp T.kb_3 (passes_call (takes_of rfl rfl rfl rfl) (fun _ _ _ _ h => h)) (pa_cons (pv 1) (pa_cons (pv 2) pa_nil)) (pk_cons (pv 4) pk_nil)))) pss_nil)
      (pss_one (ps_ret (pe_callN0 (CX := L2.CX P w) (E := E) (ok_worth_of T) (hr.mono (by decide)) (by rfl) T.g_worth_of T.F_worth_of.kp T.kb_4 (passes_call (takes_of rfl rfl rfl rfl) (fun _ _ _ _ h => h))  (pk_cons (pv 2) (pk_cons (pv 3) (pk_cons (pv 1) pk_nil))))))))))), ?_⟩
  have fin : ∀ (g' o' : Int), g' = gOf wy g → o' = oOf wy o → Sml g' → Sml o' → spWorthOf K T.C_Bead T.C_Share T.C_NoSuch T.C_NoShare [.ref b, .ref tf, .int g', .int o'] H Q E := fun g' o' e1 e2 h1 h2 => by
    rw [← e1, ← e2] at q qe
    exact ⟨b, tf, g', o', xs, rs, kvs, rfl, hb, hB, hl, hG, ht, hT, h1, h2, q, qe⟩
  have s1 : Sml 1 := ⟨by decide, by decide⟩
  have s2 : Sml 2 := ⟨by decide, by decide⟩
  have no : ∀ {a c : Int}, a ≠ c → decide (V.int a = V.int c) = false := fun h => decide_eq_false (fun z => h (by injection z))
  rcases (by omega : wy = 0 ∨ wy = 1 ∨ wy = 2 ∨ wy = 3 ∨ wy = 4 ∨ wy = 5) with rfl | rfl | rfl | rfl | rfl | rfl
  · refine ⟨_, rfl, rfl, _, rfl, iteT ⟨_, rfl, _, rfl, _, rfl, _, rfl, fin g o rfl rfl hg ho⟩⟩
  · refine ⟨_, rfl, rfl, _, rfl, iteF ⟨_, rfl, rfl, _, rfl, iteT ?_⟩⟩
    refine ⟨_, rfl, _, rfl, _, rfl, _, rfl, rfl, rfl, fin g o rfl rfl hg ho⟩
  · refine ⟨_, rfl, rfl, _, rfl, iteF ⟨_, rfl, rfl, _, rfl, iteF ⟨_, rfl, rfl, _, rfl, iteT ?_⟩⟩⟩
    refine ⟨_, rfl, _, rfl, _, rfl, _, rfl, rfl, rfl, fin g o rfl rfl hg ho⟩
  · refine ⟨_, rfl, rfl, _, rfl, iteF ⟨_, rfl, rfl, _, rfl, iteF ⟨_, rfl, rfl, _, rfl, iteF ⟨_, rfl, rfl, _, rfl, iteT ?_⟩⟩⟩⟩
    refine ⟨_, rfl, _, rfl, fin 1 2 rfl rfl s1 s2⟩
  · refine ⟨_, rfl, rfl, _, rfl, iteF ⟨_, rfl, rfl, _, rfl, iteF ⟨_, rfl, rfl, _, rfl, iteF ⟨_, rfl, rfl, _, rfl, iteF ⟨_, rfl, rfl, _, rfl, iteT ?_⟩⟩⟩⟩⟩
    refine ⟨_, rfl, _, rfl, _, rfl, rfl, rfl, fin 1 o rfl rfl s1 ho⟩
  · refine ⟨_, rfl, rfl, _, rfl, iteF ⟨_, rfl, rfl, _, rfl, iteF ⟨_, rfl, rfl, _, rfl, iteF ⟨_, rfl, rfl, _, rfl, iteF ⟨_, rfl, rfl, _, rfl, iteF ?_⟩⟩⟩⟩⟩
    refine ⟨_, rfl, _, rfl, _, rfl, rfl, rfl, fin g 2 rfl rfl hg s2⟩
def spOneL (CB CS C1 C2 : Addr) : Sp := fun vs H Q E => ∃ (b tf : Addr) (w g o : Int) (r : Rw) (kvs : List (List Str × Int)), vs = [.int w, .ref b, .ref tf, .int g, .int o] ∧ BeadAt CB H b r ∧ GoodRw r ∧ H tf = some (.dT (dictV kvs)) ∧ GoodT kvs ∧ Sml g ∧ Sml o ∧
  (∀ x, dueOf kvs g o r = .told x → ∀ (H' : Hp) (s : Addr), Same H H' → ShAt CS H' s x → Q (.ref s) H') ∧ ∀ cls d H', Same H H' → ErrAt C1 C2 (dueOf kvs g o r) cls d H' → E cls d H'
theorem ok_one (T : Tx K mg) : FnOk P w K mg base (L2.CX P w) 6 T.A_one T.fd_one ["_law_way", "_law_bead", "_law_tariff", "_law_ground", "_law_bored"] (spOneL T.C_Bead T.C_Share T.C_NoSuch T.C_NoShare) := by
  refine T.F_one.okX sc_one (fun vs H Q E h => ?_) (fun cdv A outer s H vs Q E hr h => ?_)
  · obtain ⟨b, tf, wy, g, o, r, kvs, rfl, hb, hG, ht, hT, hg, ho, q, qe⟩ := h
    rfl
  obtain ⟨b, tf, wy, g, o, r, kvs, rfl, hb, hG, ht, hT, hg, ho, q, qe⟩ := h
  refine ⟨_, (pss_cons (ps_if (pt_cmpR op_eq (pe_op op_mod (pv 0) pe_int) pe_int (nomark _)) (pss_one (ps_ret (pe_call (CX := L2.CX P w) (E := E) (ok_worth T) (hr.mono (by decide)) (by rfl) T.g_worth T.F_worth.kp T.b_worth .nil (passes_call (takes_of rfl rfl rfl rfl) (fun _ _ _ _ h => h)) (pa_cons (pv 1) (pa_cons (pv 2) (pa_cons (pv 3) (pa_cons (pv 4) pa_nil))))))) pss_nil)
      (pss_one (ps_ret (pe_callN (CX := L2.CX P w) (E := E) (ok_worth T) (hr.mono (by decide)) (by rfl) T.g_worth T.F_worth.kp T.kb_5 (passes_call (takes_of rfl rfl rfl rfl) (fun _ _ _ _ h => h)) (pa_cons (pv 1) (pa_cons (pv 2) pa_nil)) (pk_cons (pv 4) (pk_cons (pv 3) pk_nil)))))), ?_⟩
  have fin : spWorth T.C_Bead T.C_Share T.C_NoSuch T.C_NoShare [.ref b, .ref tf, .int g, .int o] H Q E := ⟨b, tf, g, o, r, kvs, rfl, hb, hG, ht, hT, hg, ho, q, qe⟩
  refine ⟨_, rfl, _, _, rfl, rfl, (by show (0 : Int) < 2; decide), rfl, _, rfl, ite2 (fun _ => ?_) (fun _ => ?_)⟩
  · exact ⟨_, rfl, _, rfl, _, rfl, _, rfl, fin⟩
  · exact ⟨_, rfl, _, rfl, _, rfl, _, rfl, rfl, rfl, fin⟩
inductive Th11 (CB : Addr) (H : Hp) (w g o : Int) (kvs : List (List Str × Int)) : V → Due → Prop where
  | bead {b : Addr} {r : Rw} (h : BeadAt CB H b r) (hG : GoodRw r) : Th11 CB H w g o kvs (.ref b) (dueOf kvs g o r)
  | list {b : Addr} {xs : List V} {rs : List Rw} (h : H b = some (.lst xs)) (hB : BdL CB H xs rs) (hl : rs.length ≤ 10) (hG : ∀ r ∈ rs, GoodRw r) : Th11 CB H w g o kvs (.ref b) (dueAll (dueOf kvs (gOf w g) (oOf w o)) (0, 1) rs)
def spToldL (CB : Addr) : Sp := fun vs H Q E => ∃ (tf : Addr) (w g o : Int) (v : V) (d : Due) (kvs : List (List Str × Int)), vs = [.int w, v, .ref tf, .int g, .int o] ∧ 0 ≤ w ∧ w < 6 ∧ Th11 CB H w g o kvs v d ∧ H tf = some (.dT (dictV kvs)) ∧ GoodT kvs ∧ Sml g ∧ Sml o ∧
  ∀ (H' : Hp) (t : Addr), Same H H' → DueAt H' d t → Q (.ref t) H'
theorem ok_told (T : Tx K mg) : FnOk P w K mg base CX0 10 T.A_told T.fd_told ["_law_way", "_law_thing", "_law_tariff", "_law_ground", "_law_bored"] (spToldL T.C_Bead) := by
  refine T.F_told.ok sc_told (fun vs H Q E h => ?_) (fun cdv A outer s H vs Q E hr h => ?_)
  · obtain ⟨tf, wy, g, o, v, du, kvs, rfl, hw0, hw1, hv, ht, hT, hg, ho, q⟩ := h
    rfl
  obtain ⟨tf, wy, g, o, v, du, kvs, rfl, hw0, hw1, hv, ht, hT, hg, ho, q⟩ := h
  refine ⟨_, (pss_one (ps_try_all rfl rfl sc_told.nd L2.takes0 (fun W pn xe tk _ => (pss_cutJ (ps_if (pt_val (pe_callB (call_isiS (K' := K) rfl) (by rfl) T.z_isinstance (by decide +kernel) (pa_cons (pv 1) (pa_cons (pe_bltn (v := .ty "list") (by rfl) T.z_list (by decide +kernel) rfl) pa_nil)))) (pss_one (ps_set (i := 5) sc_told.nd rfl (Or.inl rfl) (pe_callS (ok_called T) (hr.mono (by decide)) (by rfl) T.g_called T.F_called.kp T.b_called (fun σ => passAt tk σ) (pa_cons (pv 0) (pa_cons (pv 1) (pa_cons (pv 2) (pa_cons (pv 3) (pa_cons (pv 4) pa_nil)))))))) (pss_one (ps_set (i := 5) sc_told.nd rfl (Or.inl rfl) (pe_callS (ok_one T) (hr.mono (by decide)) (by rfl) T.g_one T.F_one.kp T.b_one (fun σ => passAt tk σ) (pa_cons (pv 0) (pa_cons (pv 1) (pa_cons (pv 2) (pa_cons (pv 3) (pa_cons (pv 4) pa_nil)))))))))
      (pss_one (ps_ret (pe_tup (pa_cons pe_str (pa_cons (pe_fldK (K' := K) rfl (pv 5) rfl) (pa_cons (pe_fldK (K' := K) rfl (pv 5) rfl) pa_nil))))))))
        (.cons ⟨rfl, by decide, .inl T.g_NoSuch⟩ (j := 6) rfl rfl (fun a oe cls d pn hz hf => (pss_one (ps_ret (pe_tup (pa_cons pe_str (pa_cons (pe_xf ⟨T.xc_NoSuch.hg, T.xc_NoSuch.hk, T.xc_NoSuch.hs, T.xc_NoSuch.hd⟩ T.nf_NoSuch_kind hz hf (pv 6)) (pa_cons (pe_xf ⟨T.xc_NoSuch.hg, T.xc_NoSuch.hk, T.xc_NoSuch.hs, T.xc_NoSuch.hd⟩ T.nf_NoSuch_name hz hf (pv 6)) pa_nil))))))) (.cons ⟨rfl, by decide, .inl T.g_NoShare⟩ (j := 6) rfl rfl (fun a oe cls d pn hz hf => (pss_one (ps_ret (pe_tup (pa_cons pe_str (pa_cons (pe_xf ⟨T.xc_NoShare.hg, T.xc_NoShare.hk, T.xc_NoShare.hs, T.xc_NoShare.hd⟩ T.nf_NoShare_num hz hf (pv 6)) pa_nil)))))) .nil)))), ?_⟩
  refine ⟨fun σ' H' => ∃ (s : Addr) (x : Int × Int) (w6 : Option V), σ' = [some (.int wy), some v, some (.ref tf), some (.int g), some (.int o), some (.ref s), w6] ∧ Same H H' ∧ ShAt T.C_Share H' s x ∧ du = .told x, ?_, ?_⟩
  · cases hv with
    | @bead b r h hG =>
      obtain ⟨dx, hb⟩ := id h
      refine ⟨_, rfl, .ref b, .ty "list", .ref T.C_Bead, .type "list", false, rfl, .ty _, T.i_Bead.ty T.cl_Bead hb, T.lb_Bead, _, rfl, iteF ?_⟩
      refine ⟨_, rfl, _, rfl, _, rfl, _, rfl, _, rfl, b, tf, wy, g, o, r, kvs, rfl, h, hG, ht, hT, hg, ho, fun x hx H1 s s1 h1 => ⟨s, x, _, rfl, s1, h1, hx⟩, fun cls d H1 s1 h1 => ?_⟩
      generalize dueOf kvs g o r = du at h1 q
      cases du with
      | told x => exact h1.elim
      | none sh fo =>
        obtain ⟨rfl, dd, t, rfl, hd, ht2⟩ := h1
        exact ⟨true, T.em_NoSuch_NoSuch, fun _ a ha => ⟨_, rfl, rfl, rfl, dd, _, _, rfl, hd, rfl, _, rfl, rfl, rfl, dd, _, _, rfl, hd, rfl, (by show 3 ≤ sizeLine; decide), fun p hp => q _ p (s1.trans (same_upd hp)) ⟨t, upd_same, same_upd hp _ _ ht2⟩⟩, fun z => by cases z⟩
      | nought n =>
        obtain ⟨rfl, dd, rfl, hd⟩ := h1
        exact ⟨false, T.en_NoShare, (fun z => by cases z), fun _ => ⟨true, T.em_NoShare_NoShare, fun _ a ha => ⟨_, rfl, rfl, rfl, dd, _, _, rfl, hd, rfl, (by show 2 ≤ sizeLine; decide), fun p hp => q _ p (s1.trans (same_upd hp)) upd_same⟩, (fun z => by cases z)⟩⟩
    | @list b xs rs h hB hl hG =>
      refine ⟨_, rfl, .ref b, .ty "list", .type "list", .type "list", true, rfl, .ty _, .base (.lst h), kit_ty (r := true) (by decide +kernel), _, rfl, iteT ?_⟩
      refine ⟨_, rfl, _, rfl, _, rfl, _, rfl, _, rfl, b, tf, wy, g, o, xs, rs, kvs, rfl, hw0, hw1, h, hB, hl, hG, ht, hT, hg, ho, fun x hx H1 s s1 h1 => ⟨s, x, _, rfl, s1, h1, hx⟩, fun cls d H1 s1 h1 => ?_⟩
      generalize dueAll (dueOf kvs (gOf wy g) (oOf wy o)) (0, 1) rs = du at h1 q
      cases du with
      | told x => exact h1.elim
      | none sh fo =>
        obtain ⟨rfl, dd, t, rfl, hd, ht2⟩ := h1
        exact ⟨true, T.em_NoSuch_NoSuch, fun _ a ha => ⟨_, rfl, rfl, rfl, dd, _, _, rfl, hd, rfl, _, rfl, rfl, rfl, dd, _, _, rfl, hd, rfl, (by show 3 ≤ sizeLine; decide), fun p hp => q _ p (s1.trans (same_upd hp)) ⟨t, upd_same, same_upd hp _ _ ht2⟩⟩, fun z => by cases z⟩
      | nought n =>
        obtain ⟨rfl, dd, rfl, hd⟩ := h1
        exact ⟨false, T.en_NoShare, (fun z => by cases z), fun _ => ⟨true, T.em_NoShare_NoShare, fun _ a ha => ⟨_, rfl, rfl, rfl, dd, _, _, rfl, hd, rfl, (by show 2 ≤ sizeLine; decide), fun p hp => q _ p (s1.trans (same_upd hp)) upd_same⟩, (fun z => by cases z)⟩⟩
  · rintro σ' H1 ⟨s, x, w6, rfl, s1, ⟨dx, h1⟩, rfl⟩
    refine ⟨_, rfl, s, _, dx, _, _, rfl, h1, T.cl_Share, T.n_Share_num, sf_num x, _, rfl, s, _, dx, _, _, rfl, h1, T.cl_Share, T.n_Share_over, sf_over x, (by show 3 ≤ sizeLine; decide), fun p hp => q _ p (s1.trans (same_upd hp)) upd_same⟩
end
end KB
namespace KB
open PySem PySem.Spec PyProof.Rows L2 KA
section
variable {P : Program} {w : World} {K : PySem.W.Frag} {mg : Str → Option Value} {base : Heap}
theorem sh_name {z : Str} (h : nm (.str z) = true) : PyData.canLay0 (.str z) = true := by
  have nmE : nm (.str z) = (decide (1 ≤ z.length) && decide (z.length ≤ 8) && z.cps.toList.all lower) := rfl
  rw [nmE] at h
  simp only [Bool.and_eq_true] at h
  show z.cps.all (· < 0x110000) = true
  rw [← Array.all_toList, List.all_eq_true]
  intro c hc
  have := lower_lt (List.all_eq_true.mp h.2 c hc)
  exact decide_eq_true (by omega)
theorem dr_nl {Q : Int → Prop} {d : Addr} {n : Nat} {H H' : Hp} (dr : Dr Q d n H) (b : But d H H') : NL H H' := fun c o hn hc => by
  obtain ⟨_, _, _, e, _⟩ := dr
  exact b c o (fun z => by rw [z, e] at hc; exact hn _ (Option.some.inj hc).symm) hc
/-- [row(..) for k in range(n)] -/
theorem lc_rows {d D : Addr} {m n : Nat} {H1 : Hp} (hD : H1 D = none) (dr : Dr PM d m H1) (hn : n ≤ 10) {g : TG} {tt : TT} {te : TE} {vs : List Nat} {σ : L2.St} {Qd : Hp → Prop}
    (turn : ∀ (i : Nat) (H2 : Hp) (R : V → Hp → Prop) (C : Hp → Prop), i < n → But d H1 H2 → Dr PM d (m + 7 * i) H2 → (∀ (H3 : Hp) (t : Addr) (r : Rw), But d H2 H3 → Dr PM d (m + 7 * i + 7) H3 → GoodRw r → H3 t = some (.tup (rowVals r)) → R (.ref t) H3) → g (.int (0 + i)) (wipe σ vs) H2 fun σ2 H2 => wipe σ2 vs = wipe σ vs ∧ tt σ2 H2 fun b H3 => if b = true then te σ2 H3 R else C H3)
    (fin : ∀ (H' : Hp) (xs : List V) (rs : List Rw), But d H1 H' → Dr PM d (m + 7 * n) H' → H' D = some (.lst xs) → RwL H' xs rs → rs.length = n → (∀ r ∈ rs, GoodRw r) → Qd H') :
    ∃ W : Nat → Nat → Hp → Prop, (∃ m, W 0 m (upd H1 D (.lst []))) ∧ ∀ i m H, W i m H →
      ((Itr 0 n).stop i H ∧ Qd H) ∨ ((Itr 0 n).go i H ∧ ∃ Nx : Hp → Prop, (∀ H', Nx H' → ∃ m', m' < m ∧ W (i + 1) m' H') ∧ ∀ x H', (Itr 0 n).yld i H x H' → g x (wipe σ vs) H' fun σ2 H2 => wipe σ2 vs = wipe σ vs ∧ tt σ2 H2 fun b H3 =>
        if b = true then te σ2 H3 fun y H4 => ∃ acc, H4 D = some (.lst acc) ∧ acc.length < sizeLine ∧ Nx (upd H4 D (.lst (acc ++ [y]))) else Nx H3) := by
  have nD : D ≠ d := dr.ne hD
  refine lc_range (lo := 0) (n := n) (fun i H' => ∃ (xs : List V) (rs : List Rw), But d H1 H' ∧ Dr PM d (m + 7 * i) H' ∧ H' D = some (.lst xs) ∧ RwL H' xs rs ∧ rs.length = i ∧ ∀ r ∈ rs, GoodRw r) ⟨[], [], But.new hD, dr.upd nD, upd_same, ⟨rfl, fun i r h => by simp at h⟩, rfl, (fun _ h => nomatch h)⟩ ?_ ?_
  · rintro i H2 hi ⟨xs, rs, b2, dr2, e2, hR, hl, hG⟩
    refine turn i H2 _ _ hi b2 dr2 fun H3 t r b3 dr3 gr ht => ?_
    have e3 := b3 _ _ nD e2
    refine ⟨_, e3, ?_, xs ++ [.ref t], rs ++ [r], ?_, ?_, upd_same, ?_, ?_, ?_⟩
    · rw [hR.1, hl]
      exact Nat.lt_of_lt_of_le (show i < 1000 by omega) (by decide)
    · exact (b2.trans b3).mut hD
    · exact (dr3.upd nD).mono (by omega)
    · exact ((hR.nl (dr_nl dr2 b3)).snoc ht).nl (NL.at_ e3)
    · rw [List.length_append, hl]
      rfl
    · intro z hz
      rcases List.mem_append.mp hz with h | h
      · exact hG z h
      · rw [List.mem_singleton.mp h]
        exact gr
  · rintro H' ⟨xs, rs, b, dr', e, hR, hl, hG⟩
    exact fin H' xs rs b dr' e hR hl hG
/-! ### the tariff -/
def GoodP (p : List Str × Int) : Prop := (∃ s f : Str, p.1 = [s, f] ∧ nm (.str s) = true ∧ nm (.str f) = true) ∧ 0 ≤ p.2 ∧ p.2 < 100000000000000000000
theorem put_dict {kvs : List (List Str × Int)} {s f : Str} {x : Int} (hK : ∀ p ∈ kvs, GoodP p) (hs : nm (.str s) = true) (hf : nm (.str f) = true) (h0 : 0 ≤ x) (h1 : x < 100000000000000000000) :
    ∃ kvs', putK (dictV kvs) [Sum.inr s, Sum.inr f] (.int x) = dictV kvs' ∧ kvs'.length ≤ kvs.length + 1 ∧ ∀ p ∈ kvs', GoodP p := by
  unfold putK
  split
  · refine ⟨kvs.map fun p => if (p.1.map Sum.inr : List Key) = [Sum.inr s, Sum.inr f] then (p.1, x) else p, ?_, ?_, ?_⟩
    · unfold dictV
      rw [List.map_map, List.map_map]
      refine List.map_congr_left fun p _ => ?_
      show (if (p.1.map Sum.inr : List Key) = [Sum.inr s, Sum.inr f] then ((p.1.map Sum.inr : List Key), V.int x) else ((p.1.map Sum.inr : List Key), V.int p.2)) = ((if (p.1.map Sum.inr : List Key) = [Sum.inr s, Sum.inr f] then (p.1, x) else p).1.map Sum.inr, V.int (if (p.1.map Sum.inr : List Key) = [Sum.inr s, Sum.inr f] then (p.1, x) else p).2)
      split <;> rfl
    · rw [List.length_map]
      omega
    · intro p hp
      obtain ⟨p0, h2, rfl⟩ := List.mem_map.mp hp
      have g := hK p0 h2
      split
      · exact ⟨g.1, h0, h1⟩
      · exact g
  · refine ⟨kvs ++ [([s, f], x)], ?_, ?_, ?_⟩
    · unfold dictV
      rw [List.map_append]
      rfl
    · rw [List.length_append]
      exact Nat.le_refl _
    · intro p hp
      rcases List.mem_append.mp hp with h | h
      · exact hK p h
      · rw [List.mem_singleton.mp h]
        exact ⟨⟨s, f, rfl, hs, hf⟩, h0, h1⟩
theorem goodT_of {kvs : List (List Str × Int)} (hK : ∀ p ∈ kvs, GoodP p) : GoodT kvs := fun p hp => (hK p hp).2
/-! ### what is shown -/
def reprS (r : Rw) : Str := ⟨(reprL r).toArray⟩
theorem tf_le : ∀ (ts : List Str) (k : Nat) (acc : Str), (textFrom k acc ts).length ≤ acc.length + piled ts
  | [], k, acc => by show acc.length ≤ acc.length + 0; omega
  | t :: ts, k, acc => by
    have h := tf_le ts (k + 1) (acc ++ (if k > 0 then ", " else "" : String) ++ t)
    rw [piled_cons]
    have e : (acc ++ ((if k > 0 then ", " else "" : String) : Str) ++ t).length ≤ acc.length + (t.length + 2) := by
      rw [Str.length_append, Str.length_append]
      have : (((if k > 0 then ", " else "" : String) : Str)).length ≤ 2 := by
        split
        · decide +kernel
        · decide +kernel
      omega
    show (textFrom (k + 1) (acc ++ (if k > 0 then ", " else "" : String) ++ t) ts).length ≤ _
    omega
theorem piled_le {m : Nat} : ∀ {ts : List Str}, (∀ t ∈ ts, t.length ≤ m) → piled ts ≤ ts.length * (m + 2)
  | [], _ => by show 0 ≤ _; omega
  | t :: ts, h => by
    have := piled_le (ts := ts) fun t ht => h t (List.mem_cons_of_mem _ ht)
    have := h t (List.mem_cons_self ..)
    rw [piled_cons, List.length_cons, Nat.add_mul, Nat.one_mul]
    omega
theorem join_le' (ts : List Str) : (Str.join ", " ts).length ≤ piled ts := by
  cases ts with
  | nil => decide +kernel
  | cons t r =>
    have := join_length_add (t :: r) (by simp)
    omega
theorem list_le (ts : List Str) : (listText ts).length ≤ piled ts + 2 := by
  unfold listText
  rw [Str.length_append]
  have := tf_le ts 0 "["
  have e1 : ("[" : Str).length = 1 := by decide +kernel
  have e2 : ("]" : Str).length = 1 := by decide +kernel
  omega
theorem dict_le (ts : List Str) : (dictText ts).length ≤ piled ts + 2 := by
  unfold dictText
  rw [Str.length_append, Str.length_append]
  have := join_le' ts
  have e1 : ("{" : Str).length = 1 := by decide +kernel
  have e2 : ("}" : Str).length = 1 := by decide +kernel
  omega
theorem tup_le (ts : List Str) : (tupleText ts).length ≤ piled ts + 3 := by
  unfold tupleText
  rw [Str.length_append, Str.length_append]
  have := join_le' ts
  have e1 : ("(" : Str).length = 1 := by decide +kernel
  have e2 : (((if ts.length == 1 then ",)" else ")" : String) : Str)).length ≤ 2 := by
    split
    · decide +kernel
    · decide +kernel
  omega
theorem ent_le {p : List Str × Int} (h : GoodP p) : (entText p).length ≤ 100 := by
  obtain ⟨⟨s, f, e, hs, hf⟩, h0, h1⟩ := h
  unfold entText keyText
  rw [e, Str.length_append, Str.length_append]
  have a := tup_le ([s, f].map PySem.reprText)
  have b : piled ([s, f].map PySem.reprText) ≤ 24 := by
    show piled [PySem.reprText s, PySem.reprText f] ≤ 24
    rw [piled_cons, piled_cons, piled_nil]
    have := repr_le hs
    have := repr_le hf
    omega
  have c : (Str.ofString (toString p.2)).length ≤ 59 := toString_length_le h0 (by decide) (by
    have e : (10 : Int) ^ 59 = 100000000000000000000000000000000000000000000000000000000000 := by decide
    rw [e]
    omega)
  have d : (": " : Str).length = 2 := by decide +kernel
  omega
def shownT (kvs : List (List Str × Int)) (rs : List Rw) : List Str := [dictText (kvs.map entText), listText (rs.map reprS)]
theorem reprS_le {r : Rw} {z : Str} (h : TL.tl z = reprL r) : z = reprS r := TL.ext_tl (by rw [h]; rfl)
theorem shown_all {X : Cx} (T : Tx X.K X.mg) {H : Hp} {t0 tf sl : Addr} {kvs : List (List Str × Int)} {xs : List V} {rs : List Rw} (ht0 : H t0 = some (.tup [.ref tf, .ref sl])) (ht : H tf = some (.dT (dictV kvs))) (hK : ∀ p ∈ kvs, GoodP p) (hs : H sl = some (.lst xs)) (hB : BdL T.C_Bead H xs rs) (hG : ∀ r ∈ rs, GoodRw r) :
    ShowsAll X 4 t0 H [.ref tf, .ref sl] (shownT kvs rs) := by
  refine .cons (shows_dT ht0 (fun ks z => ?_) ht fun p hp => ?_) (.cons (shows_listG (n := 1) (fun z => ?_) hs (by rw [List.length_map, hB.1]) fun i x t hx ht' => ?_) .nil)
  · cases ks with
    | nil => simp at z
    | cons k ks => simp at z
  · obtain ⟨⟨s, f, e, gs, gf⟩, h0, h1⟩ := hK p hp
    refine ⟨fun k hk => ?_, ?_⟩
    · rw [e] at hk
      simp only [List.mem_cons, List.not_mem_nil, or_false] at hk
      rcases hk with rfl | rfl
      · exact Nat.le_trans (repr_le gs) (by decide)
      · exact Nat.le_trans (repr_le gf) (by decide)
    · by_cases hz : p.2 = 0
      · rw [hz]
        decide
      · exact Nat.lt_of_lt_of_le (PySem.Flt.log2_lt_of (k := 200) (by omega) (by
          have e2 : (2 : Nat) ^ 200 = 1606938044258990275541962092341162602522202993782792835301376 := by decide
          rw [e2]
          omega)) (by decide)
  · rw [z, ht0] at hs
    cases hs
  · have hi : i < rs.length := by
      rw [← hB.1]
      exact (List.getElem?_eq_some_iff.mp hx).1
    obtain ⟨p, h1, hp⟩ := hB.2 i _ (List.getElem?_eq_getElem hi)
    rw [h1] at hx
    cases hx
    rw [List.getElem?_map, List.getElem?_eq_getElem hi] at ht'
    cases ht'
    obtain ⟨dx, hp'⟩ := id hp
    refine shows_own (E := E0) (ok_Bead_repr (P := X.prog) (w := X.w) (base := X.base) T) T.m_Bead_repr.at_ T.m_Bead_repr.fn T.b_Bead_repr pass0 hp' fun H1 Q s1 q => ?_
    refine ⟨p, rs[i], rfl, ⟨dx, s1 _ _ hp'⟩, hG _ (List.getElem_mem hi), fun H' z hz _ s2 => ?_⟩
    rw [reprS_le hz]
    exact q H' s2
theorem shown_len {kvs : List (List Str × Int)} {rs : List Rw} (hK : ∀ p ∈ kvs, GoodP p) (hk : kvs.length ≤ 10) (hr : ∀ r ∈ rs, (reprS r).length ≤ 1000) (hl : rs.length ≤ 10) : (tupleText (shownT kvs rs)).length ≤ sizeLine := by
  have a := tup_le (shownT kvs rs)
  unfold shownT at a ⊢
  rw [piled_cons, piled_cons, piled_nil] at a
  have b := dict_le (kvs.map entText)
  have c := list_le (rs.map reprS)
  have d := piled_le (m := 100) (ts := kvs.map entText) fun t ht => by
    obtain ⟨p, hp, rfl⟩ := List.mem_map.mp ht
    exact ent_le (hK p hp)
  have e := piled_le (m := 1000) (ts := rs.map reprS) fun t ht => by
    obtain ⟨p, hp, rfl⟩ := List.mem_map.mp ht
    exact hr p hp
  rw [List.length_map] at d e
  have f : kvs.length * 102 ≤ 10 * 102 := Nat.mul_le_mul_right _ hk
  have g : rs.length * 1002 ≤ 10 * 1002 := Nat.mul_le_mul_right _ hl
  exact Nat.le_trans (show _ ≤ 100000 by omega) (by decide)
/-! ### both alike -/
def dueD : Due → PyData
  | .none sh fo => .tuple [.str "none", .str "rate", .tuple [.str sh, .str fo]]
  | .nought n => .tuple [.str "nought", .int n]
  | .told x => .tuple [.str "told", .int x.1, .int x.2]
def GoodD : Due → Prop
  | .none sh fo => nm (.str sh) = true ∧ nm (.str fo) = true
  | _ => True
theorem due_dp {H : Hp} : ∀ {d : Due} {t : Addr}, DueAt H d t → Dp K H (.ref t) (dueD d)
  | .none _ _, _, ⟨_, h1, h2⟩ => .tup (.inl (.inl h1)) (.cons (.str _) (.cons (.str _) (.cons (.tup (.inl (.inl h2)) (.cons (.str _) (.cons (.str _) .nil))) .nil)))
  | .nought _, _, h => .tup (.inl (.inl h)) (.cons (.str _) (.cons (.int _) .nil))
  | .told _, _, h => .tup (.inl (.inl h)) (.cons (.str _) (.cons (.int _) (.cons (.int _) .nil)))
theorem lay_none : PyData.canLay0 (.str "none") = true := by decide +kernel
theorem lay_rate : PyData.canLay0 (.str "rate") = true := by decide +kernel
theorem lay_nought : PyData.canLay0 (.str "nought") = true := by decide +kernel
theorem lay_told : PyData.canLay0 (.str "told") = true := by decide +kernel
theorem due_shaped : ∀ {d : Due}, GoodD d → SeqAt.shaped (dueD d) = true
  | .none sh fo, h => by
    show ((PyData.canLay0 (.str "none") && (PyData.canLay0 (.str "rate") && ((PyData.canLay0 (.str sh) && (PyData.canLay0 (.str fo) && true)) && true))) && decide (2 ≤ 64)) = true
    rw [sh_name h.1, sh_name h.2, lay_none, lay_rate]
    rfl
  | .nought n, _ => by
    show ((PyData.canLay0 (.str "nought") && (true && true)) && decide (1 ≤ 64)) = true
    rw [lay_nought]
    rfl
  | .told x, _ => by
    show ((PyData.canLay0 (.str "told") && (true && (true && true))) && decide (1 ≤ 64)) = true
    rw [lay_told]
    rfl
theorem due_ne {H : Hp} {d : Due} {t1 t2 : Addr} {R : VK} (h1 : DueAt H d t1) (h2 : DueAt H d t2) (hG : GoodD d) (q : R (.bl false) H) : rNeD K (.ref t1) (.ref t2) H R := by
  refine ⟨dueD d, dueD d, due_dp h1, due_dp h2, due_shaped hG, due_shaped hG, ?_⟩
  rw [SeqAt.eqv_refl _ (SeqAt.canLay_of_shaped (due_shaped hG))]
  exact q
theorem goodD_one {kvs : List (List Str × Int)} {g o : Int} {r : Rw} (h : GoodRw r) (hT : GoodT kvs) : GoodD (dueOf kvs g o r) := by
  unfold dueOf
  rcases rate_cases hT r with e | ⟨x, e, _, _⟩
  · rw [e]
    exact ⟨h.2.2.2.1, h.2.2.2.2⟩
  · rw [e]
    dsimp only
    split
    · trivial
    · trivial
theorem goodD_all {kvs : List (List Str × Int)} {g o : Int} (hT : GoodT kvs) : ∀ {rs : List Rw} {t : Int × Int}, (∀ r ∈ rs, GoodRw r) → GoodD (dueAll (dueOf kvs g o) t rs)
  | [], _, _ => trivial
  | r :: rs, t, h => by
    have a := goodD_one (g := g) (o := o) (h r (List.mem_cons_self ..)) hT
    unfold dueAll
    cases e : dueOf kvs g o r with
    | told x => exact goodD_all hT fun z hz => h z (List.mem_cons_of_mem _ hz)
    | none sh fo => rw [e] at a; exact a
    | nought n => trivial
theorem at6 {g : Int} {w : Int} (h0 : 0 ≤ w) (h1 : w < 6) : atI [V.int g, V.int g, V.int g, V.int 1, V.int 1, V.int g] w = some (.int (gOf w g)) := by
  rcases (by omega : w = 0 ∨ w = 1 ∨ w = 2 ∨ w = 3 ∨ w = 4 ∨ w = 5) with rfl | rfl | rfl | rfl | rfl | rfl <;> rfl
theorem at6' {o : Int} {w : Int} (h0 : 0 ≤ w) (h1 : w < 6) : atI [V.int o, V.int o, V.int o, V.int 2, V.int o, V.int 2] w = some (.int (oOf w o)) := by
  rcases (by omega : w = 0 ∨ w = 1 ∨ w = 2 ∨ w = 3 ∨ w = 4 ∨ w = 5) with rfl | rfl | rfl | rfl | rfl | rfl <;> rfl
theorem sml_g {w g : Int} (h : Sml g) : Sml (gOf w g) := by
  unfold gOf
  split
  · exact ⟨by decide, by decide⟩
  · exact h
theorem sml_o {w o : Int} (h : Sml o) : Sml (oOf w o) := by
  unfold oOf
  split
  · exact ⟨by decide, by decide⟩
  · exact h
theorem ne_at (T : Tx K mg) {H : Hp} {p p' : Addr} {x x' : Int × Int} (hp : ShAt T.C_Share H p x) (hp' : ShAt T.C_Share H p' x') : BOwn1 K T.C_Share (RS K T.C_Share) (.ref p) (.ref p') (likeS x x') H := by
  obtain ⟨dx, h⟩ := id hp
  obtain ⟨dx', h'⟩ := id hp'
  exact ⟨p, dx, _, _, rfl, h, T.i_Share.ty T.cl_Share h', by simp [PySem.W.notFirst], ⟨x, hp, .inl ⟨p', x', rfl, hp', rfl⟩⟩⟩
theorem eq_int (T : Tx K mg) {H : Hp} {p : Addr} {x : Int × Int} {n : Int} (hp : ShAt T.C_Share H p x) : DOwn2 K T.C_Share (.ref p) (.int n) false H := by
  obtain ⟨dx, h⟩ := id hp
  exact .inl ⟨p, dx, _, .type "int", rfl, h, .base (.int _), T.nf_int, ⟨x, hp, .inr ⟨"int", by decide, .base (.int _), rfl⟩⟩, fun z => by cases z⟩
end
end KB
namespace KB
open PySem PySem.Spec PyProof.Rows L2 KA
section
variable {P : Program} {w : World} {K : PySem.W.Frag} {mg : Str → Option Value} {base : Heap}
theorem reprS_len {r : Rw} (h : GoodRw r) : (reprS r).length ≤ 1000 := by
  obtain ⟨g1, g2, g3, g4, g5⟩ := h
  obtain ⟨a1, a2⟩ := whl_of g1
  obtain ⟨a3, a4⟩ := whl_of g2
  obtain ⟨a5, a6⟩ := whl_of g3
  have l1 := num_le (n := r.num) (by omega) a2
  have l2 := num_le (n := r.ac) (by omega) (by omega)
  have l3 := num_le (n := r.we) (by omega) (by omega)
  have l4 := (nm_low g4).1
  have l5 := (nm_low g5).1
  rw [TL.len_tl] at l1 l2 l3 l4 l5
  show ((reprL r).toArray).size ≤ 1000
  have c1 : (TL.tl "Bead(").length ≤ 10 := by decide +kernel
  have c2 : (TL.tl ", ").length ≤ 10 := by decide +kernel
  have c3 : (TL.tl ", form=").length ≤ 10 := by decide +kernel
  have c4 : (TL.tl ", drilled=True").length ≤ 20 := by decide +kernel
  rw [List.size_toArray]
  unfold reprL nL
  have c5 : (if r.fo = "round" then [] else TL.tl ", form=" ++ ([39] ++ (TL.tl r.fo ++ [39]))).length ≤ 30 := by
    split
    · exact Nat.zero_le _
    · simp only [List.length_append, List.length_cons, List.length_nil]
      omega
  have c6 : (if r.dr = true then TL.tl ", drilled=True" else []).length ≤ 30 := by
    split
    · omega
    · exact Nat.zero_le _
  simp only [List.length_append, List.length_cons, List.length_nil]
  omega
def But2 (d t : Addr) (H H' : Hp) : Prop := ∀ c o, c ≠ d → c ≠ t → H c = some o → H' c = some o
theorem But2.trans {d t : Addr} {H H1 H2 : Hp} (a : But2 d t H H1) (b : But2 d t H1 H2) : But2 d t H H2 := fun c o n1 n2 h => b c o n1 n2 (a c o n1 n2 h)
theorem But2.of {d t : Addr} {H H1 : Hp} (a : But d H H1) : But2 d t H H1 := fun c o n1 _ h => a c o n1 h
theorem cut0 (xs : List V) : cutV xs none (some 0) = [] := by
  unfold cutV
  simp [HT.sIx]
def spLaw (K : PySem.W.Frag) : Sp := fun vs H Q _ => ∃ (a : Addr) (ns : List Int), vs = [.ref a] ∧ SqL K H a (ns.map V.int) ∧ ns.length ≤ 63 ∧ ∀ H', Q (.bl true) H'
theorem ok_law {f : Addr} {fd : FuncData} (T : Tx K mg) (F : Fun K "law" "law" s_law f fd) : FnG P w K mg base CX0 19 f fd ["_law_script"] (spLaw K) := by
  refine fun_okG F sc_law (fun vs H Q E h => ?_) (fun cdv A outer s H vs Q E hr gd h => ?_)
  · obtain ⟨a, ns, rfl, hS, hlen, q⟩ := h
    rfl
  obtain ⟨a, ns, rfl, hS, hlen, q⟩ := h
  refine ⟨_, (pss_cons (ps_for PassesOwn.never rfl (pi_list (pe_slice sl_list (pe_op op_catQ (pv 0) (pe_lst (pa_cons pe_int pa_nil))) po_none (po_some pe_int))) (pg_name (i := 1) sc_law.nd rfl (Or.inl rfl))
        (pss_cons (ps_set (i := 2) sc_law.nd rfl (Or.inr rfl) (pe_call (ok_draws T) (hr.mono (by decide)) (by rfl) T.g_draws T.F_draws.kp T.b_draws .nil pass0 (pa_cons (pv 1) pa_nil)))
      (pss_cons (ps_set (i := 3) sc_law.nd rfl (Or.inr rfl) (pe_call (ok_words T) (hr.mono (by decide)) (by rfl) T.g_words T.F_words.kp T.b_words .nil pass0 (pa_cons (pv 2) (pa_cons pe_int pa_nil))))
      (pss_cons (ps_setLc (i := 4) (own := [("_law_k", 18)]) (g := gName 18) (tt := tYes) rfl sc_law.nd rfl rfl (sw_true rfl rfl rfl (by decide +kernel)) (pi_range1 (by rfl) T.z_range (pa_cons (pe_op op_add pe_int (pe_call (ok_next T) (hr.mono (by decide)) (by rfl) T.g_next T.F_next.kp T.b_next .nil pass0 (pa_cons (pv 2) (pa_cons pe_int pa_nil)))) pa_nil)) (blkOk_by (N := ["_law_script", "_law_cell", "_law_draws_here", "_law_words_here", "_law_rows", "_law_some", "_law_tariff", "_law_shade", "_law_form", "_law_ground", "_law_bored", "_law_way", "_law_plain", "_law_other", "_law_shown", "_law_turn", "_law_row_here", "_law_bead", "_law_k"]) (sc := defScope s_law) (by decide +kernel)) (fun _ _ _ _ _ => (pg_name (i := 18) sc_law.nd rfl (Or.inl rfl))) (fun _ _ _ _ _ => pts_nil) (fun _ _ _ _ _ => (pe_call (ok_row T) (hr.mono (by decide)) (by rfl) T.g_row T.F_row.kp T.b_row .nil pass0 (pa_cons (pv 2) (pa_cons (pe_op op_add pe_int (pv 18)) (pa_cons (pv 3) (pa_cons (pe_op op_add pe_int (pe_call (ok_next T) (hr.mono (by decide)) (by rfl) T.g_next T.F_next.kp T.b_next .nil pass0 (pa_cons (pv 2) (pa_cons (pe_op op_pow pe_int pe_int) pa_nil)))) pa_nil)))))))
      (pss_cons (ps_setLc (i := 5) (own := [("_law_row_here", 16)]) (g := gName 16) (tt := tYes) rfl sc_law.nd rfl rfl (sw_true rfl rfl rfl (by decide +kernel)) (pi_list (pv 4)) (blkOk_by (N := ["_law_script", "_law_cell", "_law_draws_here", "_law_words_here", "_law_rows", "_law_some", "_law_tariff", "_law_shade", "_law_form", "_law_ground", "_law_bored", "_law_way", "_law_plain", "_law_other", "_law_shown", "_law_turn", "_law_row_here", "_law_bead", "_law_k"]) (sc := defScope s_law) (by decide +kernel)) (fun _ _ _ _ _ => (pg_name (i := 16) sc_law.nd rfl (Or.inl rfl))) (fun _ _ _ _ _ => pts_nil) (fun _ _ _ _ _ => (pe_call (ok_bead_of T) (hr.mono (by decide)) (by rfl) T.g_bead_of T.F_bead_of.kp T.b_bead_of .nil pass0 (pa_cons (pv 16) pa_nil))))
      (pss_cons (ps_set (i := 6) sc_law.nd rfl (Or.inl rfl) pe_dnewT)
      (pss_cons (ps_for PassesOwn.never rfl (pi_list (pe_slice sl_list (pv 3) po_none (po_some pe_int))) (pg_name (i := 7) sc_law.nd rfl (Or.inl rfl))
        (pss_one (ps_for PassesOwn.never rfl (pi_list (pe_op op_catQ (pe_lst (pa_cons pe_str pa_nil)) (pe_slice sl_list (pv 3) (po_some pe_int) po_none))) (pg_name (i := 8) sc_law.nd rfl (Or.inl rfl))
        (pss_one (ps_if (pt_cmpR op_gt (pe_call (ok_next T) (hr.mono (by decide)) (by rfl) T.g_next T.F_next.kp T.b_next .nil pass0 (pa_cons (pv 2) (pa_cons pe_int pa_nil))) pe_int (nomark _)) (pss_one (ps_dput (Nat.lt_of_le_of_lt (Nat.add_le_add_left (by decide) _) hr.units) (pv 6) (pe_tup (pa_cons (pv 7) (pa_cons (pv 8) pa_nil))) (pe_ix ix_list (pe_lst (pa_cons (pe_call (ok_next T) (hr.mono (by decide)) (by rfl) T.g_next T.F_next.kp T.b_next .nil pass0 (pa_cons (pv 2) (pa_cons pe_int pa_nil))) (pa_cons (pe_call (ok_next T) (hr.mono (by decide)) (by rfl) T.g_next T.F_next.kp T.b_next .nil pass0 (pa_cons (pv 2) (pa_cons (pe_op op_pow pe_int pe_int) pa_nil))) pa_nil))) (pe_op op_fdiv (pe_call (ok_next T) (hr.mono (by decide)) (by rfl) T.g_next T.F_next.kp T.b_next .nil pass0 (pa_cons (pv 2) (pa_cons pe_int pa_nil))) pe_int) (fun _ _ => rfl)) rfl)) pss_nil)))))
      (pss_cons (ps_par (i := 9) (j := 10) (by rfl) sc_law.nd rfl rfl (by decide) rfl rfl (pa_cons (pe_call (ok_number T) (hr.mono (by decide)) (by rfl) T.g_number T.F_number.kp T.b_number .nil pass0 (pa_cons (pv 2) pa_nil)) (pa_cons (pe_call (ok_number T) (hr.mono (by decide)) (by rfl) T.g_number T.F_number.kp T.b_number .nil pass0 (pa_cons (pv 2) pa_nil)) pa_nil)) (by rfl))
      (pss_cons (ps_set (i := 11) sc_law.nd rfl (Or.inl rfl) (pe_call (ok_next T) (hr.mono (by decide)) (by rfl) T.g_next T.F_next.kp T.b_next .nil pass0 (pa_cons (pv 2) (pa_cons pe_int pa_nil))))
      (pss_cons (ps_set (i := 12) sc_law.nd rfl (Or.inl rfl) (pe_ix ix_list (pe_lst (pa_cons (pv 9) (pa_cons (pv 9) (pa_cons (pv 9) (pa_cons pe_int (pa_cons pe_int (pa_cons (pv 9) pa_nil))))))) (pv 11) (fun _ _ => rfl)))
      (pss_cons (ps_set (i := 13) sc_law.nd rfl (Or.inl rfl) (pe_ix ix_list (pe_lst (pa_cons (pv 10) (pa_cons (pv 10) (pa_cons (pv 10) (pa_cons pe_int (pa_cons (pv 10) (pa_cons pe_int pa_nil))))))) (pv 11) (fun _ _ => rfl)))
      (pss_cons (ps_set (i := 14) sc_law.nd rfl (Or.inl rfl) (pe_callB (call_reprT (n := 4) gd (hr.mono (by decide))) (by rfl) T.z_repr (by decide +kernel) (pa_cons (pe_tup (pa_cons (pv 6) (pa_cons (pv 5) pa_nil))) pa_nil)))
      (pss_cons (ps_for PassesOwn.never rfl (pi_range1 (by rfl) T.z_range (pa_cons pe_int pa_nil)) (pg_name (i := 15) sc_law.nd rfl (Or.inl rfl))
        (pss_cons (ps_for PassesOwn.never rfl (pi_zip (by rfl) T.z_zip (pa_cons (pv 4) (pa_cons (pv 5) pa_nil))) (pg_tup (by rfl) (pgs_cons (pg_name (i := 16) sc_law.nd rfl (Or.inl rfl)) (pgs_cons (pg_name (i := 17) sc_law.nd rfl (Or.inl rfl)) pgs_nil)))
        (pss_one (ps_if (pt_cmpR (op_neD hr.units) (pe_call (ok_told T) (hr.mono (by decide)) (by rfl) T.g_told T.F_told.kp T.b_told .nil pass0 (pa_cons (pv 11) (pa_cons (pv 17) (pa_cons (pv 6) (pa_cons (pv 9) (pa_cons (pv 10) pa_nil)))))) (pe_call (ok_due T) (hr.mono (by decide)) (by rfl) T.g_due T.F_due.kp T.b_due .nil pass0 (pa_cons (pv 16) (pa_cons (pv 6) (pa_cons (pv 9) (pa_cons (pv 10) pa_nil))))) (nomark _)) (pss_one (ps_ret pe_bl)) pss_nil)))
      (pss_one (ps_if (pt_cmpR (op_neD hr.units) (pe_call (ok_told T) (hr.mono (by decide)) (by rfl) T.g_told T.F_told.kp T.b_told .nil pass0 (pa_cons (pv 11) (pa_cons (pv 5) (pa_cons (pv 6) (pa_cons (pv 9) (pa_cons (pv 10) pa_nil)))))) (pe_call (ok_due_of T) (hr.mono (by decide)) (by rfl) T.g_due_of T.F_due_of.kp T.b_due_of .nil pass0 (pa_cons (pv 4) (pa_cons (pv 6) (pa_cons (pv 12) (pa_cons (pv 13) pa_nil))))) (nomark _)) (pss_one (ps_ret pe_bl)) pss_nil))))
      (pss_one (ps_if (PW.pt (pw_or (pt_cmpR (op_neB (rcB_ne2 T) (hr.mono (by decide))) (pe_call (ok_worth_of T) (hr.mono (by decide)) (by rfl) T.g_worth_of T.F_worth_of.kp T.bd2_worth_of T.hd2_worth_of passF (pa_cons (pe_lst pa_nil) (pa_cons (pv 6) pa_nil))) (pe_make T.mk_Share (ok_Share_init T) (hr.mono (by decide)) (by rfl) T.g_Share T.bd1_Share T.hd1_Share passF (pa_cons pe_int pa_nil)) (nomark _)) (pw_or (pt_cmpR op_ne (pe_callB (call_reprT (n := 4) gd (hr.mono (by decide))) (by rfl) T.z_repr (by decide +kernel) (pa_cons (pe_tup (pa_cons (pv 6) (pa_cons (pv 5) pa_nil))) pa_nil)) (pv 14) (nomark _)) (pw_or1 (pt_cmpR (op_eqB (rcB_own2 T) (hr.mono (by decide))) (pe_call (ok_worth_of T) (hr.mono (by decide)) (by rfl) T.g_worth_of T.F_worth_of.kp T.bd2_worth_of T.hd2_worth_of passF (pa_cons (pe_slice sl_list (pv 5) po_none (po_some pe_int)) (pa_cons pe_dnewT pa_nil))) pe_int (nomark _)))))) (pss_one (ps_ret pe_bl)) pss_nil)))))))))))))))
      (pss_one (ps_ret pe_bl))), ?_⟩
  have e6 : (10 : Int) ^ (6 : Int).toNat = 1000000 := by decide
  have e20 : (10 : Int) ^ (20 : Int).toNat = 100000000000000000000 := by decide
  refine ⟨_, rfl, (by show 1 ≤ sizeLine; decide), fun p1 hp1 => ?_⟩
  refine ⟨a, p1, _, _, rfl, rfl, (same_upd hp1).seq hS, SqL.of upd_same, ?_, fun p2 hp2 => nopart ⟨12, rfl, p2, _, rfl, SqL.of upd_same, fun p3 hp3 => ?_⟩⟩
  · rw [List.length_map]
    exact Nat.le_trans (show ns.length + 1 ≤ 64 by omega) (by decide)
  generalize hcs : cutV (ns.map V.int ++ [V.int 5]) none (some 12) = cs
  have hint : ∀ v ∈ cs, ∃ n : Int, v = .int n := fun v hv => by
    rw [← hcs] at hv
    have hv := List.mem_of_mem_drop (List.mem_of_mem_take hv)
    rcases List.mem_append.mp hv with h | h
    · obtain ⟨n, _, rfl⟩ := List.mem_map.mp h
      exact ⟨n, rfl⟩
    · rw [List.mem_singleton.mp h]
      exact ⟨5, rfl⟩
  refine ⟨p3, rfl, ⟨_, SqL.of upd_same⟩, for_list (K := K) (a := p3) (xs := cs) (fun i σ H' => ∃ w1 w2 w3 w4 w5 w6 w7 w8 w9 w10 w11 w12 w13 w14 w15 w16 w17 w18 : Option V, σ = [some (.ref a), w1, w2, w3, w4, w5, w6, w7, w8, w9, w10, w11, w12, w13, w14, w15, w16, w17, w18] ∧ H' p3 = some (.lst cs)) ⟨_, _, _, _, _, _, _, _, _, _, _, _, _, _, _, _, _, _, rfl, upd_same⟩ (fun i σ H' _ h => ?_) ?_ ?_⟩
  · obtain ⟨_, _, _, _, _, _, _, _, _, _, _, _, _, _, _, _, _, _, _, e⟩ := h
    exact SqL.of e
  · rintro i x σ H0 hi ⟨w1, w2, w3, w4, w5, w6, w7, w8, w9, w10, w11, w12, w13, w14, w15, w16, w17, w18, rfl, ep⟩
    obtain ⟨cell, rfl⟩ := hint x (List.mem_of_getElem? hi)
    refine ⟨_, rfl, cell, rfl, fun d H1 hd s1 dr1 => ?_⟩
    have ndp : p3 ≠ d := fun z => by rw [z, hd] at ep; cases ep
    refine ⟨_, rfl, d, 0, rfl, dr1, by decide, fun H2 wl w0 wa wb wc hwl ew g0 g1 g2 g3 b2 dr2 => ?_⟩
    have nwl : wl ≠ d := dr1.ne hwl
    refine ⟨_, rfl, d, 8, _, rfl, by decide, log_tiny (by decide) (by decide), dr2, by decide, fun H3 r3 u3 c3 b3 dr3 => ?_⟩
    have ew3 := b3 _ _ nwl ew
    refine ⟨_, _, rfl, rfl, _, rfl, by omega, by omega, fun D hD => ?_⟩
    refine lc_rows (d := d) hD dr3 (by omega) ?_ ?_
    · intro k H4 R C hk b4 dr4 hR
      refine ⟨rfl, yesT ?_⟩
      refine ⟨_, rfl, _, rfl, _, _, rfl, rfl, _, rfl, _, rfl, _, _, rfl, rfl, ⟨by decide, by decide, by decide⟩, d, _, _, rfl, by decide, log_tiny (by decide) (by decide), dr4, by omega, fun H5 r5 u5 c5 b5 dr5 => ⟨_, _, rfl, rfl, ?_⟩⟩
      rw [e6] at c5
      refine ⟨d, wl, _, _, _, w0, wa, wb, wc, rfl, dr5, by omega, nwl, b5 _ _ nwl (b4 _ _ nwl ew3), g0, g1, g2, g3, by omega, by omega, by omega, by omega, fun H6 t r gr ht6 b6 dr6 => hR H6 t r (b5.trans b6) (dr6.mono (by omega)) gr ht6⟩
    · intro H4 rl rs b4 dr4 eD hR hlr hG
      have ep4 := b4 _ _ ndp (b3 _ _ ndp (b2 _ _ ndp (s1 _ _ ep)))
      have ew4 := b4 _ _ nwl ew3
      refine ⟨_, rfl, D, rfl, ⟨_, SqL.of eD⟩, fun D2 hD2 => ?_⟩
      refine lc_gen hD2 (SqL.of eD) (by rw [hR.1]; omega) (fun j v H' => ∀ r, rs[j]? = some r → ∃ p, v = .ref p ∧ BeadAt T.C_Bead H' p r) (fun j v H1 H2 s h r hr => ?_) ?_ ?_
      · obtain ⟨p, h1, h2⟩ := h r hr
        exact ⟨p, h1, h2.nl s⟩
      · intro i x H5 R C hi s5 hRv
        have hir : i < rs.length := by
          rw [← hR.1]
          exact (List.getElem?_eq_some_iff.mp hi).1
        obtain ⟨t, h1, ht⟩ := hR.2 i _ (List.getElem?_eq_getElem hir)
        rw [h1] at hi
        cases hi
        refine ⟨rfl, yesT ⟨_, rfl, t, rs[i], rfl, s5 _ _ ht, hG _ (List.getElem_mem hir), fun H6 p s6 np hB => hRv _ _ s6 fun r' hr' => ?_⟩⟩
        rw [List.getElem?_eq_getElem hir] at hr'
        cases hr'
        exact ⟨p, rfl, hB⟩
      · intro H5 bl s5 eD2 l5 g5
        have hB : BdL T.C_Bead H5 bl rs := ⟨by rw [l5, hR.1], fun i r hr => by
          have hi : i < bl.length := by
            rw [l5, hR.1]
            exact (List.getElem?_eq_some_iff.mp hr).1
          obtain ⟨p, h1, h2⟩ := g5 i _ (List.getElem?_eq_getElem hi) r hr
          exact ⟨p, by rw [List.getElem?_eq_getElem hi, h1], h2⟩⟩
        have eD5 := s5 _ _ eD
        have hR5 := hR.nl (NL.of s5)
        have ep5 := s5 _ _ ep4
        have ew5 := s5 _ _ ew4
        have dr5 := dr4.same s5
        have lr : rs.length ≤ 10 := by omega
        have nr : 0 + 60 + 1 + 7 * (1 + r3).toNat ≤ 1000 := by omega
        generalize 0 + 60 + 1 + 7 * (1 + r3).toNat = n5 at dr5 nr
        intro tf htf
        have ntf : tf ≠ d := dr5.ne htf
        refine ⟨_, rfl, nopart ⟨2, rfl, wl, _, rfl, SqL.of (same_upd htf _ _ ew5), fun q1 hq1 => ?_⟩⟩
        have nq1 : q1 ≠ d := (dr5.upd ntf).ne hq1
        have nq1t : q1 ≠ tf := fun z => by rw [z, upd_same] at hq1; cases hq1
        have ntw : wl ≠ tf := fun z => by rw [z, htf] at ew5; cases ew5
        refine ⟨q1, rfl, ⟨_, SqL.of upd_same⟩, for_list (K := K) (a := q1) (xs := [.str w0, .str wa]) (fun i σ H' => ∃ (w7 w8 w9 w10 w11 w12 w13 w14 w15 w16 w17 w18 : Option V) (kvs : List (List Str × Int)), σ = [some (.ref a), some (.int cell), some (.ref d), some (.ref wl), some (.ref D), some (.ref D2), some (.ref tf), w7, w8, w9, w10, w11, w12, w13, w14, w15, w16, w17, w18] ∧ But2 d tf H5 H' ∧ H' q1 = some (.lst [.str w0, .str wa]) ∧ H' tf = some (.dT (dictV kvs)) ∧ kvs.length ≤ 3 * i ∧ (∀ p ∈ kvs, GoodP p) ∧ Dr PM d (n5 + 20 * i) H') ⟨_, _, _, _, _, _, _, _, _, _, _, _, [], rfl, fun c o _ _ h => same_upd hq1 _ _ (same_upd htf _ _ h), upd_same, same_upd hq1 _ _ upd_same, Nat.le_refl _, (fun _ h => nomatch h), (dr5.upd ntf).upd nq1⟩ (fun i σ H' _ h => ?_) ?_ ?_⟩
        · obtain ⟨_, _, _, _, _, _, _, _, _, _, _, _, _, _, _, e, _⟩ := h
          exact SqL.of e
        · rintro i x σ H6 hi ⟨w7, w8, w9, w10, w11, w12, w13, w14, w15, w16, w17, w18, kvs, rfl, b6, eq6, et6, lk, hK, dr6⟩
          have hi2 : i < 2 := (List.getElem?_eq_some_iff.mp hi).1
          obtain ⟨sh, rfl, gsh⟩ : ∃ sh : Str, x = .str sh ∧ nm (.str sh) = true := by
            have hm := List.mem_of_getElem? hi
            simp only [List.mem_cons, List.not_mem_nil, or_false] at hm
            rcases hm with rfl | rfl
            · exact ⟨_, rfl, g0⟩
            · exact ⟨_, rfl, g1⟩
          refine ⟨(by show 1 ≤ sizeLine; decide), fun l1 hl1 => ⟨_, rfl, 2, rfl, nopart ⟨wl, _, rfl, SqL.of (same_upd hl1 _ _ (b6 _ _ nwl ntw ew5)), fun q2 hq2 => ?_⟩⟩⟩
          refine ⟨l1, q2, _, _, rfl, rfl, SqL.of (same_upd hq2 _ _ upd_same), SqL.of upd_same, (by show 3 ≤ sizeLine; decide), fun q3 hq3 => ?_⟩
          have S6 := ((same_upd hl1 (o := .lst [.str "round"])).trans (same_upd hq2 (o := .lst [.str wb, .str wc])))
          have nq3 : q3 ≠ d := (dr6.same S6).ne hq3
          have nq3t : q3 ≠ tf := fun z => by
            have := S6 _ _ et6
            rw [z] at hq3
            have := this.symm.trans hq3
            cases this
          have S7 := S6.trans (same_upd hq3 (o := .lst [.str "round", .str wb, .str wc]))
          refine ⟨q3, rfl, ⟨_, SqL.of upd_same⟩, for_list (K := K) (a := q3) (xs := [.str "round", .str wb, .str wc]) (fun j σ H' => ∃ (w8 w9 w10 w11 w12 w13 w14 w15 w16 w17 w18 : Option V) (kvs : List (List Str × Int)), σ = [some (.ref a), some (.int cell), some (.ref d), some (.ref wl), some (.ref D), some (.ref D2), some (.ref tf), some (.str sh), w8, w9, w10, w11, w12, w13, w14, w15, w16, w17, w18] ∧ But2 d tf H5 H' ∧ H' q1 = some (.lst [.str w0, .str wa]) ∧ H' q3 = some (.lst [.str "round", .str wb, .str wc]) ∧ H' tf = some (.dT (dictV kvs)) ∧ kvs.length ≤ 3 * i + j ∧ (∀ p ∈ kvs, GoodP p) ∧ Dr PM d (n5 + 20 * i + 4 * j) H') ⟨_, _, _, _, _, _, _, _, _, _, _, kvs, rfl, fun c o n1 n2 h => S7 _ _ (b6 c o n1 n2 h), S7 _ _ eq6, upd_same, S7 _ _ et6, lk, hK, dr6.same S7⟩ (fun i σ H' _ h => ?_) ?_ ?_⟩
          · obtain ⟨_, _, _, _, _, _, _, _, _, _, _, _, _, _, _, e, _⟩ := h
            exact SqL.of e
          · rintro j x σ H7 hj ⟨w8, w9, w10, w11, w12, w13, w14, w15, w16, w17, w18, kvs, rfl, b7, e17, e37, et7, lk7, hK7, dr7⟩
            have hj2 : j < 3 := (List.getElem?_eq_some_iff.mp hj).1
            obtain ⟨f, rfl, gf⟩ : ∃ f : Str, x = .str f ∧ nm (.str f) = true := by
              have hm := List.mem_of_getElem? hj
              simp only [List.mem_cons, List.not_mem_nil, or_false] at hm
              rcases hm with rfl | rfl | rfl
              · exact ⟨_, rfl, nm_round⟩
              · exact ⟨_, rfl, g2⟩
              · exact ⟨_, rfl, g3⟩
            refine ⟨_, rfl, d, 9, _, rfl, by decide, log_tiny (by decide) (by decide), dr7, by omega, fun H8 r8 u8 c8 b8 dr8 => ⟨_, _, rfl, rfl, _, rfl, ite2 (fun e => ?_) (fun e => ?_)⟩⟩
            · refine ⟨_, rfl, d, 50, _, rfl, by decide, log_tiny (by decide) (by decide), dr8, by omega, fun H9 r9 u9 c9 b9 dr9 => ?_⟩
              refine ⟨_, rfl, _, _, rfl, rfl, ⟨by decide, by decide, by decide⟩, d, _, _, rfl, by decide, log_tiny (by decide) (by decide), dr9, by omega, fun H10 r10 u10 c10 b10 dr10 => ?_⟩
              refine ⟨(by show 2 ≤ sizeLine; decide), fun l hl => ?_⟩
              have nl := dr10.ne hl
              refine ⟨_, rfl, d, 4, _, rfl, by decide, log_tiny (by decide) (by decide), dr10.upd nl, by omega, fun H11 r11 u11 c11 b11 dr11 => ⟨_, _, rfl, rfl, ⟨by decide, by decide⟩, ?_⟩⟩
              obtain ⟨v, hat, hv⟩ := at2 (a := V.int r9) (b := V.int r10) (i := r11 / 3) (by omega) (by omega)
              rw [e20] at c10
              obtain ⟨x, rfl, x0, x1⟩ : ∃ x : Int, v = .int x ∧ 0 ≤ x ∧ x < 100000000000000000000 := by
                rcases hv with rfl | rfl
                · exact ⟨_, rfl, by omega, by omega⟩
                · exact ⟨_, rfl, by omega, by omega⟩
              refine ⟨l, _, _, _, rfl, rfl, SqL.of (b11 _ _ nl upd_same), hat, _, rfl, _, rfl, _, rfl, (by show 2 ≤ sizeLine; decide), fun tp htp => ?_⟩
              have bt : But d H7 H11 := ((b8.trans b9).trans b10).trans ((But.new hl).trans b11)
              have et11 := bt _ _ ntf et7
              obtain ⟨kvs', ek, lk', hK'⟩ := put_dict hK7 gsh gf x0 x1
              refine ⟨tf, _, rfl, DPut.t (k := [Sum.inr sh, Sum.inr f]) (same_upd htp _ _ et11) upd_same ?_, ?_⟩
              · unfold dictV
                rw [List.length_map]
                exact Nat.lt_of_lt_of_le (show kvs.length < 100 by omega) (by decide)
              rw [ek]
              have ntp : tp ≠ d := dr11.ne htp
              refine ⟨_, _, _, _, _, _, _, _, _, _, _, kvs', rfl, fun c o n1 n2 h => ?_, ?_, ?_, upd_same, by omega, hK', ((dr11.upd ntp).upd ntf).mono (by omega)⟩
              · rw [upd_ne n2]
                exact same_upd htp _ _ (bt c o n1 (b7 c o n1 n2 h))
              · rw [upd_ne nq1t]
                exact same_upd htp _ _ (bt _ _ nq1 e17)
              · rw [upd_ne nq3t]
                exact same_upd htp _ _ (bt _ _ nq3 e37)
            · exact ⟨_, _, _, _, _, _, _, _, _, _, _, kvs, rfl, b7.trans (But2.of b8), b8 _ _ nq1 e17, b8 _ _ nq3 e37, b8 _ _ ntf et7, by omega, hK7, dr8.mono (by omega)⟩
          · rintro σ H7 ⟨w8, w9, w10, w11, w12, w13, w14, w15, w16, w17, w18, kvs, rfl, b7, e17, e37, et7, lk7, hK7, dr7⟩
            exact ⟨_, _, _, _, _, _, _, _, _, _, _, _, kvs, rfl, b7, e17, et7, by show kvs.length ≤ 3 * (i + 1); simp only [List.length_cons, List.length_nil] at lk7; omega, hK7, dr7.mono (by simp only [List.length_cons, List.length_nil]; omega)⟩
        · rintro σ H6 ⟨w7, w8, w9, w10, w11, w12, w13, w14, w15, w16, w17, w18, kvs, rfl, b6, eq6, et6, lk, hK, dr6⟩
          have nDd : D ≠ d := dr3.ne hD
          have nD2d : D2 ≠ d := dr4.ne hD2
          have nDt : D ≠ tf := fun z => by rw [z, htf] at eD5; cases eD5
          have nD2t : D2 ≠ tf := fun z => by rw [z, htf] at eD2; cases eD2
          have npt : p3 ≠ tf := fun z => by rw [z, htf] at ep5; cases ep5
          have nl56 : NL H5 H6 := fun c o hn hc => by
            refine b6 c o (fun z => ?_) (fun z => by rw [z, htf] at hc; cases hc) hc
            obtain ⟨_, _, _, e, _⟩ := dr5
            rw [z, e] at hc
            exact hn _ (Option.some.inj hc).symm
          have eD6 := b6 _ _ nDd nDt eD5
          have eB6 := b6 _ _ nD2d nD2t eD2
          have ep6 := b6 _ _ ndp npt ep5
          have hR6 := hR5.nl nl56
          have hB6 := hB.nl nl56
          have lk6 : kvs.length ≤ 10 := by
            simp only [List.length_cons, List.length_nil] at lk
            omega
          have nn : n5 + 20 * [V.str w0, V.str wa].length ≤ 2000 := by
            simp only [List.length_cons, List.length_nil]
            omega
          generalize n5 + 20 * [V.str w0, V.str wa].length = n6 at dr6 nn
          refine ⟨_, rfl, d, _, rfl, dr6, by omega, fun H7 g g1' g2' b7 dr7 => ⟨_, rfl, d, _, rfl, dr7, by omega, fun H8 o o1' o2' b8 dr8 => ⟨_, _, rfl, ?_⟩⟩⟩
          have hg : Sml g := ⟨g1', g2'⟩
          have ho : Sml o := ⟨o1', o2'⟩
          refine ⟨_, rfl, d, 6, _, rfl, by decide, log_tiny (by decide) (by decide), dr8, by omega, fun H9 wy y0 y1 b9 dr9 => ?_⟩
          have b69 : But d H6 H9 := (b7.trans b8).trans b9
          refine ⟨_, rfl, _, rfl, _, rfl, _, rfl, (by show 6 ≤ sizeLine; decide), fun l1 hl1 => ⟨_, rfl, l1, _, _, _, rfl, rfl, SqL.of upd_same, at6 y0 y1, ?_⟩⟩
          refine ⟨_, rfl, _, rfl, _, rfl, _, rfl, (by show 6 ≤ sizeLine; decide), fun l2 hl2 => ⟨_, rfl, l2, _, _, _, rfl, rfl, SqL.of upd_same, at6' y0 y1, ?_⟩⟩
          have S9 := (same_upd hl1 (o := .lst [.int g, .int g, .int g, .int 1, .int 1, .int g])).trans (same_upd hl2 (o := .lst [.int o, .int o, .int o, .int 2, .int o, .int 2]))
          have nl69 : NL H6 (upd (upd H9 l1 (.lst [.int g, .int g, .int g, .int 1, .int 1, .int g])) l2 (.lst [.int o, .int o, .int o, .int 2, .int o, .int 2])) := (dr_nl dr6 b69).trans (NL.of S9)
          have eD9 := S9 _ _ (b69 _ _ nDd eD6)
          have eB9 := S9 _ _ (b69 _ _ nD2d eB6)
          have ep9 := S9 _ _ (b69 _ _ ndp ep6)
          have et9 := S9 _ _ (b69 _ _ ntf et6)
          have hR9 := hR6.nl nl69
          have hB9 := hB6.nl nl69
          generalize upd (upd H9 l1 (.lst [.int g, .int g, .int g, .int 1, .int 1, .int g])) l2 (.lst [.int o, .int o, .int o, .int 2, .int o, .int 2]) = HA at eD9 eB9 ep9 et9 hR9 hB9
          have hT := goodT_of hK
          have hlen2 := shown_len hK lk6 (fun r hr => reprS_len (hG r hr)) lr
          refine ⟨_, rfl, _, rfl, (by show 2 ≤ sizeLine; decide), fun t0 ht0 => ⟨t0, _, shownT kvs rs, rfl, upd_same, shown_all T upd_same (same_upd ht0 _ _ et9) hK (same_upd ht0 _ _ eB9) (hB9.nl (NL.of (same_upd ht0))) hG, hlen2, fun HC sC => ?_⟩⟩
          have SC : Same HA HC := (same_upd ht0).trans sC
          refine ⟨2, rfl, by decide, by decide, ?_⟩
          refine for_range (lo := 0) (n := 2) (fun i σ H' => ∃ (w7 w8 w15 w16 w17 w18 : Option V), σ = [some (.ref a), some (.int cell), some (.ref d), some (.ref wl), some (.ref D), some (.ref D2), some (.ref tf), w7, w8, some (.int g), some (.int o), some (.int wy), some (.int (gOf wy g)), some (.int (oOf wy o)), some (.str (tupleText (shownT kvs rs))), w15, w16, w17, w18] ∧ Same HA H') ⟨_, _, _, _, _, _, rfl, SC⟩ ?_ ?_
          · rintro i σ HD hi ⟨w7, w8, w15, w16, w17, w18, rfl, sA⟩
            have eqL : rl.length = bl.length := by rw [hR9.1, hB9.1]
            refine ⟨_, rfl, _, rfl, D, D2, rl, bl, rfl, SqL.of (sA _ _ eD9), SqL.of (sA _ _ eB9), ?_⟩
            refine RZ.for_zipL (K := K) (a := D) (b := D2) (xs := rl) (ys := bl) eqL (fun j σ H' => ∃ (w7 w8 w15 w16 w17 w18 : Option V), σ = [some (.ref a), some (.int cell), some (.ref d), some (.ref wl), some (.ref D), some (.ref D2), some (.ref tf), w7, w8, some (.int g), some (.int o), some (.int wy), some (.int (gOf wy g)), some (.int (oOf wy o)), some (.str (tupleText (shownT kvs rs))), w15, w16, w17, w18] ∧ Same HA H') ⟨_, _, _, _, _, _, rfl, sA⟩ (fun j σ H' h => ?_) ?_ ?_
            · obtain ⟨_, _, _, _, _, _, _, sB⟩ := h
              exact ⟨SqL.of (sB _ _ eD9), SqL.of (sB _ _ eB9)⟩
            · rintro j x y tz σ HE hx hy ⟨w7, w8, w15, w16, w17, w18, rfl, sB⟩ htz
              have hj : j < rs.length := by
                rw [← hR9.1]
                exact (List.getElem?_eq_some_iff.mp hx).1
              obtain ⟨tr, h1, htr⟩ := hR9.2 j _ (List.getElem?_eq_getElem hj)
              obtain ⟨pb, h2, hpb⟩ := hB9.2 j _ (List.getElem?_eq_getElem hj)
              rw [h1] at hx
              cases hx
              rw [h2] at hy
              cases hy
              have gr := hG _ (List.getElem_mem hj)
              generalize rs[j] = r at htr hpb gr
              have sZ := sB.trans (same_upd htz (o := .tup [.ref tr, .ref pb]))
              refine ⟨tz, _, rfl, .inl (.inl upd_same), rfl, _, [_], rfl, _, [], rfl, rfl, ?_⟩
              refine ⟨_, rfl, _, rfl, _, rfl, _, rfl, _, rfl, tf, wy, g, o, .ref pb, _, kvs, rfl, y0, y1, .bead (hpb.nl (NL.of sZ)) gr, sZ _ _ et9, hT, hg, ho, fun HF t1 sF h1 => ?_⟩
              refine ⟨_, rfl, _, rfl, _, rfl, _, rfl, tr, tf, g, o, r, kvs, rfl, sF _ _ (sZ _ _ htr), gr, sF _ _ (sZ _ _ et9), hT, hg, ho, fun HG t2 sG h2 => ?_⟩
              refine due_ne (h1.same sG) h2 (goodD_one gr hT) ⟨_, rfl, iteF ?_⟩
              exact ⟨_, _, _, _, _, _, rfl, (sZ.trans sF).trans sG⟩
            · rintro σ HE ⟨w7, w8, w15, w16, w17, w18, rfl, sB⟩
              refine ⟨_, rfl, _, rfl, _, rfl, _, rfl, _, rfl, tf, wy, g, o, .ref D2, _, kvs, rfl, y0, y1, .list (sB _ _ eB9) (hB9.nl (NL.of sB)) lr hG, sB _ _ et9, hT, hg, ho, fun HF t1 sF h1 => ?_⟩
              refine ⟨_, rfl, _, rfl, _, rfl, _, rfl, D, tf, _, _, rl, rs, kvs, rfl, sF _ _ (sB _ _ eD9), hR9.nl (NL.of (sB.trans sF)), lr, hG, sF _ _ (sB _ _ et9), hT, sml_g hg, sml_o ho, fun HG t2 sG h2 => ?_⟩
              refine due_ne (h1.same sG) h2 (goodD_all hT hG) ⟨_, rfl, iteF ?_⟩
              exact ⟨_, _, _, _, _, _, rfl, (sB.trans sF).trans sG⟩
          · rintro σ HD ⟨w7, w8, w15, w16, w17, w18, rfl, sA⟩
            have s1' : Sml 1 := ⟨by decide, by decide⟩
            have s2' : Sml 2 := ⟨by decide, by decide⟩
            refine ⟨Nat.zero_le _, fun l0 hl0 => ⟨_, rfl, l0, tf, 1, 2, [], [], kvs, rfl, upd_same, ⟨rfl, fun i r h => by simp at h⟩, by decide, (fun _ h => nomatch h), same_upd hl0 _ _ (sA _ _ et9), hT, s1', s2', fun x hx HE sh1 sE hsh => ?_, fun cls dd H' _ h => h.elim⟩⟩
            have ex : x = (0, 1) := by
              have hx' : Due.told (0, 1) = .told x := hx
              injection hx' with hx'
              exact hx'.symm
            subst ex
            have sAE := sA.trans ((same_upd hl0).trans sE)
            intro r2 dr2' nr2 ndr2 ner2
            refine ⟨r2, dr2', 0, 1, 1, rfl, upd_same, (by show (1 : Int).natAbs < 2 ^ 1; decide), by decide, fun _ HF hF kF => ⟨rfl, ?_⟩, fun z => absurd z (by decide)⟩
            have sF := made_same nr2 ndr2 kF
            rw [shr01] at hF
            have hne := ne_at T (hsh.same (NL.of sF)) hF
            rw [likeS_refl] at hne
            refine ⟨true, hne, fun HG xG => ⟨_, rfl, iteF ?_⟩⟩
            have sAG : Same HA HG := (sAE.trans sF).trans xG
            refine ⟨_, rfl, _, rfl, (by show 2 ≤ sizeLine; decide), fun t0' ht0' => ⟨t0', _, shownT kvs rs, rfl, upd_same, shown_all T upd_same (same_upd ht0' _ _ (sAG _ _ et9)) hK (same_upd ht0' _ _ (sAG _ _ eB9)) (hB9.nl (NL.of (sAG.trans (same_upd ht0')))) hG, hlen2, fun HI sI => ?_⟩⟩
            have sAI : Same HA HI := (sAG.trans (same_upd ht0')).trans sI
            refine ⟨_, rfl, rfl, _, rfl, ?_⟩
            rw [decide_eq_true rfl]
            refine iteF ⟨_, rfl, nopart ⟨0, rfl, D2, _, rfl, SqL.of (sAI _ _ eB9), fun l9 hl9 => ?_⟩⟩
            rw [cut0]
            intro t9 ht9
            refine ⟨l9, t9, 1, 2, [], [], [], rfl, same_upd ht9 _ _ upd_same, ⟨rfl, fun i r h => by simp at h⟩, by decide, (fun _ h => nomatch h), upd_same, (fun _ h => nomatch h), s1', s2', fun x hx HJ sh2 sJ hsh2 => ?_, fun cls dd H' _ h => h.elim⟩
            refine ⟨false, eq_int T hsh2, fun HK xK => ⟨_, rfl, iteF ?_⟩⟩
            exact ⟨_, _, _, _, _, _, _, _, _, _, _, _, _, _, _, _, _, _, rfl, xK _ _ (sJ _ _ (same_upd ht9 _ _ (same_upd hl9 _ _ (sAI _ _ ep9))))⟩
  · rintro σ H' ⟨w1, w2, w3, w4, w5, w6, w7, w8, w9, w10, w11, w12, w13, w14, w15, w16, w17, w18, rfl, ep⟩
    exact q H'
end
theorem all_mk {l : PySem.W.OpenLaw} {w : World} {K : PySem.W.Frag} {h : Heap} {mg : Str → Option Value} {fa : Addr} (X : K.In h) (G : h.Ns mainGlobals mg) (hfa : mg "law" = some (.ref fa))
    {C_Share : Addr}
    {C_Bead : Addr}
    {C_PearlError : Addr}
    {C_BadBead : Addr}
    {C_NoShare : Addr}
    {C_NoSuch : Addr}
    {f0 : Addr} {od0 an0 : Option Addr} {sl0 : Array (Option Value)} {oc0 kV0 dc0 pm0 cd0 ct0 : Value}
    {f1 : Addr} {od1 an1 : Option Addr} {sl1 : Array (Option Value)} {oc1 kV1 dc1 pm1 cd1 ct1 : Value}
    {f2 : Addr} {od2 an2 : Option Addr} {sl2 : Array (Option Value)} {oc2 kV2 dc2 pm2 cd2 ct2 : Value}
    {f3 : Addr} {od3 an3 : Option Addr} {sl3 : Array (Option Value)} {oc3 kV3 dc3 pm3 cd3 ct3 : Value}
    {f4 : Addr} {od4 an4 : Option Addr} {sl4 : Array (Option Value)} {oc4 kV4 dc4 pm4 cd4 ct4 : Value}
    {f5 : Addr} {od5 an5 : Option Addr} {sl5 : Array (Option Value)} {oc5 kV5 dc5 pm5 cd5 ct5 : Value}
    {f6 : Addr} {od6 an6 : Option Addr} {sl6 : Array (Option Value)} {oc6 kV6 dc6 pm6 cd6 ct6 : Value}
    {f7 : Addr} {od7 an7 : Option Addr} {sl7 : Array (Option Value)} {oc7 kV7 dc7 pm7 cd7 ct7 : Value}
    {T7 : Addr} {oT7 : Value} {dT7 : Option Addr} {nT7 : Nat} {sT7 : Array (Option Value)} {td7_0 : Tok}
    {f8 : Addr} {od8 an8 : Option Addr} {sl8 : Array (Option Value)} {oc8 kV8 dc8 pm8 cd8 ct8 : Value}
    {f9 : Addr} {od9 an9 : Option Addr} {sl9 : Array (Option Value)} {oc9 kV9 dc9 pm9 cd9 ct9 : Value}
    {f10 : Addr} {od10 an10 : Option Addr} {sl10 : Array (Option Value)} {oc10 kV10 dc10 pm10 cd10 ct10 : Value}
    {f11 : Addr} {od11 an11 : Option Addr} {sl11 : Array (Option Value)} {oc11 kV11 dc11 pm11 cd11 ct11 : Value}
    {T11 : Addr} {oT11 : Value} {dT11 : Option Addr} {nT11 : Nat} {sT11 : Array (Option Value)} {td11_0 : Tok} {td11_1 : Tok}
    {f12 : Addr} {od12 an12 : Option Addr} {sl12 : Array (Option Value)} {oc12 kV12 dc12 pm12 cd12 ct12 : Value}
    {T12 : Addr} {oT12 : Value} {dT12 : Option Addr} {nT12 : Nat} {sT12 : Array (Option Value)} {td12_0 : Tok} {td12_1 : Tok}
    {f13 : Addr} {od13 an13 : Option Addr} {sl13 : Array (Option Value)} {oc13 kV13 dc13 pm13 cd13 ct13 : Value}
    {f14 : Addr} {od14 an14 : Option Addr} {sl14 : Array (Option Value)} {oc14 kV14 dc14 pm14 cd14 ct14 : Value}
    {T14 : Addr} {oT14 : Value} {dT14 : Option Addr} {nT14 : Nat} {sT14 : Array (Option Value)} {td14_0 : Tok}
    {f15 : Addr} {od15 an15 : Option Addr} {sl15 : Array (Option Value)} {oc15 kV15 dc15 pm15 cd15 ct15 : Value}
    {f16 : Addr} {od16 an16 : Option Addr} {sl16 : Array (Option Value)} {oc16 kV16 dc16 pm16 cd16 ct16 : Value}
    {f17 : Addr} {od17 an17 : Option Addr} {sl17 : Array (Option Value)} {oc17 kV17 dc17 pm17 cd17 ct17 : Value}
    {f18 : Addr} {od18 an18 : Option Addr} {sl18 : Array (Option Value)} {oc18 kV18 dc18 pm18 cd18 ct18 : Value}
    {f19 : Addr} {od19 an19 : Option Addr} {sl19 : Array (Option Value)} {oc19 kV19 dc19 pm19 cd19 ct19 : Value}
    {f20 : Addr} {od20 an20 : Option Addr} {sl20 : Array (Option Value)} {oc20 kV20 dc20 pm20 cd20 ct20 : Value}
    {f21 : Addr} {od21 an21 : Option Addr} {sl21 : Array (Option Value)} {oc21 kV21 dc21 pm21 cd21 ct21 : Value}
    {f22 : Addr} {od22 an22 : Option Addr} {sl22 : Array (Option Value)} {oc22 kV22 dc22 pm22 cd22 ct22 : Value}
    {f23 : Addr} {od23 an23 : Option Addr} {sl23 : Array (Option Value)} {oc23 kV23 dc23 pm23 cd23 ct23 : Value}
    {f24 : Addr} {od24 an24 : Option Addr} {sl24 : Array (Option Value)} {oc24 kV24 dc24 pm24 cd24 ct24 : Value}
    {f25 : Addr} {od25 an25 : Option Addr} {sl25 : Array (Option Value)} {oc25 kV25 dc25 pm25 cd25 ct25 : Value}
    {f26 : Addr} {od26 an26 : Option Addr} {sl26 : Array (Option Value)} {oc26 kV26 dc26 pm26 cd26 ct26 : Value}
    {f27 : Addr} {od27 an27 : Option Addr} {sl27 : Array (Option Value)} {oc27 kV27 dc27 pm27 cd27 ct27 : Value}
    {f28 : Addr} {od28 an28 : Option Addr} {sl28 : Array (Option Value)} {oc28 kV28 dc28 pm28 cd28 ct28 : Value}
    {f29 : Addr} {od29 an29 : Option Addr} {sl29 : Array (Option Value)} {oc29 kV29 dc29 pm29 cd29 ct29 : Value}
    {f30 : Addr} {od30 an30 : Option Addr} {sl30 : Array (Option Value)} {oc30 kV30 dc30 pm30 cd30 ct30 : Value}
    {tc0 : Tok}
    {tc1 : Tok}
    {tc4 : Tok}
    {tc5 : Tok}
    {nm_NoShare q_NoShare : Str} {N_NoShare : Addr} {bs_NoShare : List Value} {sn_NoShare : List Str} {sub_NoShare : List Value} {ab_NoShare : Bool} {col_NoShare : Option Bool} {dd_NoShare : Option Addr} {m0_NoShare m1_NoShare m2_NoShare m3_NoShare m5_NoShare : Option Value}
    {nm_NoSuch q_NoSuch : Str} {N_NoSuch : Addr} {bs_NoSuch : List Value} {sn_NoSuch : List Str} {sub_NoSuch : List Value} {ab_NoSuch : Bool} {col_NoSuch : Option Bool} {dd_NoSuch : Option Addr} {m0_NoSuch m1_NoSuch m2_NoSuch m3_NoSuch m5_NoSuch : Option Value}
    (aC_Share : PySem.W.nsIn K mainGlobals "Share" = some (some (.ref C_Share)))
    (pg_Share : PySem.W.plainGet K C_Share Str.empty = true)
    (hd_Share : PySem.W.hasDictIn K C_Share = true)
    (po_Share : PySem.W.plainOver K C_Share = true)
    (sa_Share : PySem.W.findIn K (.ref C_Share) "__setattr__" = some (some (.builtin "object.__setattr__")))
    (mk_Share : PySem.W.makesIn K C_Share = true)
    (kc_Share : PySem.W.keepIn K (.ref C_Share) = true)
    (n_Share_num : PySem.W.findIn K (.ref C_Share) "num" = some none)
    (n_Share_over : PySem.W.findIn K (.ref C_Share) "over" = some none)
    (aC_Bead : PySem.W.nsIn K mainGlobals "Bead" = some (some (.ref C_Bead)))
    (pg_Bead : PySem.W.plainGet K C_Bead Str.empty = true)
    (hd_Bead : PySem.W.hasDictIn K C_Bead = true)
    (po_Bead : PySem.W.plainOver K C_Bead = true)
    (sa_Bead : PySem.W.findIn K (.ref C_Bead) "__setattr__" = some (some (.builtin "object.__setattr__")))
    (mk_Bead : PySem.W.makesIn K C_Bead = true)
    (kc_Bead : PySem.W.keepIn K (.ref C_Bead) = true)
    (n_Bead_number : PySem.W.findIn K (.ref C_Bead) "number" = some none)
    (n_Bead_across : PySem.W.findIn K (.ref C_Bead) "across" = some none)
    (n_Bead_weight : PySem.W.findIn K (.ref C_Bead) "weight" = some none)
    (n_Bead_shade : PySem.W.findIn K (.ref C_Bead) "shade" = some none)
    (n_Bead_form : PySem.W.findIn K (.ref C_Bead) "form" = some none)
    (n_Bead_drilled : PySem.W.findIn K (.ref C_Bead) "drilled" = some none)
    (aC_PearlError : PySem.W.nsIn K mainGlobals "PearlError" = some (some (.ref C_PearlError)))
    (aC_BadBead : PySem.W.nsIn K mainGlobals "BadBead" = some (some (.ref C_BadBead)))
    (aC_NoShare : PySem.W.nsIn K mainGlobals "NoShare" = some (some (.ref C_NoShare)))
    (aC_NoSuch : PySem.W.nsIn K mainGlobals "NoSuch" = some (some (.ref C_NoSuch)))
    (a0 : PySem.W.findIn K (.ref C_NoSuch) "__init__" = some (some (.ref f0)))
    (i0 : PySem.W.isFn K (.ref f0) = true)
    (l0 : K.lookup f0 = some ⟨oc0, od0, .func (PySem.W.fnOf "__init__" "NoSuch.__init__" (defArgs s_NoSuch_init) (defBody s_NoSuch_init) (defScope s_NoSuch_init) .none kV0 dc0 pm0 an0 cd0 ct0), sl0⟩)
    (c0 : PySem.W.codeIn K cd0 "NoSuch.__init__" = true)
    (k0 : PySem.W.keepIn K (.ref f0) = true)
    (a1 : PySem.W.findIn K (.ref C_NoShare) "__init__" = some (some (.ref f1)))
    (i1 : PySem.W.isFn K (.ref f1) = true)
    (l1 : K.lookup f1 = some ⟨oc1, od1, .func (PySem.W.fnOf "__init__" "NoShare.__init__" (defArgs s_NoShare_init) (defBody s_NoShare_init) (defScope s_NoShare_init) .none kV1 dc1 pm1 an1 cd1 ct1), sl1⟩)
    (c1 : PySem.W.codeIn K cd1 "NoShare.__init__" = true)
    (k1 : PySem.W.keepIn K (.ref f1) = true)
    (a2 : PySem.W.nsIn K mainGlobals "is_int" = some (some (.ref f2)))
    (l2 : K.lookup f2 = some ⟨oc2, od2, .func (PySem.W.fnOf "is_int" "is_int" (defArgs s_is_int) (defBody s_is_int) (defScope s_is_int) .none kV2 dc2 pm2 an2 cd2 ct2), sl2⟩)
    (c2 : PySem.W.codeIn K cd2 "is_int" = true)
    (k2 : PySem.W.keepIn K (.ref f2) = true)
    (a3 : PySem.W.nsIn K mainGlobals "is_whole" = some (some (.ref f3)))
    (l3 : K.lookup f3 = some ⟨oc3, od3, .func (PySem.W.fnOf "is_whole" "is_whole" (defArgs s_is_whole) (defBody s_is_whole) (defScope s_is_whole) .none kV3 dc3 pm3 an3 cd3 ct3), sl3⟩)
    (c3 : PySem.W.codeIn K cd3 "is_whole" = true)
    (k3 : PySem.W.keepIn K (.ref f3) = true)
    (a4 : PySem.W.nsIn K mainGlobals "is_name" = some (some (.ref f4)))
    (l4 : K.lookup f4 = some ⟨oc4, od4, .func (PySem.W.fnOf "is_name" "is_name" (defArgs s_is_name) (defBody s_is_name) (defScope s_is_name) .none kV4 dc4 pm4 an4 cd4 ct4), sl4⟩)
    (c4 : PySem.W.codeIn K cd4 "is_name" = true)
    (k4 : PySem.W.keepIn K (.ref f4) = true)
    (a5 : PySem.W.nsIn K mainGlobals "is_number" = some (some (.ref f5)))
    (l5 : K.lookup f5 = some ⟨oc5, od5, .func (PySem.W.fnOf "is_number" "is_number" (defArgs s_is_number) (defBody s_is_number) (defScope s_is_number) .none kV5 dc5 pm5 an5 cd5 ct5), sl5⟩)
    (c5 : PySem.W.codeIn K cd5 "is_number" = true)
    (k5 : PySem.W.keepIn K (.ref f5) = true)
    (a6 : PySem.W.nsIn K mainGlobals "common_part" = some (some (.ref f6)))
    (l6 : K.lookup f6 = some ⟨oc6, od6, .func (PySem.W.fnOf "common_part" "common_part" (defArgs s_common_part) (defBody s_common_part) (defScope s_common_part) .none kV6 dc6 pm6 an6 cd6 ct6), sl6⟩)
    (c6 : PySem.W.codeIn K cd6 "common_part" = true)
    (k6 : PySem.W.keepIn K (.ref f6) = true)
    (a7 : PySem.W.findIn K (.ref C_Share) "__init__" = some (some (.ref f7)))
    (i7 : PySem.W.isFn K (.ref f7) = true)
    (l7 : K.lookup f7 = some ⟨oc7, od7, .func (PySem.W.fnOf "__init__" "Share.__init__" (defArgs s_Share_init) (defBody s_Share_init) (defScope s_Share_init) (.ref T7) kV7 dc7 pm7 an7 cd7 ct7), sl7⟩)
    (d7 : K.lookup T7 = some ⟨oT7, dT7, .seq (List.toArray [.int 1 td7_0]) nT7, sT7⟩)
    (c7 : PySem.W.codeIn K cd7 "Share.__init__" = true)
    (k7 : PySem.W.keepIn K (.ref f7) = true)
    (a8 : PySem.W.findIn K (.ref C_Share) "plus" = some (some (.ref f8)))
    (i8 : PySem.W.isFn K (.ref f8) = true)
    (l8 : K.lookup f8 = some ⟨oc8, od8, .func (PySem.W.fnOf "plus" "Share.plus" (defArgs s_Share_plus) (defBody s_Share_plus) (defScope s_Share_plus) .none kV8 dc8 pm8 an8 cd8 ct8), sl8⟩)
    (c8 : PySem.W.codeIn K cd8 "Share.plus" = true)
    (k8 : PySem.W.keepIn K (.ref f8) = true)
    (a9 : PySem.W.findIn K (.ref C_Share) "__eq__" = some (some (.ref f9)))
    (i9 : PySem.W.isFn K (.ref f9) = true)
    (l9 : K.lookup f9 = some ⟨oc9, od9, .func (PySem.W.fnOf "__eq__" "Share.__eq__" (defArgs s_Share_eq) (defBody s_Share_eq) (defScope s_Share_eq) .none kV9 dc9 pm9 an9 cd9 ct9), sl9⟩)
    (c9 : PySem.W.codeIn K cd9 "Share.__eq__" = true)
    (k9 : PySem.W.keepIn K (.ref f9) = true)
    (a10 : PySem.W.nsIn K mainGlobals "shares_sum" = some (some (.ref f10)))
    (l10 : K.lookup f10 = some ⟨oc10, od10, .func (PySem.W.fnOf "shares_sum" "shares_sum" (defArgs s_shares_sum) (defBody s_shares_sum) (defScope s_shares_sum) .none kV10 dc10 pm10 an10 cd10 ct10), sl10⟩)
    (c10 : PySem.W.codeIn K cd10 "shares_sum" = true)
    (k10 : PySem.W.keepIn K (.ref f10) = true)
    (a11 : PySem.W.nsIn K mainGlobals "worth" = some (some (.ref f11)))
    (l11 : K.lookup f11 = some ⟨oc11, od11, .func (PySem.W.fnOf "worth" "worth" (defArgs s_worth) (defBody s_worth) (defScope s_worth) (.ref T11) kV11 dc11 pm11 an11 cd11 ct11), sl11⟩)
    (d11 : K.lookup T11 = some ⟨oT11, dT11, .seq (List.toArray [.int 1 td11_0, .int 2 td11_1]) nT11, sT11⟩)
    (c11 : PySem.W.codeIn K cd11 "worth" = true)
    (k11 : PySem.W.keepIn K (.ref f11) = true)
    (a12 : PySem.W.nsIn K mainGlobals "worth_of" = some (some (.ref f12)))
    (l12 : K.lookup f12 = some ⟨oc12, od12, .func (PySem.W.fnOf "worth_of" "worth_of" (defArgs s_worth_of) (defBody s_worth_of) (defScope s_worth_of) (.ref T12) kV12 dc12 pm12 an12 cd12 ct12), sl12⟩)
    (d12 : K.lookup T12 = some ⟨oT12, dT12, .seq (List.toArray [.int 1 td12_0, .int 2 td12_1]) nT12, sT12⟩)
    (c12 : PySem.W.codeIn K cd12 "worth_of" = true)
    (k12 : PySem.W.keepIn K (.ref f12) = true)
    (a13 : PySem.W.nsIn K mainGlobals "is_measure" = some (some (.ref f13)))
    (l13 : K.lookup f13 = some ⟨oc13, od13, .func (PySem.W.fnOf "is_measure" "is_measure" (defArgs s_is_measure) (defBody s_is_measure) (defScope s_is_measure) .none kV13 dc13 pm13 an13 cd13 ct13), sl13⟩)
    (c13 : PySem.W.codeIn K cd13 "is_measure" = true)
    (k13 : PySem.W.keepIn K (.ref f13) = true)
    (a14 : PySem.W.findIn K (.ref C_Bead) "__init__" = some (some (.ref f14)))
    (i14 : PySem.W.isFn K (.ref f14) = true)
    (l14 : K.lookup f14 = some ⟨oc14, od14, .func (PySem.W.fnOf "__init__" "Bead.__init__" (defArgs s_Bead_init) (defBody s_Bead_init) (defScope s_Bead_init) (.ref T14) kV14 dc14 pm14 an14 cd14 ct14), sl14⟩)
    (d14 : K.lookup T14 = some ⟨oT14, dT14, .seq (List.toArray [.str "round" td14_0, .bool false]) nT14, sT14⟩)
    (c14 : PySem.W.codeIn K cd14 "Bead.__init__" = true)
    (k14 : PySem.W.keepIn K (.ref f14) = true)
    (a15 : PySem.W.findIn K (.ref C_Bead) "row" = some (some (.ref f15)))
    (i15 : PySem.W.isFn K (.ref f15) = true)
    (l15 : K.lookup f15 = some ⟨oc15, od15, .func (PySem.W.fnOf "row" "Bead.row" (defArgs s_Bead_row) (defBody s_Bead_row) (defScope s_Bead_row) .none kV15 dc15 pm15 an15 cd15 ct15), sl15⟩)
    (c15 : PySem.W.codeIn K cd15 "Bead.row" = true)
    (k15 : PySem.W.keepIn K (.ref f15) = true)
    (a16 : PySem.W.findIn K (.ref C_Bead) "__repr__" = some (some (.ref f16)))
    (i16 : PySem.W.isFn K (.ref f16) = true)
    (l16 : K.lookup f16 = some ⟨oc16, od16, .func (PySem.W.fnOf "__repr__" "Bead.__repr__" (defArgs s_Bead_repr) (defBody s_Bead_repr) (defScope s_Bead_repr) .none kV16 dc16 pm16 an16 cd16 ct16), sl16⟩)
    (c16 : PySem.W.codeIn K cd16 "Bead.__repr__" = true)
    (k16 : PySem.W.keepIn K (.ref f16) = true)
    (a17 : PySem.W.findIn K (.ref C_Bead) "__str__" = some (some (.ref f17)))
    (i17 : PySem.W.isFn K (.ref f17) = true)
    (l17 : K.lookup f17 = some ⟨oc17, od17, .func (PySem.W.fnOf "__str__" "Bead.__str__" (defArgs s_Bead_str) (defBody s_Bead_str) (defScope s_Bead_str) .none kV17 dc17 pm17 an17 cd17 ct17), sl17⟩)
    (c17 : PySem.W.codeIn K cd17 "Bead.__str__" = true)
    (k17 : PySem.W.keepIn K (.ref f17) = true)
    (a18 : PySem.W.nsIn K mainGlobals "bead_of" = some (some (.ref f18)))
    (l18 : K.lookup f18 = some ⟨oc18, od18, .func (PySem.W.fnOf "bead_of" "bead_of" (defArgs s_bead_of) (defBody s_bead_of) (defScope s_bead_of) .none kV18 dc18 pm18 an18 cd18 ct18), sl18⟩)
    (c18 : PySem.W.codeIn K cd18 "bead_of" = true)
    (k18 : PySem.W.keepIn K (.ref f18) = true)
    (a19 : PySem.W.nsIn K mainGlobals "_law_draws" = some (some (.ref f19)))
    (l19 : K.lookup f19 = some ⟨oc19, od19, .func (PySem.W.fnOf "_law_draws" "_law_draws" (defArgs s_draws) (defBody s_draws) (defScope s_draws) .none kV19 dc19 pm19 an19 cd19 ct19), sl19⟩)
    (c19 : PySem.W.codeIn K cd19 "_law_draws" = true)
    (k19 : PySem.W.keepIn K (.ref f19) = true)
    (a20 : PySem.W.nsIn K mainGlobals "_law_next" = some (some (.ref f20)))
    (l20 : K.lookup f20 = some ⟨oc20, od20, .func (PySem.W.fnOf "_law_next" "_law_next" (defArgs s_next) (defBody s_next) (defScope s_next) .none kV20 dc20 pm20 an20 cd20 ct20), sl20⟩)
    (c20 : PySem.W.codeIn K cd20 "_law_next" = true)
    (k20 : PySem.W.keepIn K (.ref f20) = true)
    (a21 : PySem.W.nsIn K mainGlobals "_law_words" = some (some (.ref f21)))
    (l21 : K.lookup f21 = some ⟨oc21, od21, .func (PySem.W.fnOf "_law_words" "_law_words" (defArgs s_words) (defBody s_words) (defScope s_words) .none kV21 dc21 pm21 an21 cd21 ct21), sl21⟩)
    (c21 : PySem.W.codeIn K cd21 "_law_words" = true)
    (k21 : PySem.W.keepIn K (.ref f21) = true)
    (a22 : PySem.W.nsIn K mainGlobals "_law_row" = some (some (.ref f22)))
    (l22 : K.lookup f22 = some ⟨oc22, od22, .func (PySem.W.fnOf "_law_row" "_law_row" (defArgs s_row) (defBody s_row) (defScope s_row) .none kV22 dc22 pm22 an22 cd22 ct22), sl22⟩)
    (c22 : PySem.W.codeIn K cd22 "_law_row" = true)
    (k22 : PySem.W.keepIn K (.ref f22) = true)
    (a23 : PySem.W.nsIn K mainGlobals "_law_lowest" = some (some (.ref f23)))
    (l23 : K.lookup f23 = some ⟨oc23, od23, .func (PySem.W.fnOf "_law_lowest" "_law_lowest" (defArgs s_lowest) (defBody s_lowest) (defScope s_lowest) .none kV23 dc23 pm23 an23 cd23 ct23), sl23⟩)
    (c23 : PySem.W.codeIn K cd23 "_law_lowest" = true)
    (k23 : PySem.W.keepIn K (.ref f23) = true)
    (a24 : PySem.W.nsIn K mainGlobals "_law_due" = some (some (.ref f24)))
    (l24 : K.lookup f24 = some ⟨oc24, od24, .func (PySem.W.fnOf "_law_due" "_law_due" (defArgs s_due) (defBody s_due) (defScope s_due) .none kV24 dc24 pm24 an24 cd24 ct24), sl24⟩)
    (c24 : PySem.W.codeIn K cd24 "_law_due" = true)
    (k24 : PySem.W.keepIn K (.ref f24) = true)
    (a25 : PySem.W.nsIn K mainGlobals "_law_due_of" = some (some (.ref f25)))
    (l25 : K.lookup f25 = some ⟨oc25, od25, .func (PySem.W.fnOf "_law_due_of" "_law_due_of" (defArgs s_due_of) (defBody s_due_of) (defScope s_due_of) .none kV25 dc25 pm25 an25 cd25 ct25), sl25⟩)
    (c25 : PySem.W.codeIn K cd25 "_law_due_of" = true)
    (k25 : PySem.W.keepIn K (.ref f25) = true)
    (a26 : PySem.W.nsIn K mainGlobals "_law_called" = some (some (.ref f26)))
    (l26 : K.lookup f26 = some ⟨oc26, od26, .func (PySem.W.fnOf "_law_called" "_law_called" (defArgs s_called) (defBody s_called) (defScope s_called) .none kV26 dc26 pm26 an26 cd26 ct26), sl26⟩)
    (c26 : PySem.W.codeIn K cd26 "_law_called" = true)
    (k26 : PySem.W.keepIn K (.ref f26) = true)
    (a27 : PySem.W.nsIn K mainGlobals "_law_one" = some (some (.ref f27)))
    (l27 : K.lookup f27 = some ⟨oc27, od27, .func (PySem.W.fnOf "_law_one" "_law_one" (defArgs s_one) (defBody s_one) (defScope s_one) .none kV27 dc27 pm27 an27 cd27 ct27), sl27⟩)
    (c27 : PySem.W.codeIn K cd27 "_law_one" = true)
    (k27 : PySem.W.keepIn K (.ref f27) = true)
    (a28 : PySem.W.nsIn K mainGlobals "_law_told" = some (some (.ref f28)))
    (l28 : K.lookup f28 = some ⟨oc28, od28, .func (PySem.W.fnOf "_law_told" "_law_told" (defArgs s_told) (defBody s_told) (defScope s_told) .none kV28 dc28 pm28 an28 cd28 ct28), sl28⟩)
    (c28 : PySem.W.codeIn K cd28 "_law_told" = true)
    (k28 : PySem.W.keepIn K (.ref f28) = true)
    (a29 : PySem.W.nsIn K mainGlobals "_law_number" = some (some (.ref f29)))
    (l29 : K.lookup f29 = some ⟨oc29, od29, .func (PySem.W.fnOf "_law_number" "_law_number" (defArgs s_number) (defBody s_number) (defScope s_number) .none kV29 dc29 pm29 an29 cd29 ct29), sl29⟩)
    (c29 : PySem.W.codeIn K cd29 "_law_number" = true)
    (k29 : PySem.W.keepIn K (.ref f29) = true)
    (a30 : PySem.W.nsIn K mainGlobals "law" = some (some (.ref f30)))
    (l30 : K.lookup f30 = some ⟨oc30, od30, .func (PySem.W.fnOf "law" "law" (defArgs s_law) (defBody s_law) (defScope s_law) .none kV30 dc30 pm30 an30 cd30 ct30), sl30⟩)
    (c30 : PySem.W.codeIn K cd30 "law" = true)
    (k30 : PySem.W.keepIn K (.ref f30) = true)
    (q0 : PySem.W.nsIn K mainGlobals "LONGEST_NAME" = some (some (.int 8 tc0)))
    (q1 : PySem.W.nsIn K mainGlobals "GREATEST_NUMBER" = some (some (.int 1000000000 tc1)))
    (q4 : PySem.W.nsIn K mainGlobals "GREATEST_MEASURE" = some (some (.int 1000000 tc4)))
    (q5 : PySem.W.nsIn K mainGlobals "ROW_LENGTH" = some (some (.int 6 tc5)))
    (z0 : PySem.W.nsIn K mainGlobals "LookupError" = some none)
    (z1 : PySem.W.nsIn K mainGlobals "ZeroDivisionError" = some none)
    (z2 : PySem.W.nsIn K mainGlobals "bool" = some none)
    (z3 : PySem.W.nsIn K mainGlobals "isinstance" = some none)
    (z4 : PySem.W.nsIn K mainGlobals "int" = some none)
    (z5 : PySem.W.nsIn K mainGlobals "len" = some none)
    (z6 : PySem.W.nsIn K mainGlobals "str" = some none)
    (z7 : PySem.W.nsIn K mainGlobals "all" = some none)
    (z8 : PySem.W.nsIn K mainGlobals "abs" = some none)
    (z9 : PySem.W.nsIn K mainGlobals "tuple" = some none)
    (z10 : PySem.W.nsIn K mainGlobals "max" = some none)
    (z11 : PySem.W.nsIn K mainGlobals "range" = some none)
    (z12 : PySem.W.nsIn K mainGlobals "list" = some none)
    (z13 : PySem.W.nsIn K mainGlobals "repr" = some none)
    (z14 : PySem.W.nsIn K mainGlobals "zip" = some none)
    (xL_NoShare : K.lookup C_NoShare = some (excClassObj nm_NoShare q_NoShare C_NoShare N_NoShare bs_NoShare [.type "ZeroDivisionError", .type "ArithmeticError", .type "Exception", .type "BaseException", .type "object"] true sn_NoShare sub_NoShare ab_NoShare col_NoShare dd_NoShare m0_NoShare m1_NoShare m2_NoShare m3_NoShare m5_NoShare "ZeroDivisionError.__new__"))
    (xsa_NoShare : PySem.W.findIn K (.ref C_NoShare) "__setattr__" = some (some (.builtin "object.__setattr__")))
    (xe_NoShare : PySem.W.subIn K (.ref C_NoShare) (.type "BaseException") = some true)
    (xt_NoShare : PySem.W.typeIn K (.ref C_NoShare) = some (.type "type"))
    (xk_NoShare : PySem.W.keepIn K (.ref C_NoShare) = true)
    (xi_NoShare : PySem.W.findIn K (.ref C_NoShare) "__init__" = some (some (.ref f1)))
    (xga_NoShare : PySem.W.findIn K (.ref C_NoShare) "__getattribute__" = some (some (.builtin "BaseException.__getattribute__")))
    (xgg_NoShare : PySem.W.findIn K (.ref C_NoShare) "__getattr__" = some none)
    (xhd_NoShare : PySem.W.hasDictIn K C_NoShare = true)
    (xca_NoShare : PySem.W.findIn K (.ref C_NoShare) "__class__" = some (some (.builtin "object.__class__")))
    (xcg_NoShare : PySem.W.specialIn K (.builtin "object.__class__") "__get__" = some (some (.builtin "getset_descriptor.__get__")))
    (xct_NoShare : PySem.W.takesIn K (.builtin "object.__class__") = some true)
    (xmo_NoShare : PySem.W.mroIn K C_NoShare (.type "object") = some true)
    (xn_NoShare_num : PySem.W.findIn K (.ref C_NoShare) "num" = some none)
    (xs_NoShare_NoShare : PySem.W.subIn K (.ref C_NoShare) (.ref C_NoShare) = some true)
    (ye_NoShare : PySem.W.subIn K (.ref C_NoShare) (.type "BaseException") = some true)
    (yh_NoShare : PySem.W.hasDictIn K C_NoShare = true)
    (yt_NoShare : PySem.W.typeIn K (.ref C_NoShare) = some (.type "type"))
    (xL_NoSuch : K.lookup C_NoSuch = some (excClassObj nm_NoSuch q_NoSuch C_NoSuch N_NoSuch bs_NoSuch [.type "LookupError", .type "Exception", .type "BaseException", .type "object"] true sn_NoSuch sub_NoSuch ab_NoSuch col_NoSuch dd_NoSuch m0_NoSuch m1_NoSuch m2_NoSuch m3_NoSuch m5_NoSuch "LookupError.__new__"))
    (xsa_NoSuch : PySem.W.findIn K (.ref C_NoSuch) "__setattr__" = some (some (.builtin "object.__setattr__")))
    (xe_NoSuch : PySem.W.subIn K (.ref C_NoSuch) (.type "BaseException") = some true)
    (xt_NoSuch : PySem.W.typeIn K (.ref C_NoSuch) = some (.type "type"))
    (xk_NoSuch : PySem.W.keepIn K (.ref C_NoSuch) = true)
    (xi_NoSuch : PySem.W.findIn K (.ref C_NoSuch) "__init__" = some (some (.ref f0)))
    (xga_NoSuch : PySem.W.findIn K (.ref C_NoSuch) "__getattribute__" = some (some (.builtin "BaseException.__getattribute__")))
    (xgg_NoSuch : PySem.W.findIn K (.ref C_NoSuch) "__getattr__" = some none)
    (xhd_NoSuch : PySem.W.hasDictIn K C_NoSuch = true)
    (xca_NoSuch : PySem.W.findIn K (.ref C_NoSuch) "__class__" = some (some (.builtin "object.__class__")))
    (xcg_NoSuch : PySem.W.specialIn K (.builtin "object.__class__") "__get__" = some (some (.builtin "getset_descriptor.__get__")))
    (xct_NoSuch : PySem.W.takesIn K (.builtin "object.__class__") = some true)
    (xmo_NoSuch : PySem.W.mroIn K C_NoSuch (.type "object") = some true)
    (xn_NoSuch_kind : PySem.W.findIn K (.ref C_NoSuch) "kind" = some none)
    (xn_NoSuch_name : PySem.W.findIn K (.ref C_NoSuch) "name" = some none)
    (xs_NoSuch_NoSuch : PySem.W.subIn K (.ref C_NoSuch) (.ref C_NoSuch) = some true)
    (ye_NoSuch : PySem.W.subIn K (.ref C_NoSuch) (.type "BaseException") = some true)
    (yh_NoSuch : PySem.W.hasDictIn K C_NoSuch = true)
    (yt_NoSuch : PySem.W.typeIn K (.ref C_NoSuch) = some (.type "type"))
    (vV_LookupError : PySem.W.findCls K (.type "LookupError") (.type "type") "__init__" = some (.val (.builtin "LookupError.__init__")))
    (vV_ZeroDivisionError : PySem.W.findCls K (.type "ZeroDivisionError") (.type "type") "__init__" = some (.val (.builtin "ZeroDivisionError.__init__")))
    (vV : PySem.W.findCls K (.type "ValueError") (.type "type") "__init__" = some (.val (.builtin "ValueError.__init__")))
    (ic1 : PySem.W.findIn K (.ref C_Share) "__class__" = some (some (.builtin "object.__class__")))
    (ic2 : PySem.W.specialIn K (.builtin "object.__class__") "__get__" = some (some (.builtin "getset_descriptor.__get__")))
    (ic3 : PySem.W.takesIn K (.builtin "object.__class__") = some true)
    (ic4 : PySem.W.mroIn K C_Share (.type "object") = some true)
    (hne_Share : PySem.W.findIn K (.ref C_Share) "__ne__" = some (some (.builtin "object.__ne__")))
    (sn_NoneType : PySem.W.subIn K (.ref C_Share) (.type "NoneType") = some false)
    (su_int : PySem.W.subIn K (.type "int") (.ref C_Share) = some false)
    (no_int : PySem.W.kitOne K (.type "int") (.ref C_Share) = some false)
    (su_str : PySem.W.subIn K (.type "str") (.ref C_Share) = some false)
    (no_str : PySem.W.kitOne K (.type "str") (.ref C_Share) = some false)
    (su_bool : PySem.W.subIn K (.type "bool") (.ref C_Share) = some false)
    (no_bool : PySem.W.kitOne K (.type "bool") (.ref C_Share) = some false)
    (su_NoneType : PySem.W.subIn K (.type "NoneType") (.ref C_Share) = some false)
    (no_NoneType : PySem.W.kitOne K (.type "NoneType") (.ref C_Share) = some false)
    (su_tuple : PySem.W.subIn K (.type "tuple") (.ref C_Share) = some false)
    (no_tuple : PySem.W.kitOne K (.type "tuple") (.ref C_Share) = some false)
    (sx_NoShare : PySem.W.subIn K (.ref C_NoShare) (.ref C_NoSuch) = some false)
    (jc1 : PySem.W.findIn K (.ref C_Bead) "__class__" = some (some (.builtin "object.__class__")))
    (jc4 : PySem.W.mroIn K C_Bead (.type "object") = some true)
    (lb_Bead : PySem.W.kitOne K (.ref C_Bead) (.type "list") = some false) :
    ∃ fd : FuncData, (∀ (s : Shared) (v : Value), BindsTo s fd ⟨[v], []⟩ [("_law_script", v)]) ∧ ∀ base : Heap, K.In base → base.Ns mainGlobals mg → FnG l.prog w K mg base CX0 19 fa fd ["_law_script"] (spLaw K) := by
  have e := hfa.symm.trans (PySem.W.mg_of X G a30)
  cases e
  have F0 := fun_mk (st := s_NoSuch_init) l0 c0 k0
  have F1 := fun_mk (st := s_NoShare_init) l1 c1 k1
  have F2 := fun_mk (st := s_is_int) l2 c2 k2
  have F3 := fun_mk (st := s_is_whole) l3 c3 k3
  have F4 := fun_mk (st := s_is_name) l4 c4 k4
  have F5 := fun_mk (st := s_is_number) l5 c5 k5
  have F6 := fun_mk (st := s_common_part) l6 c6 k6
  have F7 : FunD K "__init__" "Share.__init__" (defArgs s_Share_init) (defBody s_Share_init) (defScope s_Share_init) [.int 1] [] f7 (PySem.W.fnOf "__init__" "Share.__init__" (defArgs s_Share_init) (defBody s_Share_init) (defScope s_Share_init) (.ref T7) kV7 dc7 pm7 an7 cd7 ct7) := ⟨⟨_, _, _, _, _, _, _, _, _, _, rfl, l7, c7, .inr ⟨(fun z => nomatch z), _, _, _, _, rfl, d7, rfl, .cons ⟨_, rfl⟩ (.nil)⟩, .inl rfl⟩, k7⟩
  have F8 := fun_mk (st := s_Share_plus) l8 c8 k8
  have F9 := fun_mk (st := s_Share_eq) l9 c9 k9
  have F10 := fun_mk (st := s_shares_sum) l10 c10 k10
  have F11 : FunD K "worth" "worth" (defArgs s_worth) (defBody s_worth) (defScope s_worth) [.int 1, .int 2] [] f11 (PySem.W.fnOf "worth" "worth" (defArgs s_worth) (defBody s_worth) (defScope s_worth) (.ref T11) kV11 dc11 pm11 an11 cd11 ct11) := ⟨⟨_, _, _, _, _, _, _, _, _, _, rfl, l11, c11, .inr ⟨(fun z => nomatch z), _, _, _, _, rfl, d11, rfl, .cons ⟨_, rfl⟩ (.cons ⟨_, rfl⟩ (.nil))⟩, .inl rfl⟩, k11⟩
  have F12 : FunD K "worth_of" "worth_of" (defArgs s_worth_of) (defBody s_worth_of) (defScope s_worth_of) [.int 1, .int 2] [] f12 (PySem.W.fnOf "worth_of" "worth_of" (defArgs s_worth_of) (defBody s_worth_of) (defScope s_worth_of) (.ref T12) kV12 dc12 pm12 an12 cd12 ct12) := ⟨⟨_, _, _, _, _, _, _, _, _, _, rfl, l12, c12, .inr ⟨(fun z => nomatch z), _, _, _, _, rfl, d12, rfl, .cons ⟨_, rfl⟩ (.cons ⟨_, rfl⟩ (.nil))⟩, .inl rfl⟩, k12⟩
  have F13 := fun_mk (st := s_is_measure) l13 c13 k13
  have F14 : FunD K "__init__" "Bead.__init__" (defArgs s_Bead_init) (defBody s_Bead_init) (defScope s_Bead_init) [.str "round", .bl false] [] f14 (PySem.W.fnOf "__init__" "Bead.__init__" (defArgs s_Bead_init) (defBody s_Bead_init) (defScope s_Bead_init) (.ref T14) kV14 dc14 pm14 an14 cd14 ct14) := ⟨⟨_, _, _, _, _, _, _, _, _, _, rfl, l14, c14, .inr ⟨(fun z => nomatch z), _, _, _, _, rfl, d14, rfl, .cons ⟨_, rfl⟩ (.cons rfl (.nil))⟩, .inl rfl⟩, k14⟩
  have F15 := fun_mk (st := s_Bead_row) l15 c15 k15
  have F16 := fun_mk (st := s_Bead_repr) l16 c16 k16
  have F17 := fun_mk (st := s_Bead_str) l17 c17 k17
  have F18 := fun_mk (st := s_bead_of) l18 c18 k18
  have F19 := fun_mk (st := s_draws) l19 c19 k19
  have F20 := fun_mk (st := s_next) l20 c20 k20
  have F21 := fun_mk (st := s_words) l21 c21 k21
  have F22 := fun_mk (st := s_row) l22 c22 k22
  have F23 := fun_mk (st := s_lowest) l23 c23 k23
  have F24 := fun_mk (st := s_due) l24 c24 k24
  have F25 := fun_mk (st := s_due_of) l25 c25 k25
  have F26 := fun_mk (st := s_called) l26 c26 k26
  have F27 := fun_mk (st := s_one) l27 c27 k27
  have F28 := fun_mk (st := s_told) l28 c28 k28
  have F29 := fun_mk (st := s_number) l29 c29 k29
  have F30 := fun_mk (st := s_law) l30 c30 k30
  have b0 := F0.binds (ps := ["self", "kind", "name"]) fun _ _ _ _ _ _ us hl => match us, hl with | [_, _, _], _ => rfl
  have b1 := F1.binds (ps := ["self", "num"]) fun _ _ _ _ _ _ us hl => match us, hl with | [_, _], _ => rfl
  have b2 := F2.binds (ps := ["thing"]) fun _ _ _ _ _ _ us hl => match us, hl with | [_], _ => rfl
  have b3 := F3.binds (ps := ["thing", "least", "most"]) fun _ _ _ _ _ _ us hl => match us, hl with | [_, _, _], _ => rfl
  have b4 := F4.binds (ps := ["thing"]) fun _ _ _ _ _ _ us hl => match us, hl with | [_], _ => rfl
  have b5 := F5.binds (ps := ["thing"]) fun _ _ _ _ _ _ us hl => match us, hl with | [_], _ => rfl
  have b6 := F6.binds (ps := ["one", "other"]) fun _ _ _ _ _ _ us hl => match us, hl with | [_, _], _ => rfl
  have b7 : Binds K (PySem.W.fnOf "__init__" "Share.__init__" (defArgs s_Share_init) (defBody s_Share_init) (defScope s_Share_init) (.ref T7) kV7 dc7 pm7 an7 cd7 ct7) ["self", "num", "over"] [] := by
    obtain ⟨ds, hv, hb⟩ := F7.binds1 (ps := ["self", "num", "over"]) 3 1 (fun z => nomatch z) rfl fun _ _ _ _ _ _ _ us its h1 h2 => match us, its, h1, h2 with | [_, _, _], [_], _, _ => ⟨_, rfl, rfl⟩
    cases hv
    exact hb
  have b8 := F8.binds (ps := ["self", "other"]) fun _ _ _ _ _ _ us hl => match us, hl with | [_, _], _ => rfl
  have b9 := F9.binds (ps := ["self", "other"]) fun _ _ _ _ _ _ us hl => match us, hl with | [_, _], _ => rfl
  have b10 := F10.binds (ps := ["shares"]) fun _ _ _ _ _ _ us hl => match us, hl with | [_], _ => rfl
  have b11 : Binds K (PySem.W.fnOf "worth" "worth" (defArgs s_worth) (defBody s_worth) (defScope s_worth) (.ref T11) kV11 dc11 pm11 an11 cd11 ct11) ["bead", "rates", "base", "drilled"] [] := by
    obtain ⟨ds, hv, hb⟩ := F11.binds1 (ps := ["bead", "rates", "base", "drilled"]) 4 2 (fun z => nomatch z) rfl fun _ _ _ _ _ _ _ us its h1 h2 => match us, its, h1, h2 with | [_, _, _, _], [_, _], _, _ => ⟨_, rfl, rfl⟩
    cases hv
    exact hb
  have b12 : Binds K (PySem.W.fnOf "worth_of" "worth_of" (defArgs s_worth_of) (defBody s_worth_of) (defScope s_worth_of) (.ref T12) kV12 dc12 pm12 an12 cd12 ct12) ["beads", "rates", "base", "drilled"] [] := by
    obtain ⟨ds, hv, hb⟩ := F12.binds1 (ps := ["beads", "rates", "base", "drilled"]) 4 2 (fun z => nomatch z) rfl fun _ _ _ _ _ _ _ us its h1 h2 => match us, its, h1, h2 with | [_, _, _, _], [_, _], _, _ => ⟨_, rfl, rfl⟩
    cases hv
    exact hb
  have b13 := F13.binds (ps := ["thing"]) fun _ _ _ _ _ _ us hl => match us, hl with | [_], _ => rfl
  have b14 : Binds K (PySem.W.fnOf "__init__" "Bead.__init__" (defArgs s_Bead_init) (defBody s_Bead_init) (defScope s_Bead_init) (.ref T14) kV14 dc14 pm14 an14 cd14 ct14) ["self", "number", "across", "weight", "shade", "form", "drilled"] [] := by
    obtain ⟨ds, hv, hb⟩ := F14.binds1 (ps := ["self", "number", "across", "weight", "shade", "form", "drilled"]) 7 2 (fun z => nomatch z) rfl fun _ _ _ _ _ _ _ us its h1 h2 => match us, its, h1, h2 with | [_, _, _, _, _, _, _], [_, _], _, _ => ⟨_, rfl, rfl⟩
    cases hv
    exact hb
  have b15 := F15.binds (ps := ["self"]) fun _ _ _ _ _ _ us hl => match us, hl with | [_], _ => rfl
  have b16 := F16.binds (ps := ["self"]) fun _ _ _ _ _ _ us hl => match us, hl with | [_], _ => rfl
  have b17 := F17.binds (ps := ["self"]) fun _ _ _ _ _ _ us hl => match us, hl with | [_], _ => rfl
  have b18 := F18.binds (ps := ["row"]) fun _ _ _ _ _ _ us hl => match us, hl with | [_], _ => rfl
  have b19 := F19.binds (ps := ["_law_cell"]) fun _ _ _ _ _ _ us hl => match us, hl with | [_], _ => rfl
  have b20 := F20.binds (ps := ["_law_draws_here", "_law_size"]) fun _ _ _ _ _ _ us hl => match us, hl with | [_, _], _ => rfl
  have b21 := F21.binds (ps := ["_law_draws_here", "_law_many"]) fun _ _ _ _ _ _ us hl => match us, hl with | [_, _], _ => rfl
  have b22 := F22.binds (ps := ["_law_draws_here", "_law_number_here", "_law_words_here", "_law_across"]) fun _ _ _ _ _ _ us hl => match us, hl with | [_, _, _, _], _ => rfl
  have b23 := F23.binds (ps := ["_law_num", "_law_over"]) fun _ _ _ _ _ _ us hl => match us, hl with | [_, _], _ => rfl
  have b24 := F24.binds (ps := ["_law_row_here", "_law_tariff", "_law_ground", "_law_bored"]) fun _ _ _ _ _ _ us hl => match us, hl with | [_, _, _, _], _ => rfl
  have b25 := F25.binds (ps := ["_law_rows", "_law_tariff", "_law_ground", "_law_bored"]) fun _ _ _ _ _ _ us hl => match us, hl with | [_, _, _, _], _ => rfl
  have b26 := F26.binds (ps := ["_law_way", "_law_some", "_law_tariff", "_law_ground", "_law_bored"]) fun _ _ _ _ _ _ us hl => match us, hl with | [_, _, _, _, _], _ => rfl
  have b27 := F27.binds (ps := ["_law_way", "_law_bead", "_law_tariff", "_law_ground", "_law_bored"]) fun _ _ _ _ _ _ us hl => match us, hl with | [_, _, _, _, _], _ => rfl
  have b28 := F28.binds (ps := ["_law_way", "_law_thing", "_law_tariff", "_law_ground", "_law_bored"]) fun _ _ _ _ _ _ us hl => match us, hl with | [_, _, _, _, _], _ => rfl
  have b29 := F29.binds (ps := ["_law_draws_here"]) fun _ _ _ _ _ _ us hl => match us, hl with | [_], _ => rfl
  obtain ⟨i_kb_1, h_kb_1⟩ := F12.kbindsD (ps := ["beads", "rates", "base", "drilled"]) 2 ["drilled", "base"] (fun us its ws => kw [(0, 0), (0, 1), (2, 1), (2, 0)] us its ws) (fun z => nomatch z) (fun r1 r2 r3 => kw_rel _ r1 r2 r3) (fun _ _ _ _ _ _ _ us its ws h1 h2 h3 => match us, its, ws, h1, h2, h3 with | [_, _], [_, _], [_, _], _, _, _ => ⟨_, rfl, rfl⟩)
  obtain ⟨i_kb_2, h_kb_2⟩ := F12.kbindsD (ps := ["beads", "rates", "base", "drilled"]) 3 ["drilled"] (fun us its ws => kw [(0, 0), (0, 1), (0, 2), (2, 0)] us its ws) (fun z => nomatch z) (fun r1 r2 r3 => kw_rel _ r1 r2 r3) (fun _ _ _ _ _ _ _ us its ws h1 h2 h3 => match us, its, ws, h1, h2, h3 with | [_, _, _], [_, _], [_], _, _, _ => ⟨_, rfl, rfl⟩)
  obtain ⟨i_kb_3, h_kb_3⟩ := F12.kbindsD (ps := ["beads", "rates", "base", "drilled"]) 2 ["drilled"] (fun us its ws => kw [(0, 0), (0, 1), (1, 0), (2, 0)] us its ws) (fun z => nomatch z) (fun r1 r2 r3 => kw_rel _ r1 r2 r3) (fun _ _ _ _ _ _ _ us its ws h1 h2 h3 => match us, its, ws, h1, h2, h3 with | [_, _], [_, _], [_], _, _, _ => ⟨_, rfl, rfl⟩)
  obtain ⟨i_kb_4, h_kb_4⟩ := F12.kbindsD (ps := ["beads", "rates", "base", "drilled"]) 0 ["rates", "base", "beads"] (fun us its ws => kw [(2, 2), (2, 0), (2, 1), (1, 1)] us its ws) (fun z => nomatch z) (fun r1 r2 r3 => kw_rel _ r1 r2 r3) (fun _ _ _ _ _ _ _ us its ws h1 h2 h3 => match us, its, ws, h1, h2, h3 with | [], [_, _], [_, _, _], _, _, _ => ⟨_, rfl, rfl⟩)
  obtain ⟨i_kb_5, h_kb_5⟩ := F11.kbindsD (ps := ["bead", "rates", "base", "drilled"]) 2 ["drilled", "base"] (fun us its ws => kw [(0, 0), (0, 1), (2, 1), (2, 0)] us its ws) (fun z => nomatch z) (fun r1 r2 r3 => kw_rel _ r1 r2 r3) (fun _ _ _ _ _ _ _ us its ws h1 h2 h3 => match us, its, ws, h1, h2, h3 with | [_, _], [_, _], [_, _], _, _, _ => ⟨_, rfl, rfl⟩)
  obtain ⟨dsW, hdW, bdW⟩ := F12.binds1 (ps := ["beads", "rates", "base", "drilled"]) 2 0 (fun z => nomatch z) rfl fun _ _ _ _ _ _ _ us its h1 h2 => match us, its, h1, h2 with | [_, _], [_, _], _, _ => ⟨_, rfl, rfl⟩
  obtain ⟨dsS, hdS, bdS⟩ := F7.binds1 (ps := ["self", "num", "over"]) 2 0 (fun z => nomatch z) rfl fun _ _ _ _ _ _ _ us its h1 h2 => match us, its, h1, h2 with | [_, _], [_], _, _ => ⟨_, rfl, rfl⟩
  let T : Tx K mg := ⟨C_Share, ⟨pg_Share, hd_Share, po_Share, sa_Share⟩, PySem.W.mg_of X G aC_Share, n_Share_num, n_Share_over,
    C_Bead, ⟨pg_Bead, hd_Bead, po_Bead, sa_Bead⟩, PySem.W.mg_of X G aC_Bead, n_Bead_number, n_Bead_across, n_Bead_weight, n_Bead_shade, n_Bead_form, n_Bead_drilled,
    _, _, F0, b0,
    _, _, F1, b1,
    _, _, F2, PySem.W.mg_of X G a2, b2,
    _, _, F3, PySem.W.mg_of X G a3, b3,
    _, _, F4, PySem.W.mg_of X G a4, b4,
    _, _, F5, PySem.W.mg_of X G a5, b5,
    _, _, F6, PySem.W.mg_of X G a6, b6,
    _, _, F7, ⟨mk_Share, a7, i7, kc_Share⟩, b7,
    _, _, F8, ⟨a8, i8, k8⟩, b8,
    _, _, F9, ⟨a9, i9, k9⟩, b9,
    _, _, F10, PySem.W.mg_of X G a10, b10,
    _, _, F11, PySem.W.mg_of X G a11, b11,
    _, _, F12, PySem.W.mg_of X G a12, b12,
    _, _, F13, PySem.W.mg_of X G a13, b13,
    _, _, F14, ⟨mk_Bead, a14, i14, kc_Bead⟩, b14,
    _, _, F15, ⟨a15, i15, k15⟩, b15,
    _, _, F16, ⟨a16, i16, k16⟩, b16,
    _, _, F17, ⟨a17, i17, k17⟩, b17,
    _, _, F18, PySem.W.mg_of X G a18, b18,
    _, _, F19, PySem.W.mg_of X G a19, b19,
    _, _, F20, PySem.W.mg_of X G a20, b20,
    _, _, F21, PySem.W.mg_of X G a21, b21,
    _, _, F22, PySem.W.mg_of X G a22, b22,
    _, _, F23, PySem.W.mg_of X G a23, b23,
    _, _, F24, PySem.W.mg_of X G a24, b24,
    _, _, F25, PySem.W.mg_of X G a25, b25,
    _, _, F26, PySem.W.mg_of X G a26, b26,
    _, _, F27, PySem.W.mg_of X G a27, b27,
    _, _, F28, PySem.W.mg_of X G a28, b28,
    _, _, F29, PySem.W.mg_of X G a29, b29,
    C_PearlError, PySem.W.mg_of X G aC_PearlError,
    C_BadBead, PySem.W.mg_of X G aC_BadBead,
    C_NoShare, PySem.W.mg_of X G aC_NoShare,
    C_NoSuch, PySem.W.mg_of X G aC_NoSuch,
    ⟨⟨nm_NoShare, q_NoShare, N_NoShare, bs_NoShare, _, sn_NoShare, sub_NoShare, ab_NoShare, col_NoShare, dd_NoShare, m0_NoShare, m1_NoShare, m2_NoShare, m3_NoShare, m5_NoShare, xL_NoShare, rfl⟩, xsa_NoShare, xe_NoShare, xt_NoShare, xk_NoShare⟩,
    xi_NoShare, beq_iff_eq.mp i1,
    ⟨xga_NoShare, xgg_NoShare, xe_NoShare, xhd_NoShare, xca_NoShare, xcg_NoShare, xct_NoShare, xmo_NoShare⟩,
    xn_NoShare_num,
    PySem.W.exm_ref ye_NoShare yh_NoShare yt_NoShare xs_NoShare_NoShare,
    ⟨⟨nm_NoSuch, q_NoSuch, N_NoSuch, bs_NoSuch, _, sn_NoSuch, sub_NoSuch, ab_NoSuch, col_NoSuch, dd_NoSuch, m0_NoSuch, m1_NoSuch, m2_NoSuch, m3_NoSuch, m5_NoSuch, xL_NoSuch, rfl⟩, xsa_NoSuch, xe_NoSuch, xt_NoSuch, xk_NoSuch⟩,
    xi_NoSuch, beq_iff_eq.mp i0,
    ⟨xga_NoSuch, xgg_NoSuch, xe_NoSuch, xhd_NoSuch, xca_NoSuch, xcg_NoSuch, xct_NoSuch, xmo_NoSuch⟩,
    xn_NoSuch_kind,
    xn_NoSuch_name,
    PySem.W.exm_ref ye_NoSuch yh_NoSuch yt_NoSuch xs_NoSuch_NoSuch,
    vV_LookupError,
    vV_ZeroDivisionError,
    vV,
    i_kb_1,
    h_kb_1,
    i_kb_2,
    h_kb_2,
    i_kb_3,
    h_kb_3,
    i_kb_4,
    h_kb_4,
    i_kb_5,
    h_kb_5,
    dsW,
    hdW,
    bdW,
    dsS,
    hdS,
    bdS,
    ⟨ic1, ic2, ic3, ic4, if_pos (beq_self_eq_true _)⟩,
    ic4,
    hne_Share,
    sn_NoneType,
    (by simp [PySem.W.notFirst, su_int]),
    no_int,
    (by simp [PySem.W.notFirst, su_str]),
    no_str,
    (by simp [PySem.W.notFirst, su_bool]),
    no_bool,
    (by simp [PySem.W.notFirst, su_NoneType]),
    no_NoneType,
    (by simp [PySem.W.notFirst, su_tuple]),
    no_tuple,
    PySem.W.exm_ref ye_NoSuch yh_NoSuch yt_NoSuch sx_NoShare,
    ⟨jc1, ic2, ic3, jc4, if_pos (beq_self_eq_true _)⟩,
    lb_Bead,
    _, PySem.W.mg_of X G q0,
    _, PySem.W.mg_of X G q1,
    _, PySem.W.mg_of X G q4,
    _, PySem.W.mg_of X G q5,
    PySem.W.mg_none_of X G z0,
    PySem.W.mg_none_of X G z1,
    PySem.W.mg_none_of X G z2,
    PySem.W.mg_none_of X G z3,
    PySem.W.mg_none_of X G z4,
    PySem.W.mg_none_of X G z5,
    PySem.W.mg_none_of X G z6,
    PySem.W.mg_none_of X G z7,
    PySem.W.mg_none_of X G z8,
    PySem.W.mg_none_of X G z9,
    PySem.W.mg_none_of X G z10,
    PySem.W.mg_none_of X G z11,
    PySem.W.mg_none_of X G z12,
    PySem.W.mg_none_of X G z13,
    PySem.W.mg_none_of X G z14⟩
  exact ⟨PySem.W.fnOf "law" "law" (defArgs s_law) (defBody s_law) (defScope s_law) .none kV30 dc30 pm30 an30 cd30 ct30, fun s v => .of_eq rfl, fun base _ _ => ok_law T F30⟩
end KB
open PySem PySem.W PyProof.Rows
set_option maxRecDepth 100000 in
set_option maxHeartbeats 0 in
theorem PySem.Challenge.cw_pearlrise_k11_worths_reckoned_holds : PySem.Challenge.rw_pearlrise_k11_worths_reckoned.Holds := by
  w_on; o_law; k_head; (case hw => w_witness2)
  k_fill
  refine KA.walk_G (l := PySem.Challenge.rw_pearlrise_k11_worths_reckoned) (n := 63) (k := 19) (x := "_law_script") (CX := fun _ => L2.CX0) (sp := fun w => KB.spLaw _) rfl (by decide) rfl ⟨rfl, by decide, by decide⟩ (fun w h Y => PySem.W.kIn_of Y) ?F (fun _ _ a ns hl _ hS => ⟨a, ns, rfl, hS, hl, fun _ => rfl⟩) (fun _ _ _ _ _ h => h)
  case F =>
    intro w mg fa h KX G hmg
    refine' KB.all_mk KX G hmg ?aC_Share ?pg_Share ?hd_Share ?po_Share ?sa_Share ?mk_Share ?kc_Share ?n_Share_num ?n_Share_over ?aC_Bead ?pg_Bead ?hd_Bead ?po_Bead ?sa_Bead ?mk_Bead ?kc_Bead ?n_Bead_number ?n_Bead_across ?n_Bead_weight ?n_Bead_shade ?n_Bead_form ?n_Bead_drilled ?aC_PearlError ?aC_BadBead ?aC_NoShare ?aC_NoSuch ?a0 ?i0 ?l0 ?c0 ?k0 ?a1 ?i1 ?l1 ?c1 ?k1 ?a2 ?l2 ?c2 ?k2 ?a3 ?l3 ?c3 ?k3 ?a4 ?l4 ?c4 ?k4 ?a5 ?l5 ?c5 ?k5 ?a6 ?l6 ?c6 ?k6 ?a7 ?i7 ?l7 ?d7 ?c7 ?k7 ?a8 ?i8 ?l8 ?c8 ?k8 ?a9 ?i9 ?l9 ?c9 ?k9 ?a10 ?l10 ?c10 ?k10 ?a11 ?l11 ?d11 ?c11 ?k11 ?a12 ?l12 ?d12 ?c12 ?k12 ?a13 ?l13 ?c13 ?k13 ?a14 ?i14 ?l14 ?d14 ?c14 ?k14 ?a15 ?i15 ?l15 ?c15 ?k15 ?a16 ?i16 ?l16 ?c16 ?k16 ?a17 ?i17 ?l17 ?c17 ?k17 ?a18 ?l18 ?c18 ?k18 ?a19 ?l19 ?c19 ?k19 ?a20 ?l20 ?c20 ?k20 ?a21 ?l21 ?c21 ?k21 ?a22 ?l22 ?c22 ?k22 ?a23 ?l23 ?c23 ?k23 ?a24 ?l24 ?c24 ?k24 ?a25 ?l25 ?c25 ?k25 ?a26 ?l26 ?c26 ?k26 ?a27 ?l27 ?c27 ?k27 ?a28 ?l28 ?c28 ?k28 ?a29 ?l29 ?c29 ?k29 ?a30 ?l30 ?c30 ?k30 ?q0 ?q1 ?q4 ?q5 ?z0 ?z1 ?z2 ?z3 ?z4 ?z5 ?z6 ?z7 ?z8 ?z9 ?z10 ?z11 ?z12 ?z13 ?z14 ?xL_NoShare ?xsa_NoShare ?xe_NoShare ?xt_NoShare ?xk_NoShare ?xi_NoShare ?xga_NoShare ?xgg_NoShare ?xhd_NoShare ?xca_NoShare ?xcg_NoShare ?xct_NoShare ?xmo_NoShare ?xn_NoShare_num ?xs_NoShare_NoShare ?ye_NoShare ?yh_NoShare ?yt_NoShare ?xL_NoSuch ?xsa_NoSuch ?xe_NoSuch ?xt_NoSuch ?xk_NoSuch ?xi_NoSuch ?xga_NoSuch ?xgg_NoSuch ?xhd_NoSuch ?xca_NoSuch ?xcg_NoSuch ?xct_NoSuch ?xmo_NoSuch ?xn_NoSuch_kind ?xn_NoSuch_name ?xs_NoSuch_NoSuch ?ye_NoSuch ?yh_NoSuch ?yt_NoSuch ?vV_LookupError ?vV_ZeroDivisionError ?vV ?ic1 ?ic2 ?ic3 ?ic4 ?hne_Share ?sn_NoneType ?su_int ?no_int ?su_str ?no_str ?su_bool ?no_bool ?su_NoneType ?no_NoneType ?su_tuple ?no_tuple ?sx_NoShare ?jc1 ?jc4 ?lb_Bead
    (case aC_Share => k_is)
    (case pg_Share => k_is)
    (case hd_Share => k_is)
    (case po_Share => k_is)
    (case sa_Share => k_is)
    (case mk_Share => k_is)
    (case kc_Share => k_is)
    (case n_Share_num => k_is)
    (case n_Share_over => k_is)
    (case aC_Bead => k_is)
    (case pg_Bead => k_is)
    (case hd_Bead => k_is)
    (case po_Bead => k_is)
    (case sa_Bead => k_is)
    (case mk_Bead => k_is)
    (case kc_Bead => k_is)
    (case n_Bead_number => k_is)
    (case n_Bead_across => k_is)
    (case n_Bead_weight => k_is)
    (case n_Bead_shade => k_is)
    (case n_Bead_form => k_is)
    (case n_Bead_drilled => k_is)
    (case aC_PearlError => k_is)
    (case aC_BadBead => k_is)
    (case aC_NoShare => k_is)
    (case aC_NoSuch => k_is)
    (case a0 => k_is)
    (case i0 => k_is)
    (case l0 => k_is)
    (case c0 => k_is)
    (case k0 => k_is)
    (case a1 => k_is)
    (case i1 => k_is)
    (case l1 => k_is)
    (case c1 => k_is)
    (case k1 => k_is)
    (case a2 => k_is)
    (case l2 => k_is)
    (case c2 => k_is)
    (case k2 => k_is)
    (case a3 => k_is)
    (case l3 => k_is)
    (case c3 => k_is)
    (case k3 => k_is)
    (case a4 => k_is)
    (case l4 => k_is)
    (case c4 => k_is)
    (case k4 => k_is)
    (case a5 => k_is)
    (case l5 => k_is)
    (case c5 => k_is)
    (case k5 => k_is)
    (case a6 => k_is)
    (case l6 => k_is)
    (case c6 => k_is)
    (case k6 => k_is)
    (case a7 => k_is)
    (case i7 => k_is)
    (case l7 => k_is)
    (case d7 => k_is)
    (case c7 => k_is)
    (case k7 => k_is)
    (case a8 => k_is)
    (case i8 => k_is)
    (case l8 => k_is)
    (case c8 => k_is)
    (case k8 => k_is)
    (case a9 => k_is)
    (case i9 => k_is)
    (case l9 => k_is)
    (case c9 => k_is)
    (case k9 => k_is)
    (case a10 => k_is)
    (case l10 => k_is)
    (case c10 => k_is)
    (case k10 => k_is)
    (case a11 => k_is)
    (case l11 => k_is)
    (case d11 => k_is)
    (case c11 => k_is)
    (case k11 => k_is)
    (case a12 => k_is)
    (case l12 => k_is)
    (case d12 => k_is)
    (case c12 => k_is)
    (case k12 => k_is)
    (case a13 => k_is)
    (case l13 => k_is)
    (case c13 => k_is)
    (case k13 => k_is)
    (case a14 => k_is)
    (case i14 => k_is)
    (case l14 => k_is)
    (case d14 => k_is)
    (case c14 => k_is)
    (case k14 => k_is)
    (case a15 => k_is)
    (case i15 => k_is)
    (case l15 => k_is)
    (case c15 => k_is)
    (case k15 => k_is)
    (case a16 => k_is)
    (case i16 => k_is)
    (case l16 => k_is)
    (case c16 => k_is)
    (case k16 => k_is)
    (case a17 => k_is)
    (case i17 => k_is)
    (case l17 => k_is)
    (case c17 => k_is)
    (case k17 => k_is)
    (case a18 => k_is)
    (case l18 => k_is)
    (case c18 => k_is)
    (case k18 => k_is)
    (case a19 => k_is)
    (case l19 => k_is)
    (case c19 => k_is)
    (case k19 => k_is)
    (case a20 => k_is)
    (case l20 => k_is)
    (case c20 => k_is)
    (case k20 => k_is)
    (case a21 => k_is)
    (case l21 => k_is)
    (case c21 => k_is)
    (case k21 => k_is)
    (case a22 => k_is)
    (case l22 => k_is)
    (case c22 => k_is)
    (case k22 => k_is)
    (case a23 => k_is)
    (case l23 => k_is)
    (case c23 => k_is)
    (case k23 => k_is)
    (case a24 => k_is)
    (case l24 => k_is)
    (case c24 => k_is)
    (case k24 => k_is)
    (case a25 => k_is)
    (case l25 => k_is)
    (case c25 => k_is)
    (case k25 => k_is)
    (case a26 => k_is)
    (case l26 => k_is)
    (case c26 => k_is)
    (case k26 => k_is)
    (case a27 => k_is)
    (case l27 => k_is)
    (case c27 => k_is)
    (case k27 => k_is)
    (case a28 => k_is)
    (case l28 => k_is)
    (case c28 => k_is)
    (case k28 => k_is)
    (case a29 => k_is)
    (case l29 => k_is)
    (case c29 => k_is)
    (case k29 => k_is)
    (case a30 => k_is)
    (case l30 => k_is)
    (case c30 => k_is)
    (case k30 => k_is)
    (case q0 => k_is)
    (case q1 => k_is)
    (case q4 => k_is)
    (case q5 => k_is)
    (case z0 => k_is)
    (case z1 => k_is)
    (case z2 => k_is)
    (case z3 => k_is)
    (case z4 => k_is)
    (case z5 => k_is)
    (case z6 => k_is)
    (case z7 => k_is)
    (case z8 => k_is)
    (case z9 => k_is)
    (case z10 => k_is)
    (case z11 => k_is)
    (case z12 => k_is)
    (case z13 => k_is)
    (case z14 => k_is)
    (case xL_NoShare => k_is)
    (case xsa_NoShare => k_is)
    (case xe_NoShare => k_is)
    (case xt_NoShare => k_is)
    (case xk_NoShare => k_is)
    (case xi_NoShare => k_is)
    (case xga_NoShare => k_is)
    (case xgg_NoShare => k_is)
    (case xhd_NoShare => k_is)
    (case xca_NoShare => k_is)
    (case xcg_NoShare => k_is)
    (case xct_NoShare => k_is)
    (case xmo_NoShare => k_is)
    (case xn_NoShare_num => k_is)
    (case xs_NoShare_NoShare => k_is)
    (case ye_NoShare => k_is)
    (case yh_NoShare => k_is)
    (case yt_NoShare => k_is)
    (case xL_NoSuch => k_is)
    (case xsa_NoSuch => k_is)
    (case xe_NoSuch => k_is)
    (case xt_NoSuch => k_is)
    (case xk_NoSuch => k_is)
    (case xi_NoSuch => k_is)
    (case xga_NoSuch => k_is)
    (case xgg_NoSuch => k_is)
    (case xhd_NoSuch => k_is)
    (case xca_NoSuch => k_is)
    (case xcg_NoSuch => k_is)
    (case xct_NoSuch => k_is)
    (case xmo_NoSuch => k_is)
    (case xn_NoSuch_kind => k_is)
    (case xn_NoSuch_name => k_is)
    (case xs_NoSuch_NoSuch => k_is)
    (case ye_NoSuch => k_is)
    (case yh_NoSuch => k_is)
    (case yt_NoSuch => k_is)
    (case vV_LookupError => k_is)
    (case vV_ZeroDivisionError => k_is)
    (case vV => k_is)
    (case ic1 => k_is)
    (case ic2 => k_is)
    (case ic3 => k_is)
    (case ic4 => k_is)
    (case hne_Share => k_is)
    (case sn_NoneType => k_is)
    (case su_int => k_is)
    (case no_int => kit_is)
    (case su_str => k_is)
    (case no_str => kit_is)
    (case su_bool => k_is)
    (case no_bool => kit_is)
    (case su_NoneType => k_is)
    (case no_NoneType => kit_is)
    (case su_tuple => k_is)
    (case no_tuple => kit_is)
    (case sx_NoShare => k_is)
    (case jc1 => k_is)
    (case jc4 => k_is)
    (case lb_Bead => kit_is)
