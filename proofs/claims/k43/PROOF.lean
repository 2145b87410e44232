import PyProof.Rows.All
import Wide.All
import OpenK.AllK
import Wide.FinOn
import HandS.ForMost
import HandS.IsInst
import HandS.Wide
import HandS.Walk
import HandS.TupAny
import HandS.Style
import HandS.Defaults
import HandS.MakeKw
import KE.IntTextLaws
import HandS.OwnEq
import HandS.ExcInit
import HandS.ExcField
import HandS.ExcIs
import HandS.ExcOwn
import HandS.WordsExc
import KE.KExcIs
import HandS.MakeKwOnly
import KE.KExcInit
import HandS.FStr
import PyProof.InstSpecial
import PyProof.FString2
import KE.KCallOwn
import PyProof.ReprRoads
import HandS.Ends
import HandS.FStrTup
import HandS.Flow
import KE.SortKeyHeap
import HandS.SortKw
import HandS.TupLe
import HandS.Lambda
import HandS.EndTab
import HandS.DictComp
import HandS.WordsDict
import HandS.Dict
import HandS.Zip
import PyProof.DictUpdate
import HandS.Iter
import KE.GoesEnum
import HandS.NoneIn
import HandS.Strs
import HandS.StrMore
import HandS.SortRule
import HandS.WideBits
import PySem.Challenge.RW_pearlrise_k43_whole_shown_or_not
set_option Elab.async false
set_option linter.all false
set_option maxRecDepth 100000
set_option maxHeartbeats 4000000
namespace KA
open PySem PySem.Spec PyProof.Rows L2
/-! ### heaps -/
theorem same_upd {H : Hp} {p : Addr} {o : HO} (h : H p = none) : Same H (upd H p o) := fun b x e => by
  rw [upd_ne (ne_of_none e h)]
  exact e
/-- all but what stands at d is as it was -/
def But (d : Addr) (H H' : Hp) : Prop := ∀ b o, b ≠ d → H b = some o → H' b = some o
theorem But.refl (d : Addr) (H : Hp) : But d H H := fun _ _ _ h => h
theorem But.trans {d : Addr} {H H1 H2 : Hp} (a : But d H H1) (b : But d H1 H2) : But d H H2 := fun c o n h => b c o n (a c o n h)
theorem But.of {d : Addr} {H H' : Hp} (s : Same H H') : But d H H' := fun b o _ h => s b o h
theorem But.at_ {d : Addr} {H : Hp} {o : HO} : But d H (upd H d o) := fun b x n h => by
  rw [upd_ne n]
  exact h
theorem But.new {d p : Addr} {H : Hp} {o : HO} (h : H p = none) : But d H (upd H p o) := But.of (same_upd h)
theorem But.same {d : Addr} {H0 H H' : Hp} (h0 : H0 d = none) (s : Same H0 H) (b : But d H H') : Same H0 H' := fun c o h => b c o (ne_of_none h h0) (s c o h)
theorem But.mut {d : Addr} {H0 H : Hp} {o : HO} {p : Addr} (b : But d H0 H) (h : H0 p = none) : But d H0 (upd H p o) := fun c x n e => by
  rw [upd_ne (ne_of_none e h)]
  exact b c x n e
theorem But.free {d p : Addr} {H H' : Hp} (b : But d H H') (n : p ≠ d) (h : H' p = none) : H p = none := by
  cases q : H p with
  | none => rfl
  | some o =>
    rw [b p o n q] at h
    cases h
theorem but_seq {K : PySem.W.Frag} {d a : Addr} {H H' : Hp} {xs : List V} (b : But d H H') (n : a ≠ d) (h : SqL K H a xs) : SqL K H' a xs := by
  rcases h with (h | ⟨o, h⟩) | h
  · exact .inl (.inl (b _ _ n h))
  · exact .inl (.inr ⟨o, b _ _ n h⟩)
  · exact .inr h
/-- the draws' list at d, its counter at most n -/
def Dr (P : Int → Prop) (d : Addr) (n : Nat) (H : Hp) : Prop := ∃ a b c : Int, H d = some (.lst [.int a, .int b, .int c]) ∧ P b ∧ 0 ≤ c ∧ c ≤ n
theorem Dr.same {P : Int → Prop} {d : Addr} {n : Nat} {H H' : Hp} (h : Dr P d n H) (s : Same H H') : Dr P d n H' := by
  obtain ⟨a, b, c, e, r⟩ := h
  exact ⟨a, b, c, s _ _ e, r⟩
theorem Dr.ne {P : Int → Prop} {d p : Addr} {n : Nat} {H : Hp} (h : Dr P d n H) (e : H p = none) : p ≠ d := by
  obtain ⟨a, b, c, z, _⟩ := h
  exact (ne_of_none z e).symm
theorem Dr.mono {P : Int → Prop} {d : Addr} {n m : Nat} {H : Hp} (h : Dr P d n H) (e : n ≤ m) : Dr P d m H := by
  obtain ⟨a, b, c, z, h1, h3, h4⟩ := h
  exact ⟨a, b, c, z, h1, h3, by omega⟩
theorem Dr.upd {P : Int → Prop} {d p : Addr} {n : Nat} {H : Hp} {o : HO} (h : Dr P d n H) (e : p ≠ d) : Dr P d n (L2.upd H p o) := by
  obtain ⟨a, b, c, z, r⟩ := h
  exact ⟨a, b, c, by rw [upd_ne e.symm]; exact z, r⟩
theorem yesT {σ : L2.St} {H : Hp} {A B : Hp → Prop} (h : A H) : tYes σ H (fun b H3 => if b = true then A H3 else B H3) := by
  show if true = true then A H else B H
  exact iteT h
/-! ### what is no own object -/
inductive Th (K : PySem.W.Frag) (H : Hp) : V → Prop
  | int (i : Int) : Th K H (.int i)
  | bl (b : Bool) : Th K H (.bl b)
  | str (z : Str) : Th K H (.str z)
  | non : Th K H .non
  | lst {a : Addr} (h : TyX K H (.ref a) (.type "list")) : Th K H (.ref a)
  | tup {a : Addr} (h : TyX K H (.ref a) (.type "tuple")) : Th K H (.ref a)
  | dct {a : Addr} (h : TyX K H (.ref a) (.type "dict")) : Th K H (.ref a)
def isI : V → Bool
  | .int _ => true
  | _ => false
def isB : V → Bool
  | .bl _ => true
  | _ => false
def isS : V → Bool
  | .str _ => true
  | _ => false
theorem isi_int {K : PySem.W.Frag} {H : Hp} {v : V} (h : Th K H v) : ∃ t, TyX K H v t ∧ PySem.W.kitOne K t (.type "int") = some (isI v || isB v) := by
  cases h with
  | int i => exact ⟨_, .base (.int i), kit_ty (r := true) (by decide +kernel)⟩
  | bl b => exact ⟨_, .base (.bl b), kit_ty (r := true) (by decide +kernel)⟩
  | str z => exact ⟨_, .base (.str z), kit_ty (r := false) (by decide +kernel)⟩
  | non => exact ⟨_, .base .non, kit_ty (r := false) (by decide +kernel)⟩
  | lst h => exact ⟨_, h, kit_ty (r := false) (by decide +kernel)⟩
  | tup h => exact ⟨_, h, kit_ty (r := false) (by decide +kernel)⟩
  | dct h => exact ⟨_, h, kit_ty (r := false) (by decide +kernel)⟩
theorem isi_bool {K : PySem.W.Frag} {H : Hp} {v : V} (h : Th K H v) : ∃ t, TyX K H v t ∧ PySem.W.kitOne K t (.type "bool") = some (isB v) := by
  cases h with
  | int i => exact ⟨_, .base (.int i), kit_ty (r := false) (by decide +kernel)⟩
  | bl b => exact ⟨_, .base (.bl b), kit_ty (r := true) (by decide +kernel)⟩
  | str z => exact ⟨_, .base (.str z), kit_ty (r := false) (by decide +kernel)⟩
  | non => exact ⟨_, .base .non, kit_ty (r := false) (by decide +kernel)⟩
  | lst h => exact ⟨_, h, kit_ty (r := false) (by decide +kernel)⟩
  | tup h => exact ⟨_, h, kit_ty (r := false) (by decide +kernel)⟩
  | dct h => exact ⟨_, h, kit_ty (r := false) (by decide +kernel)⟩
theorem isi_str {K : PySem.W.Frag} {H : Hp} {v : V} (h : Th K H v) : ∃ t, TyX K H v t ∧ PySem.W.kitOne K t (.type "str") = some (isS v) := by
  cases h with
  | int i => exact ⟨_, .base (.int i), kit_ty (r := false) (by decide +kernel)⟩
  | bl b => exact ⟨_, .base (.bl b), kit_ty (r := false) (by decide +kernel)⟩
  | str z => exact ⟨_, .base (.str z), kit_ty (r := true) (by decide +kernel)⟩
  | non => exact ⟨_, .base .non, kit_ty (r := false) (by decide +kernel)⟩
  | lst h => exact ⟨_, h, kit_ty (r := false) (by decide +kernel)⟩
  | tup h => exact ⟨_, h, kit_ty (r := false) (by decide +kernel)⟩
  | dct h => exact ⟨_, h, kit_ty (r := false) (by decide +kernel)⟩
/-! ### signs -/
def lower (c : Nat) : Bool := decide (97 ≤ c) && decide (c ≤ 122)
def figure (c : Nat) : Bool := decide (48 ≤ c) && decide (c ≤ 57)
theorem sgl_lt (a b : Nat) : (([a] : List Nat) < [b]) ↔ a < b := by
  rw [List.cons_lt_cons_iff]
  simp
theorem ge_a (c : Nat) : (!decide ((⟨#[c]⟩ : Str).cps.toList < ("a" : Str).cps.toList)) = decide (97 ≤ c) := by
  have e : ("a" : Str).cps.toList = [97] := by decide +kernel
  rw [e]
  show (!decide ([c] < [97])) = _
  rw [decide_eq_decide.mpr (sgl_lt c 97), ← decide_not, decide_eq_decide]
  omega
theorem le_z (c : Nat) : (!decide (("z" : Str).cps.toList < (⟨#[c]⟩ : Str).cps.toList)) = decide (c ≤ 122) := by
  have e : ("z" : Str).cps.toList = [122] := by decide +kernel
  rw [e]
  show (!decide ([122] < [c])) = _
  rw [decide_eq_decide.mpr (sgl_lt 122 c), ← decide_not, decide_eq_decide]
  omega
theorem in_az (c : Nat) : decide (c ∈ ("abcdefghijklmnopqrstuvwxyz" : Str).cps.toList) = lower c := by
  have e : ("abcdefghijklmnopqrstuvwxyz" : Str).cps.toList = (List.range 26).map (· + 97) := by decide +kernel
  unfold lower
  rw [e, ← Bool.decide_and, decide_eq_decide, List.mem_map]
  constructor
  · rintro ⟨a, ha, rfl⟩
    rw [List.mem_range] at ha
    omega
  · intro h
    exact ⟨c - 97, List.mem_range.mpr (by omega), by omega⟩
theorem in_09 (c : Nat) : decide (c ∈ ("0123456789" : Str).cps.toList) = figure c := by
  have e : ("0123456789" : Str).cps.toList = (List.range 10).map (· + 48) := by decide +kernel
  unfold figure
  rw [e, ← Bool.decide_and, decide_eq_decide, List.mem_map]
  constructor
  · rintro ⟨a, ha, rfl⟩
    rw [List.mem_range] at ha
    omega
  · intro h
    exact ⟨c - 48, List.mem_range.mpr (by omega), by omega⟩
/-! ### numbers by figures -/
open NumText TL
theorem fold_lt : ∀ (cs : List Nat) (a : Nat), AllDigits cs → a * 10 ^ cs.length ≤ cs.foldl (fun acc c => acc * 10 + (c - 48)) a ∧ cs.foldl (fun acc c => acc * 10 + (c - 48)) a < (a + 1) * 10 ^ cs.length
  | [], a, _ => by simp
  | c :: cs, a, h => by
    have hc := h.head
    have ih := fold_lt cs (a * 10 + (c - 48)) h.tail
    rw [List.foldl_cons, List.length_cons, Nat.pow_succ]
    have p : 0 < 10 ^ cs.length := Nat.pos_of_ne_zero (by simp)
    generalize 10 ^ cs.length = q at *
    refine ⟨Nat.le_trans ?_ ih.1, Nat.lt_of_lt_of_le ih.2 ?_⟩
    · have : a * (q * 10) = (a * 10) * q := by rw [Nat.mul_comm q 10, ← Nat.mul_assoc]
      rw [this]
      exact Nat.mul_le_mul_right q (by omega)
    · have : (a + 1) * (q * 10) = ((a + 1) * 10) * q := by rw [Nat.mul_comm q 10, ← Nat.mul_assoc]
      rw [this]
      exact Nat.mul_le_mul_right q (by omega)
theorem val_lt {cs : List Nat} (h : AllDigits cs) : digitsVal cs < 10 ^ cs.length := by
  have := (fold_lt cs 0 h).2
  rw [Nat.zero_add, Nat.one_mul] at this
  exact this
theorem val_ge {c : Nat} {cs : List Nat} (h : AllDigits (c :: cs)) (hc : c ≠ 48) : 10 ^ cs.length ≤ digitsVal (c :: cs) := by
  have h1 := h.head
  have := (fold_lt cs (0 * 10 + (c - 48)) h.tail).1
  refine Nat.le_trans ?_ this
  have : 1 * 10 ^ cs.length ≤ (0 * 10 + (c - 48)) * 10 ^ cs.length := Nat.mul_le_mul_right _ (by omega)
  omega
theorem val_zero {cs : List Nat} : digitsVal (48 :: cs) = digitsVal cs := rfl
/-- the figures of a number have as many signs as the word just where it has no nought ahead of others -/
theorem len_canon {c : Nat} {cs : List Nat} (h : AllDigits (c :: cs)) : (numL (digitsVal (c :: cs))).length = (c :: cs).length ↔ ¬ (c = 48 ∧ 1 < (c :: cs).length) := by
  constructor
  · rintro e ⟨rfl, hl⟩
    rw [val_zero] at e
    rw [List.length_cons] at e hl
    have := numL_len (n := digitsVal cs) (k := cs.length) (by omega) (val_lt h.tail)
    omega
  · intro hn
    by_cases hc : c = 48
    · subst hc
      have : cs = [] := by
        cases cs with
        | nil => rfl
        | cons d r =>
          exact absurd ⟨rfl, by rw [List.length_cons, List.length_cons]; omega⟩ hn
      subst this
      rw [val_zero]
      show (numL 0).length = 1
      rw [numL_lt (by decide)]
      rfl
    · have u := numL_len (n := digitsVal (c :: cs)) (k := (c :: cs).length) (by rw [List.length_cons]; omega) (val_lt h)
      have l := val_ge h hc
      have v := val_lt (numL_digits (digitsVal (c :: cs)))
      rw [numL_val] at v
      have w : 10 ^ cs.length < 10 ^ (numL (digitsVal (c :: cs))).length := Nat.lt_of_le_of_lt l v
      have := (Nat.pow_lt_pow_iff_right (by decide : 1 < 10)).mp w
      rw [List.length_cons] at *
      omega
/-- words of figures of one length and one worth are one -/
theorem fold_inj : ∀ (cs ds : List Nat) (a b : Nat), AllDigits cs → AllDigits ds → cs.length = ds.length → cs.foldl (fun acc c => acc * 10 + (c - 48)) a = ds.foldl (fun acc c => acc * 10 + (c - 48)) b → a = b ∧ cs = ds
  | [], [], a, b, _, _, _, e => ⟨e, rfl⟩
  | [], _ :: _, _, _, _, _, l, _ => by simp at l
  | _ :: _, [], _, _, _, _, l, _ => by simp at l
  | c :: cs, d :: ds, a, b, h1, h2, l, e => by
    have q := fold_inj cs ds (a * 10 + (c - 48)) (b * 10 + (d - 48)) h1.tail h2.tail (by simpa using l) e
    have hc := h1.head
    have hd := h2.head
    have e1 := q.1
    have : a = b ∧ c = d := by omega
    exact ⟨this.1, by rw [this.2, q.2]⟩
theorem canon_eq {c : Nat} {cs : List Nat} (h : AllDigits (c :: cs)) (hn : ¬ (c = 48 ∧ 1 < (c :: cs).length)) : numL (digitsVal (c :: cs)) = c :: cs :=
  (fold_inj _ _ 0 0 (numL_digits _) h ((len_canon h).mpr hn) (numL_val _)).2
section
variable {X : Cx}
/-- a text many times -/
def timesS (z : Str) (n : Nat) : Str := ⟨(List.replicate n z.cps).foldl (· ++ ·) #[]⟩
theorem times_fold (c : Nat) : ∀ (n : Nat) (a : Array Nat), ((List.replicate n #[c]).foldl (· ++ ·) a).toList = a.toList ++ List.replicate n c
  | 0, a => by simp
  | n + 1, a => by
    rw [List.replicate_succ, List.foldl_cons, times_fold c n (a ++ #[c]), Array.toList_append, List.append_assoc]
    rfl
theorem times_list {z : Str} {c n : Nat} (h : z.cps = #[c]) : (timesS z n).cps.toList = List.replicate n c := by
  unfold timesS
  show ((List.replicate n z.cps).foldl (· ++ ·) #[]).toList = _
  rw [h, times_fold c n #[]]
  rfl
theorem times_len {z : Str} {c n : Nat} (h : z.cps = #[c]) : (timesS z n).length = n := by
  show (timesS z n).cps.size = n
  rw [← Array.length_toList, times_list h, List.length_replicate]
theorem op_mulS : OpR X (binaryOp .Mult) (fun x y H Q => ∃ (z : Str) (k : Int), x = .str z ∧ y = .int k ∧ 2 ≤ k ∧ k ≤ 100000 ∧ (∃ c, z.cps = #[c]) ∧ Q (.str (timesS z k.toNat)) H) := by
  intro pins s σ H x y v u Q I rx ry h
  obtain ⟨z, k, rfl, rfl, h2, h3, ⟨c, hc⟩, q⟩ := h
  have hz : z.length = 1 := by
    show z.cps.size = 1
    rw [hc]
    rfl
  obtain ⟨t, rfl⟩ := rx
  obtain ⟨t', rfl⟩ := ry
  refine PySem.P.mul_str ?_ ?_ ?_ ?_
  · rw [decide_eq_false (by omega), decide_eq_false (by omega)]
    rfl
  · intro _ _
    rw [hz]
    have : (1 : Int) ≤ (2 ^ 63 - 1) / k := by
      have : (2 ^ 63 - 1 : Int) / k ≥ 1 := (Int.le_ediv_iff_mul_le (by omega)).mpr (by omega)
      exact this
    omega
  · intro _ _
    rw [hz]
    exact decide_eq_false (by
      have : (100000 : Nat) ≤ sizeLine := by decide
      show ¬ _ > _
      omega)
  · have hk1 : (k == 1) = false := by
      rw [beq_eq_false_iff_ne]
      omega
    rw [if_neg (by omega), if_neg (by rw [hk1, hz]; decide)]
    refine ⟨?_, ⟨.str (timesS z k.toNat), H, I.tok _, ⟨_, rfl⟩, q⟩⟩
    have e := times_len (n := k.toNat) hc
    have : (100000 : Nat) ≤ sizeLine := by decide
    show (timesS z k.toNat).length ≤ sizeLine
    omega
end

/-! ### comprehensions over a text -/
/-- [truth of each sign] -/
theorem lc_all {z : Str} {H : Hp} {D : Addr} (hD : H D = none) (hz : z.length ≤ 100000) (f : Nat → Bool) {g : TG} {tt : TT} {te : TE} {vs : List Nat} {σ : L2.St} {Qd : Hp → Prop}
    (turn : ∀ (c : Nat) (H2 : Hp) (R : V → Hp → Prop) (C : Hp → Prop), Same H H2 → R (.bl (f c)) H2 → g (.str ⟨#[c]⟩) (wipe σ vs) H2 fun σ2 H2 => wipe σ2 vs = wipe σ vs ∧ tt σ2 H2 fun b H3 => if b = true then te σ2 H3 R else C H3)
    (fin : ∀ H', Same H H' → H' D = some (.lst ((z.cps.toList.map f).map V.bl)) → Qd H') :
    ∃ W : Nat → Nat → Hp → Prop, (∃ m, W 0 m (upd H D (.lst []))) ∧ ∀ i m H, W i m H →
      ((Its z).stop i H ∧ Qd H) ∨ ((Its z).go i H ∧ ∃ Nx : Hp → Prop, (∀ H', Nx H' → ∃ m', m' < m ∧ W (i + 1) m' H') ∧ ∀ x H', (Its z).yld i H x H' → g x (wipe σ vs) H' fun σ2 H2 => wipe σ2 vs = wipe σ vs ∧ tt σ2 H2 fun b H3 =>
        if b = true then te σ2 H3 fun y H4 => ∃ acc, H4 D = some (.lst acc) ∧ acc.length < sizeLine ∧ Nx (upd H4 D (.lst (acc ++ [y]))) else Nx H3) := by
  have hzl : z.length ≤ sizeLine := Nat.le_trans hz (by decide)
  refine lc_it walk_str (fun i H' => Same H H' ∧ H' D = some (.lst (((z.cps.toList.take i).map f).map V.bl))) ⟨same_upd hD, upd_same⟩ (fun _ _ _ _ => trivial) ?_ ?_
  · rintro i x H1 H2 hi ⟨s1, e1⟩ ⟨rfl, c, hc, rfl⟩
    refine turn c _ _ _ s1 ?_
    have hc' : z.cps.toList[i]? = some c := by rw [Array.getElem?_toList]; exact hc
    refine ⟨_, e1, ?_, fun b o h => ?_, ?_⟩
    · rw [List.length_map, List.length_map, List.length_take]
      exact Nat.lt_of_le_of_lt (Nat.min_le_left _ _) (Nat.lt_of_lt_of_le hi hzl)
    · rw [upd_ne (ne_of_none h hD)]
      exact s1 _ _ h
    · rw [upd_same, List.take_add_one, hc', List.map_append, List.map_append]
      rfl
  · rintro H' ⟨s1, e1⟩
    have ef : z.cps.toList.take z.cps.size = z.cps.toList := List.take_of_length_le (by rw [Array.length_toList]; exact Nat.le_refl _)
    rw [ef] at e1
    exact fin H' s1 e1
def sg (c : Nat) : V := .str ⟨#[c]⟩
/-- [sign for sign in text if ..] -/
theorem lc_filter {z : Str} {H : Hp} {D : Addr} (hD : H D = none) (hz : z.length ≤ 100000) (f : Nat → Bool) {g : TG} {tt : TT} {te : TE} {vs : List Nat} {σ : L2.St} {Qd : Hp → Prop}
    (turn : ∀ (c : Nat) (H2 : Hp) (R : V → Hp → Prop) (C : Hp → Prop), Same H H2 → (f c = true → R (sg c) H2) → (f c = false → C H2) → g (.str ⟨#[c]⟩) (wipe σ vs) H2 fun σ2 H2 => wipe σ2 vs = wipe σ vs ∧ tt σ2 H2 fun b H3 => if b = true then te σ2 H3 R else C H3)
    (fin : ∀ H', Same H H' → H' D = some (.lst ((z.cps.toList.filter f).map sg)) → Qd H') :
    ∃ W : Nat → Nat → Hp → Prop, (∃ m, W 0 m (upd H D (.lst []))) ∧ ∀ i m H, W i m H →
      ((Its z).stop i H ∧ Qd H) ∨ ((Its z).go i H ∧ ∃ Nx : Hp → Prop, (∀ H', Nx H' → ∃ m', m' < m ∧ W (i + 1) m' H') ∧ ∀ x H', (Its z).yld i H x H' → g x (wipe σ vs) H' fun σ2 H2 => wipe σ2 vs = wipe σ vs ∧ tt σ2 H2 fun b H3 =>
        if b = true then te σ2 H3 fun y H4 => ∃ acc, H4 D = some (.lst acc) ∧ acc.length < sizeLine ∧ Nx (upd H4 D (.lst (acc ++ [y]))) else Nx H3) := by
  have hzl : z.length ≤ sizeLine := Nat.le_trans hz (by decide)
  refine lc_it walk_str (fun i H' => Same H H' ∧ H' D = some (.lst (((z.cps.toList.take i).filter f).map sg))) ⟨same_upd hD, upd_same⟩ (fun _ _ _ _ => trivial) ?_ ?_
  · rintro i x H1 H2 hi ⟨s1, e1⟩ ⟨rfl, c, hc, rfl⟩
    have hc' : z.cps.toList[i]? = some c := by rw [Array.getElem?_toList]; exact hc
    refine turn c _ _ _ s1 (fun hf => ?_) (fun hf => ?_)
    · refine ⟨_, e1, ?_, fun b o h => ?_, ?_⟩
      · rw [List.length_map]
        refine Nat.lt_of_le_of_lt (List.length_filter_le _ _) ?_
        rw [List.length_take]
        exact Nat.lt_of_le_of_lt (Nat.min_le_left _ _) (Nat.lt_of_lt_of_le hi hzl)
      · rw [upd_ne (ne_of_none h hD)]
        exact s1 _ _ h
      · rw [upd_same, List.take_add_one, hc', List.filter_append, List.map_append]
        show _ = some (HO.lst (_ ++ List.map sg (List.filter f [c])))
        rw [List.filter_cons_of_pos hf]
        rfl
    · refine ⟨s1, ?_⟩
      rw [e1, List.take_add_one, hc', List.filter_append, List.map_append]
      show _ = some (HO.lst (_ ++ List.map sg (List.filter f [c])))
      rw [List.filter_cons_of_neg (by rw [hf]; exact Bool.false_ne_true)]
      show _ = some (HO.lst (_ ++ []))
      rw [List.append_nil]
  · rintro H' ⟨s1, e1⟩
    have ef : z.cps.toList.take z.cps.size = z.cps.toList := List.take_of_length_le (by rw [Array.length_toList]; exact Nat.le_refl _)
    rw [ef] at e1
    exact fin H' s1 e1
/-- a list of signs beside [] -/
theorem dp_signs {K : PySem.W.Frag} {H : Hp} : ∀ cs : List Nat, DpAll K H (cs.map sg) (cs.map fun c => PyData.str ⟨#[c]⟩)
  | [] => .nil
  | c :: cs => .cons (.str _) (dp_signs cs)
theorem eqv_nil (ds : List PyData) : PyData.eqv (.list ds) (.list []) = ds.isEmpty := by
  cases ds with
  | nil => rfl
  | cons d r => rfl
theorem lay_signs : ∀ cs : List Nat, (∀ c ∈ cs, c < 128) → PyData.canLayAll0 (cs.map fun c => PyData.str ⟨#[c]⟩) = true
  | [], _ => rfl
  | c :: r, h => by
    have h1 := h c (List.mem_cons_self ..)
    have h2 := lay_signs r fun d hd => h d (List.mem_cons_of_mem _ hd)
    show (PyData.canLay0 (.str ⟨#[c]⟩) && PyData.canLayAll0 (r.map fun c => PyData.str ⟨#[c]⟩)) = true
    rw [h2, Bool.and_true]
    show (#[c].all (· < 0x110000)) = true
    simp
    omega
theorem dep_signs : ∀ cs : List Nat, PyData.depthAll (cs.map fun c => PyData.str ⟨#[c]⟩) = 0
  | [] => rfl
  | c :: r => by
    show max 0 (PyData.depthAll (r.map fun c => PyData.str ⟨#[c]⟩)) = 0
    rw [dep_signs r]
    rfl
theorem shp_signs {cs : List Nat} (h : ∀ c ∈ cs, c < 128) : SeqAt.shaped (.list (cs.map fun c => PyData.str ⟨#[c]⟩)) = true := by
  unfold SeqAt.shaped
  have e1 : PyData.canLay0 (.list (cs.map fun c => PyData.str ⟨#[c]⟩)) = true := lay_signs cs h
  have e2 : PyData.depth (.list (cs.map fun c => PyData.str ⟨#[c]⟩)) = 1 := by
    show PyData.depthAll _ + 1 = 1
    rw [dep_signs]
  rw [e1, e2]
  rfl
/-- signs below 128 alone -/
def Asc (z : Str) : Prop := ∀ c ∈ z.cps.toList, c < 128
theorem asc_cut {z : Str} (h : Asc z) (lo hi : Option Int) : Asc (cutS z lo hi) := fun c hc => h c (List.mem_of_mem_drop (List.mem_of_mem_take hc))
theorem asc_app {x y : Str} (hx : Asc x) (hy : Asc y) : Asc (x ++ y) := fun c hc => by
  have hc : c ∈ TL.tl (x ++ y) := hc
  rw [TL.tl_append] at hc
  rcases List.mem_append.mp hc with h | h
  · exact hx c h
  · exact hy c h
theorem asc_upper {z : Str} (h : Asc z) : Asc (Txt.upper z) ∧ (Txt.upper z).length = z.length := by
  rw [PyProof.Rows.upper_ascii h]
  refine ⟨fun c hc => ?_, ?_⟩
  · have hc : c ∈ (z.cps.map PyProof.Rows.up1).toList := hc
    rw [Array.toList_map] at hc
    obtain ⟨a, ha, rfl⟩ := List.mem_map.mp hc
    have := h a ha
    unfold PyProof.Rows.up1
    split <;> omega
  · show (z.cps.map PyProof.Rows.up1).size = z.cps.size
    rw [Array.size_map]
theorem asc_of {z : Str} {cs : List Nat} (h : z.cps.toList = cs) (hl : ∀ c ∈ cs, c < 128) : Asc z := fun c hc => hl c (by rw [← h]; exact hc)
theorem lower_lt {c : Nat} (h : lower c = true) : c < 128 := by
  unfold lower at h
  simp only [Bool.and_eq_true, decide_eq_true_eq] at h
  omega
theorem figure_lt {c : Nat} (h : figure c = true) : c < 128 := by
  unfold figure at h
  simp only [Bool.and_eq_true, decide_eq_true_eq] at h
  omega
theorem filter_none {l : List Nat} {f : Nat → Bool} : (l.filter (fun c => !f c)).isEmpty = l.all f := by
  induction l with
  | nil => rfl
  | cons c r ih =>
    rw [List.filter_cons, List.all_cons]
    cases h : f c with
    | true => simpa using ih
    | false => rfl
theorem str_sign {c d : Nat} {z : Str} (h : z.cps = #[d]) : decide (V.str ⟨#[c]⟩ = V.str z) = decide (c = d) := by
  obtain ⟨z⟩ := z
  rw [decide_eq_decide]
  constructor
  · intro e
    injection e with e
    injection e with e
    rw [show z = #[d] from h] at e
    injection e with e
    injection e
  · rintro rfl
    rw [show z = #[c] from h]
/-! ### a text joined of signs -/
open TL
theorem join_signs : ∀ cs : List Nat, joinL [] ((cs.map fun c => (⟨#[c]⟩ : Str)).map tl) = cs
  | [] => rfl
  | [c] => rfl
  | c :: d :: r => by
    show [c] ++ ([] ++ joinL [] (((d :: r).map fun c => (⟨#[c]⟩ : Str)).map tl)) = c :: d :: r
    rw [join_signs (d :: r)]
    rfl
theorem join_text {y : Str} (hy : tl y = []) (cs : List Nat) : (Txt.join y (cs.map fun c => (⟨#[c]⟩ : Str))).cps.toList = cs := by
  show tl (Txt.join y _) = cs
  rw [join_eq, tl_join, hy, join_signs]
theorem size_signs : ∀ cs : List Nat, ((cs.map fun c => (⟨#[c]⟩ : Str)).map (·.length)).sum = cs.length
  | [] => rfl
  | c :: r => by
    rw [List.map_cons, List.map_cons, List.sum_cons, size_signs r, List.length_cons]
    show 1 + r.length = _
    omega

/-- [.. for _ in range(k)], each a drawn sign -/
theorem lc_draw {P : Int → Prop} {d D : Addr} {n k : Nat} {H1 : Hp} (hD : H1 D = none) (dr : Dr P d n H1) (hk : k ≤ 1000) (p : Nat → Bool) {g : TG} {tt : TT} {te : TE} {vs : List Nat} {σ : L2.St} {Qd : Hp → Prop}
    (turn : ∀ (i : Nat) (H2 : Hp) (R : V → Hp → Prop) (C : Hp → Prop), i < k → Dr P d (n + i) H2 → (∀ H3 c, p c = true → But d H2 H3 → Dr P d (n + i + 1) H3 → R (sg c) H3) → g (.int (0 + i)) (wipe σ vs) H2 fun σ2 H2 => wipe σ2 vs = wipe σ vs ∧ tt σ2 H2 fun b H3 => if b = true then te σ2 H3 R else C H3)
    (fin : ∀ H' (cs : List Nat), cs.length = k → (∀ c ∈ cs, p c = true) → But d H1 H' → Dr P d (n + k) H' → H' D = some (.lst (cs.map sg)) → Qd H') :
    ∃ W : Nat → Nat → Hp → Prop, (∃ m, W 0 m (upd H1 D (.lst []))) ∧ ∀ i m H, W i m H →
      ((Itr 0 k).stop i H ∧ Qd H) ∨ ((Itr 0 k).go i H ∧ ∃ Nx : Hp → Prop, (∀ H', Nx H' → ∃ m', m' < m ∧ W (i + 1) m' H') ∧ ∀ x H', (Itr 0 k).yld i H x H' → g x (wipe σ vs) H' fun σ2 H2 => wipe σ2 vs = wipe σ vs ∧ tt σ2 H2 fun b H3 =>
        if b = true then te σ2 H3 fun y H4 => ∃ acc, H4 D = some (.lst acc) ∧ acc.length < sizeLine ∧ Nx (upd H4 D (.lst (acc ++ [y]))) else Nx H3) := by
  have nD : D ≠ d := dr.ne hD
  refine lc_range (lo := 0) (n := k) (fun i H' => ∃ cs : List Nat, cs.length = i ∧ (∀ c ∈ cs, p c = true) ∧ But d H1 H' ∧ Dr P d (n + i) H' ∧ H' D = some (.lst (cs.map sg))) ⟨[], rfl, (fun _ h => nomatch h), But.new hD, dr.upd nD, upd_same⟩ ?_ ?_
  · rintro i H2 hi ⟨cs, hl, hp, b2, dr2, e2⟩
    refine turn i H2 _ _ hi dr2 fun H3 c hc b3 dr3 => ?_
    refine ⟨_, b3 _ _ nD e2, ?_, cs ++ [c], ?_, ?_, ?_, ?_, ?_⟩
    · rw [List.length_map, hl]
      exact Nat.lt_of_lt_of_le (show i < 1000 by omega) (by decide)
    · rw [List.length_append, hl]
      rfl
    · intro x hx
      rcases List.mem_append.mp hx with h | h
      · exact hp x h
      · rw [List.mem_singleton.mp h]
        exact hc
    · exact (b2.trans b3).mut hD
    · exact (dr3.upd nD).mono (by omega)
    · rw [upd_same, List.map_append]
      rfl
  · rintro H' ⟨cs, hl, hp, b, dr', e⟩
    exact fin H' cs hl hp b dr' e
theorem map_sg (cs : List Nat) : (cs.map fun c => (⟨#[c]⟩ : Str)).map V.str = cs.map sg := by
  rw [List.map_map]
  rfl
theorem join_len {y : Str} (hy : TL.tl y = []) (cs : List Nat) : (Txt.join y (cs.map fun c => (⟨#[c]⟩ : Str))).length = cs.length := by
  have := join_text hy cs
  show (Txt.join y (cs.map fun c => (⟨#[c]⟩ : Str))).cps.size = _
  rw [← Array.length_toList, this]
theorem az_at {r : Int} (h0 : 0 ≤ r) (h1 : r < 26) : ∃ c, atI ("abcdefghijklmnopqrstuvwxyz" : Str).cps.toList r = some c ∧ lower c = true := by
  obtain ⟨j, rfl⟩ : ∃ j : Nat, r = (j : Int) := ⟨r.toNat, by omega⟩
  have e : ("abcdefghijklmnopqrstuvwxyz" : Str).cps.toList = (List.range 26).map (· + 97) := by decide +kernel
  refine ⟨j + 97, atI_nat ?_, ?_⟩
  · rw [e, List.getElem?_map, List.getElem?_range (by omega)]
    rfl
  · unfold lower
    rw [decide_eq_true (by omega), decide_eq_true (by omega)]
    rfl
theorem fig_at {r : Int} (h0 : 0 ≤ r) (h1 : r < 10) : ∃ c, atI ("0123456789" : Str).cps.toList r = some c ∧ figure c = true := by
  obtain ⟨j, rfl⟩ : ∃ j : Nat, r = (j : Int) := ⟨r.toNat, by omega⟩
  have e : ("0123456789" : Str).cps.toList = (List.range 10).map (· + 48) := by decide +kernel
  refine ⟨j + 48, atI_nat ?_, ?_⟩
  · rw [e, List.getElem?_map, List.getElem?_range (by omega)]
    rfl
  · unfold figure
    rw [decide_eq_true (by omega), decide_eq_true (by omega)]
    rfl
theorem log_small {m : Int} (h0 : 0 < m) (h : m < 2 ^ 200) : m.natAbs.log2 < 9000 := by
  refine Nat.lt_of_lt_of_le (PySem.Flt.log2_lt_of (k := 200) (by decide) ?_) (by decide)
  have e : ((2 : Int) ^ 200) = ((2 ^ 200 : Nat) : Int) := by decide
  rw [e] at h
  omega
theorem log_tiny {m : Int} (h0 : 0 < m) (h : m < 1000000000000000000000000000000) : m.natAbs.log2 < 9000 := log_small h0 (Int.lt_trans h (by decide))
theorem at_str {z : Str} {r : Int} (h0 : 0 ≤ r) (h1 : r < (z.length : Int)) : ∃ c, atI z.cps.toList r = some c ∧ c ∈ z.cps.toList := by
  obtain ⟨j, rfl⟩ : ∃ j : Nat, r = (j : Int) := ⟨r.toNat, by omega⟩
  have hj : j < z.cps.toList.length := by
    have : z.cps.toList.length = z.length := Array.length_toList
    omega
  exact ⟨_, atI_nat (List.getElem?_eq_getElem hj), List.getElem_mem hj⟩
theorem sz (n : Nat) (h : n ≤ 100000) : n ≤ sizeLine := Nat.le_trans h (by decide)
theorem tyx_same {K : PySem.W.Frag} {H H' : Hp} (s : Same H H') {v : V} {t : Value} (h : TyX K H v t) : TyX K H' v t := by
  cases h with
  | base h =>
    cases h with
    | non => exact .base .non
    | bl b => exact .base (.bl b)
    | int i => exact .base (.int i)
    | str z => exact .base (.str z)
    | flt x => exact .base (.flt x)
    | lst e => exact .base (.lst (s _ _ e))
    | frz e => exact .base (.frz (s _ _ e))
    | tup e => exact .base (.tup (s _ _ e))
    | dK e => exact .base (.dK (s _ _ e))
    | dT e => exact .base (.dT (s _ _ e))
    | ins e cl ha hn htk hm => exact .base (.ins (s _ _ e) cl ha hn htk hm)
  | byt b => exact .byt b
  | set e => exact .set (s _ _ e)
  | kList e c => exact .kList e c
  | kTuple e c => exact .kTuple e c
  | kDict e c => exact .kDict e c
  | fTuple e => exact .fTuple (s _ _ e)
  | fDict e => exact .fDict (s _ _ e)
theorem Th.same {K : PySem.W.Frag} {H H' : Hp} (s : Same H H') {v : V} (h : Th K H v) : Th K H' v := by
  cases h with
  | int i => exact .int i
  | bl b => exact .bl b
  | str z => exact .str z
  | non => exact .non
  | lst h => exact .lst (tyx_same s h)
  | tup h => exact .tup (tyx_same s h)
  | dct h => exact .dct (tyx_same s h)
theorem cells_int {ns : List Int} {n : Int} {lo hi : Option Int} {i : Nat} {x : V} (h : ([V.int n] ++ cutV (ns.map V.int) lo hi)[i]? = some x) : ∃ k, x = .int k := by
  have hm := List.mem_of_getElem? h
  rcases List.mem_append.mp hm with h | h
  · exact ⟨n, List.mem_singleton.mp h⟩
  · have := List.mem_of_mem_drop (List.mem_of_mem_take h)
    obtain ⟨k, _, rfl⟩ := List.mem_map.mp this
    exact ⟨k, rfl⟩
section
variable {P : Program} {w : World} {K : PySem.W.Frag} {mg : Str → Option Value} {base : Heap} {x qual : Str} {params : Arguments} {body : List Stmt} {scope : Scope} {dvs : List V} {kws : List (Str × V)} {f : Addr} {fd : FuncData}
theorem okD {N ps : List Str} {k : Nat} {sp : Sp} (F : FunD K x qual params body scope dvs kws f fd) (S : FnScope N ps scope) (len : ∀ vs H Q E, sp vs H Q E → vs.length = ps.length)
    (hbody : ∀ (cdv : Value) (A : Around) (outer : List Env) (s : Shared) (H : Hp) (vs : List V) (Q : VK) (E : XK), Room k (A.deeper (envOfC qual scope s.heap.objs.size f cdv)) → sp vs H Q E →
      ∃ t, PSs (cxOf CX0 P w K mg base N qual scope f cdv A outer s H E).nox body t ∧ t { nx := fun _ H' => Q .non H', rt := Q } (start N vs) H) : FnOk P w K mg base CX0 (k + 1) f fd ps sp :=
  F.ok S len fun cdv A outer s H vs Q E hr h => by
    obtain ⟨t, h, q⟩ := hbody cdv A outer s H vs Q E hr h
    exact ⟨t, h.nox, q⟩
end
end KA
namespace KA
open PySem PySem.Spec PyProof.Rows L2
/-- what is no list is as it was -/
def NL (H H' : Hp) : Prop := ∀ b o, (∀ xs, o ≠ .lst xs) → H b = some o → H' b = some o
theorem NL.of {H H' : Hp} (s : Same H H') : NL H H' := fun b o _ h => s b o h
theorem NL.at_ {H : Hp} {D : Addr} {xs : List V} {o : HO} (h : H D = some (.lst xs)) : NL H (upd H D o) := fun b u n e => by
  have : b ≠ D := fun z => by
    rw [z, h] at e
    exact n xs (Option.some.inj e).symm
  rw [upd_ne this]
  exact e
theorem NL.trans {H H1 H2 : Hp} (a : NL H H1) (b : NL H1 H2) : NL H H2 := fun c o n h => b c o n (a c o n h)
/-- a comprehension over a list: what it makes is told by G -/
theorem lc_gen {K : PySem.W.Frag} {a : Addr} {xs : List V} {H : Hp} {D : Addr} (hD : H D = none) (hS : SqL K H a xs) (hl : xs.length ≤ 10000) (G : Nat → V → Hp → Prop) (hG : ∀ j v H1 H2, NL H1 H2 → G j v H1 → G j v H2)
    {g : TG} {tt : TT} {te : TE} {vs : List Nat} {σ : L2.St} {Qd : Hp → Prop}
    (turn : ∀ (i : Nat) (x : V) (H2 : Hp) (R : V → Hp → Prop) (C : Hp → Prop), xs[i]? = some x → Same H H2 → (∀ v H3, Same H2 H3 → G i v H3 → R v H3) → g x (wipe σ vs) H2 fun σ2 H2 => wipe σ2 vs = wipe σ vs ∧ tt σ2 H2 fun b H3 => if b = true then te σ2 H3 R else C H3)
    (fin : ∀ H' acc, Same H H' → H' D = some (.lst acc) → acc.length = xs.length → (∀ j v, acc[j]? = some v → G j v H') → Qd H') :
    ∃ W : Nat → Nat → Hp → Prop, (∃ m, W 0 m (upd H D (.lst []))) ∧ ∀ i m H, W i m H →
      ((Itl K a).stop i H ∧ Qd H) ∨ ((Itl K a).go i H ∧ ∃ Nx : Hp → Prop, (∀ H', Nx H' → ∃ m', m' < m ∧ W (i + 1) m' H') ∧ ∀ x H', (Itl K a).yld i H x H' → g x (wipe σ vs) H' fun σ2 H2 => wipe σ2 vs = wipe σ vs ∧ tt σ2 H2 fun b H3 =>
        if b = true then te σ2 H3 fun y H4 => ∃ acc, H4 D = some (.lst acc) ∧ acc.length < sizeLine ∧ Nx (upd H4 D (.lst (acc ++ [y]))) else Nx H3) := by
  refine lc_list (K := K) (a := a) (xs := xs) (fun i H' => Same H H' ∧ ∃ acc, H' D = some (.lst acc) ∧ acc.length = i ∧ ∀ j v, acc[j]? = some v → G j v H') ⟨same_upd hD, [], upd_same, rfl, fun j v h => by simp at h⟩ (fun i H' _ h => h.1.seq hS) ?_ ?_
  · rintro i x H2 hi ⟨s2, acc, e2, l2, g2⟩
    have hil : i < xs.length := (List.getElem?_eq_some_iff.mp hi).1
    refine turn i x H2 _ _ hi s2 fun v H3 s3 hv => ?_
    have e3 := s3 _ _ e2
    refine ⟨acc, e3, ?_, fun b o h => ?_, acc ++ [v], upd_same, ?_, fun j w hj => ?_⟩
    · rw [l2]
      exact Nat.lt_of_lt_of_le (show i < 10000 by omega) (by decide)
    · rw [upd_ne (ne_of_none h hD)]
      exact s3 _ _ (s2 _ _ h)
    · rw [List.length_append, l2]
      rfl
    · refine hG j w H3 _ (NL.at_ e3) ?_
      by_cases h : j < acc.length
      · rw [List.getElem?_append_left h] at hj
        exact hG j w H2 H3 (NL.of s3) (g2 j w hj)
      · rw [List.getElem?_append_right (by omega)] at hj
        have : j = i := by
          have := (List.getElem?_eq_some_iff.mp hj).1
          rw [List.length_singleton] at this
          omega
        subst this
        rw [l2, Nat.sub_self] at hj
        have : v = w := Option.some.inj hj
        subst this
        exact hv
  · rintro H' ⟨s, acc, e, l, g⟩
    exact fin H' acc s e l g
/-- .. whose values are f of the place -/
theorem lc_vals {K : PySem.W.Frag} {a : Addr} {xs : List V} {H : Hp} {D : Addr} (hD : H D = none) (hS : SqL K H a xs) (hl : xs.length ≤ 10000) (f : Nat → V)
    {g : TG} {tt : TT} {te : TE} {vs : List Nat} {σ : L2.St} {Qd : Hp → Prop}
    (turn : ∀ (i : Nat) (x : V) (H2 : Hp) (R : V → Hp → Prop) (C : Hp → Prop), xs[i]? = some x → Same H H2 → R (f i) H2 → g x (wipe σ vs) H2 fun σ2 H2 => wipe σ2 vs = wipe σ vs ∧ tt σ2 H2 fun b H3 => if b = true then te σ2 H3 R else C H3)
    (fin : ∀ H', Same H H' → H' D = some (.lst ((List.range xs.length).map f)) → Qd H') :
    ∃ W : Nat → Nat → Hp → Prop, (∃ m, W 0 m (upd H D (.lst []))) ∧ ∀ i m H, W i m H →
      ((Itl K a).stop i H ∧ Qd H) ∨ ((Itl K a).go i H ∧ ∃ Nx : Hp → Prop, (∀ H', Nx H' → ∃ m', m' < m ∧ W (i + 1) m' H') ∧ ∀ x H', (Itl K a).yld i H x H' → g x (wipe σ vs) H' fun σ2 H2 => wipe σ2 vs = wipe σ vs ∧ tt σ2 H2 fun b H3 =>
        if b = true then te σ2 H3 fun y H4 => ∃ acc, H4 D = some (.lst acc) ∧ acc.length < sizeLine ∧ Nx (upd H4 D (.lst (acc ++ [y]))) else Nx H3) := by
  refine lc_gen hD hS hl (fun j v _ => v = f j) (fun _ _ _ _ _ h => h) (fun i x H2 R C hi s hR => turn i x H2 R C hi s (hR _ _ (Same.refl _) rfl)) fun H' acc s e l g => fin H' s ?_
  rw [e]
  congr 2
  refine List.ext_getElem? fun j => ?_
  by_cases h : j < xs.length
  · rw [List.getElem?_map, List.getElem?_range h]
    have : j < acc.length := by omega
    rw [List.getElem?_eq_getElem this]
    exact congrArg some (g j _ (List.getElem?_eq_getElem this))
  · rw [List.getElem?_eq_none (by omega), List.getElem?_eq_none (by rw [List.length_map, List.length_range]; omega)]
/-- a comprehension over a list that leaves some out; the heap stays -/
theorem lc_some {K : PySem.W.Frag} {a : Addr} {xs : List V} {H : Hp} {D : Addr} (hD : H D = none) (hS : SqL K H a xs) (hl : xs.length ≤ 10000) (p : V → Bool) (f : V → V)
    {g : TG} {tt : TT} {te : TE} {vs : List Nat} {σ : L2.St} {Qd : Hp → Prop}
    (turn : ∀ (i : Nat) (x : V) (H2 : Hp) (R : V → Hp → Prop) (C : Hp → Prop), xs[i]? = some x → Same H H2 → (p x = true → R (f x) H2) → (p x = false → C H2) → g x (wipe σ vs) H2 fun σ2 H2 => wipe σ2 vs = wipe σ vs ∧ tt σ2 H2 fun b H3 => if b = true then te σ2 H3 R else C H3)
    (fin : ∀ H', Same H H' → H' D = some (.lst ((xs.filter p).map f)) → Qd H') :
    ∃ W : Nat → Nat → Hp → Prop, (∃ m, W 0 m (upd H D (.lst []))) ∧ ∀ i m H, W i m H →
      ((Itl K a).stop i H ∧ Qd H) ∨ ((Itl K a).go i H ∧ ∃ Nx : Hp → Prop, (∀ H', Nx H' → ∃ m', m' < m ∧ W (i + 1) m' H') ∧ ∀ x H', (Itl K a).yld i H x H' → g x (wipe σ vs) H' fun σ2 H2 => wipe σ2 vs = wipe σ vs ∧ tt σ2 H2 fun b H3 =>
        if b = true then te σ2 H3 fun y H4 => ∃ acc, H4 D = some (.lst acc) ∧ acc.length < sizeLine ∧ Nx (upd H4 D (.lst (acc ++ [y]))) else Nx H3) := by
  refine lc_list (K := K) (a := a) (xs := xs) (fun i H' => Same H H' ∧ H' D = some (.lst (((xs.take i).filter p).map f))) ⟨same_upd hD, upd_same⟩ (fun i H' _ h => h.1.seq hS) ?_ ?_
  · rintro i x H2 hi ⟨s2, e2⟩
    have hil : i < xs.length := (List.getElem?_eq_some_iff.mp hi).1
    refine turn i x H2 _ _ hi s2 (fun hp => ?_) (fun hp => ?_)
    · refine ⟨_, e2, ?_, fun b o h => ?_, ?_⟩
      · rw [List.length_map]
        refine Nat.lt_of_le_of_lt (List.length_filter_le _ _) ?_
        rw [List.length_take]
        exact Nat.lt_of_le_of_lt (Nat.min_le_left _ _) (Nat.lt_of_lt_of_le (show i < 10000 by omega) (by decide))
      · rw [upd_ne (ne_of_none h hD)]
        exact s2 _ _ h
      · rw [upd_same, List.take_add_one, hi, List.filter_append, List.map_append]
        show _ = some (HO.lst (_ ++ List.map f (List.filter p [x])))
        rw [List.filter_cons_of_pos hp]
        rfl
    · refine ⟨s2, ?_⟩
      rw [e2, List.take_add_one, hi, List.filter_append, List.map_append]
      show _ = some (HO.lst (_ ++ List.map f (List.filter p [x])))
      rw [List.filter_cons_of_neg (by rw [hp]; exact Bool.false_ne_true)]
      show _ = some (HO.lst (_ ++ []))
      rw [List.append_nil]
  · rintro H' ⟨s, e⟩
    rw [List.take_of_length_le (Nat.le_refl _)] at e
    exact fin H' s e
theorem cut_to (xs : List V) (i : Nat) : cutV xs none (some (i : Int)) = xs.take i := by
  unfold cutV
  rw [HT.sIx_none, show HT.sIx xs.length xs.length (some (i : Int)) = min i xs.length from HT.sIx_nat xs.length xs.length i, Nat.sub_zero, List.drop_zero]
  by_cases h : i ≤ xs.length
  · rw [Nat.min_eq_left h]
  · rw [Nat.min_eq_right (by omega), List.take_of_length_le (Nat.le_refl _), List.take_of_length_le (by omega)]
theorem cut_from (xs : List V) (i : Nat) : cutV xs (some (i : Int)) none = xs.drop i := by
  unfold cutV
  rw [HT.sIx_none, show HT.sIx xs.length 0 (some (i : Int)) = min i xs.length from HT.sIx_nat xs.length 0 i]
  by_cases h : i ≤ xs.length
  · rw [Nat.min_eq_left h, List.take_of_length_le (by rw [List.length_drop]; omega)]
  · rw [Nat.min_eq_right (by omega), List.drop_of_length_le (Nat.le_refl _), List.drop_of_length_le (by omega)]
    exact List.take_nil
section
variable {X : Cx} {K' : PySem.W.Frag}
/-! the rules with the written part by its own name (for blocks) -/
theorem pe_fldK (hK : X.K = K') {e : Expr} {f : Str} {pos : Pos} {ta : TE} (ha : PE X e ta) (hb : attributeBase e f X.env (eval e X.env) = eval e X.env) : PE X (.Attribute e f pos) (tFld K' ta f) := by
  subst hK
  exact pe_fld ha hb
theorem ix_listK (hK : X.K = K') : IxR X (rIxL K') := by
  subst hK
  exact ix_list
theorem ix_tupK (hK : X.K = K') : IxR X (rIxT K') := by
  subst hK
  exact ix_tup
theorem sl_listK (hK : X.K = K') : SlR X (rSlL K') := by
  subst hK
  exact sl_list
theorem sl_tupAK (hK : X.K = K') : SlR X (rSlA K') := by
  subst hK
  exact sl_tupA
theorem op_eqDK (hK : X.K = K') (hu : X.A.units + 64 < cLine) : OpR X (compareOp .Eq) (rEqD K') := by
  subst hK
  exact op_eqD hu
theorem op_neDK (hK : X.K = K') (hu : X.A.units + 64 < cLine) : OpR X (compareOp .NotEq) (rNeD K') := by
  subst hK
  exact op_neD hu
theorem op_in_seqK (hK : X.K = K') : OpR X (compareOp .In) (rIn K' false) := by
  subst hK
  exact op_in_seq
end
section
variable {X : Cx}
/-- a statement and what follows it, with a word between -/
def tCutJ (t u : TS) : TS := fun D σ H => ∃ Mid : L2.St → Hp → Prop, t { D with nx := Mid } σ H ∧ ∀ σ' H', Mid σ' H' → u D σ' H'
theorem pss_cutJ {st : Stmt} {rest : List Stmt} {t u : TS} (h1 : PS X st t) (h2 : PSs X rest u) : PSs X (st :: rest) (tCutJ t u) := by
  refine ⟨fun pins s σ H D I h => ?_⟩
  obtain ⟨Mid, hm, hu⟩ := h
  refine wpAny_execs_cons (thn (h1.run pins s σ H { D with nx := Mid } I hm) fun f s1 q => ?_)
  cases f with
  | next =>
    obtain ⟨σ', H', I', q⟩ := q
    exact h2.run pins s1 σ' H' D I' (hu σ' H' q)
  | ret v => exact q
  | brk => exact q
  | cont => exact q
end
theorem nl_tup {K : PySem.W.Frag} {H H' : Hp} {a : Addr} {xs : List V} (s : NL H H') (h : SqT K H a xs) : SqT K H' a xs := by
  rcases h with (h | ⟨o, h⟩) | h
  · exact .inl (.inl (s _ _ (fun _ z => by cases z) h))
  · exact .inl (.inr ⟨o, s _ _ (fun _ z => by cases z) h⟩)
  · exact .inr h
theorem mem_cut {xs : List V} {lo hi : Option Int} {v : V} (h : v ∈ cutV xs lo hi) : v ∈ xs := List.mem_of_mem_drop (List.mem_of_mem_take h)
theorem len_cut (xs : List V) (lo hi : Option Int) : (cutV xs lo hi).length ≤ xs.length := by
  unfold cutV
  rw [List.length_take, List.length_drop]
  omega
/-- a comprehension over a list that leaves places out; the heap stays -/
theorem lc_someI {K : PySem.W.Frag} {a : Addr} {xs : List V} {H : Hp} {D : Addr} (hD : H D = none) (hS : SqL K H a xs) (hl : xs.length ≤ 10000) (p : Nat → Bool) (f : Nat → V)
    {g : TG} {tt : TT} {te : TE} {vs : List Nat} {σ : L2.St} {Qd : Hp → Prop}
    (turn : ∀ (i : Nat) (x : V) (H2 : Hp) (R : V → Hp → Prop) (C : Hp → Prop), xs[i]? = some x → Same H H2 → (p i = true → R (f i) H2) → (p i = false → C H2) → g x (wipe σ vs) H2 fun σ2 H2 => wipe σ2 vs = wipe σ vs ∧ tt σ2 H2 fun b H3 => if b = true then te σ2 H3 R else C H3)
    (fin : ∀ H', Same H H' → H' D = some (.lst (((List.range xs.length).filter p).map f)) → Qd H') :
    ∃ W : Nat → Nat → Hp → Prop, (∃ m, W 0 m (upd H D (.lst []))) ∧ ∀ i m H, W i m H →
      ((Itl K a).stop i H ∧ Qd H) ∨ ((Itl K a).go i H ∧ ∃ Nx : Hp → Prop, (∀ H', Nx H' → ∃ m', m' < m ∧ W (i + 1) m' H') ∧ ∀ x H', (Itl K a).yld i H x H' → g x (wipe σ vs) H' fun σ2 H2 => wipe σ2 vs = wipe σ vs ∧ tt σ2 H2 fun b H3 =>
        if b = true then te σ2 H3 fun y H4 => ∃ acc, H4 D = some (.lst acc) ∧ acc.length < sizeLine ∧ Nx (upd H4 D (.lst (acc ++ [y]))) else Nx H3) := by
  refine lc_list (K := K) (a := a) (xs := xs) (fun i H' => Same H H' ∧ H' D = some (.lst (((List.range i).filter p).map f))) ⟨same_upd hD, upd_same⟩ (fun i H' _ h => h.1.seq hS) ?_ ?_
  · rintro i x H2 hi ⟨s2, e2⟩
    have hil : i < xs.length := (List.getElem?_eq_some_iff.mp hi).1
    refine turn i x H2 _ _ hi s2 (fun hp => ?_) (fun hp => ?_)
    · refine ⟨_, e2, ?_, fun b o h => ?_, ?_⟩
      · rw [List.length_map]
        refine Nat.lt_of_le_of_lt (List.length_filter_le _ _) ?_
        rw [List.length_range]
        exact Nat.lt_of_lt_of_le (show i < 10000 by omega) (by decide)
      · rw [upd_ne (ne_of_none h hD)]
        exact s2 _ _ h
      · rw [upd_same, List.range_succ, List.filter_append, List.map_append, List.filter_cons_of_pos hp]
        rfl
    · refine ⟨s2, ?_⟩
      rw [e2, List.range_succ, List.filter_append, List.map_append, List.filter_cons_of_neg (by rw [hp]; exact Bool.false_ne_true)]
      show _ = some (HO.lst (_ ++ []))
      rw [List.append_nil]
  · rintro H' ⟨s, e⟩
    exact fin H' s e
section
variable {X : Cx} {CX : CXT} {k : Nat} {f : Addr} {fd : FuncData} {ps ks : List Str} {sp : Sp} {E : XK} {x : Str} {p pos : Pos} {kws : List Keyword} {tk : TA} {g : List Value → List Value → List Value} {gV : List V → List V → List V}
/-- f(k = v, ..) -/
theorem pe_callN0 (F : FnOk X.prog X.w X.K X.mg X.base CX k f fd ps sp) (hr : Room k X.A) (hg : Gl X x) (hm : X.mg x = some (.ref f)) (hk : PySem.W.keepIn X.K (.ref f) = true) (hb : KBn X.K fd ps 0 ks g gV) (hx : Passes CX X E) (hkw : PK X kws tk)
    (hall : (backToKw pos (keywordEach kws X.env)).all (·.1.isSome) = true := by rfl) (hks : (backToKw pos (keywordEach kws X.env)).filterMap (·.1) = ks := by rfl) (hdb : (x == ("__debug__" : Str)) = false := by decide)
    (hpl : ((backTo pos (starEach [] X.env)).any (·.1) || (backToKw pos (keywordEach kws X.env)).any (·.1.isNone)) = false := by rfl) :
    PE X (.Call (.Name x p) [] kws pos) (tCallN 0 ks.length sp gV E tNil tk) := by
  refine ⟨fun pins s σ H Q I h => ?_⟩
  refine wpAny_Call_Name_kw (ld_glob I hg hm ?_ hdb)
  refine PySem.W.callWith_KW0 (h₀ := X.base) I.ok.mod.kin hk hall ?_ hpl
  refine thn (hkw.run pos pins s σ H _ I h) fun ws s2 ⟨zs, H2, I2, rz, l1, l2, q2⟩ => ⟨I2.kIn, ?_⟩
  rw [hks]
  exact run_fnN (us := []) (vs := []) F hr hb hx I2 .nil rz rfl l2 q2
end
/-- keywords of a def without defaults -/
theorem kbn_of {K : PySem.W.Frag} {x qual : Str} {st : Stmt} {f : Addr} {fd : FuncData} {ps : List Str} (F : Fun K x qual st f fd) (n : Nat) (ks : List Str) (g : List Value → List Value → List Value) (gV : List V → List V → List V)
    (hrel : ∀ {vs : List V} {us : List Value} {zs : List V} {ws : List Value}, Vals vs us → Vals zs ws → Vals (gV vs zs) (g us ws))
    (h : ∀ (kV doc pm : Value) (an : Option Addr) (cdv ct : Value) (us ws : List Value), us.length = n → ws.length = ks.length → bindArgs (PySem.W.fnOf x qual (defArgs st) (defBody st) (defScope st) .none kV doc pm an cdv ct) ⟨us, ks.zip ws⟩ = pure (ps.zip (g us ws))) : KBn K fd ps n ks g gV := by
  obtain ⟨oc, od, kV, doc, pm, an, cdv, ct, osl, rfl, lk, hcd⟩ := F.ex
  exact ⟨fun s us ws _ l1 l2 => .of_eq (h kV doc pm an cdv ct us ws l1 l2), hrel⟩
def gsw {α : Type} (l : List α) : List α := match l with
  | [a, b] => [b, a]
  | l => l
theorem gsw_rel {zs : List V} {ws : List Value} (h : Vals zs ws) : Vals (gsw zs) (gsw ws) := by
  cases h with
  | nil => exact .nil
  | cons r1 h =>
    cases h with
    | nil => exact .cons r1 .nil
    | cons r2 h =>
      cases h with
      | nil => exact .cons r2 (.cons r1 .nil)
      | cons r3 h => exact .cons r1 (.cons r2 (.cons r3 h))
/-- a comprehension over range(n): what it makes is told by G -/
theorem lc_genR {n : Nat} {H : Hp} {D : Addr} (hD : H D = none) (hl : n ≤ 10000) (G : Nat → V → Hp → Prop) (hG : ∀ j v H1 H2, NL H1 H2 → G j v H1 → G j v H2)
    {g : TG} {tt : TT} {te : TE} {vs : List Nat} {σ : L2.St} {Qd : Hp → Prop}
    (turn : ∀ (i : Nat) (H2 : Hp) (R : V → Hp → Prop) (C : Hp → Prop), i < n → Same H H2 → (∀ v H3, Same H2 H3 → G i v H3 → R v H3) → g (.int (0 + i)) (wipe σ vs) H2 fun σ2 H2 => wipe σ2 vs = wipe σ vs ∧ tt σ2 H2 fun b H3 => if b = true then te σ2 H3 R else C H3)
    (fin : ∀ H' acc, Same H H' → H' D = some (.lst acc) → acc.length = n → (∀ j v, acc[j]? = some v → G j v H') → Qd H') :
    ∃ W : Nat → Nat → Hp → Prop, (∃ m, W 0 m (upd H D (.lst []))) ∧ ∀ i m H, W i m H →
      ((Itr 0 n).stop i H ∧ Qd H) ∨ ((Itr 0 n).go i H ∧ ∃ Nx : Hp → Prop, (∀ H', Nx H' → ∃ m', m' < m ∧ W (i + 1) m' H') ∧ ∀ x H', (Itr 0 n).yld i H x H' → g x (wipe σ vs) H' fun σ2 H2 => wipe σ2 vs = wipe σ vs ∧ tt σ2 H2 fun b H3 =>
        if b = true then te σ2 H3 fun y H4 => ∃ acc, H4 D = some (.lst acc) ∧ acc.length < sizeLine ∧ Nx (upd H4 D (.lst (acc ++ [y]))) else Nx H3) := by
  refine lc_range (lo := 0) (n := n) (fun i H' => Same H H' ∧ ∃ acc, H' D = some (.lst acc) ∧ acc.length = i ∧ ∀ j v, acc[j]? = some v → G j v H') ⟨same_upd hD, [], upd_same, rfl, fun j v h => by simp at h⟩ ?_ ?_
  · rintro i H2 hi ⟨s2, acc, e2, l2, g2⟩
    refine turn i H2 _ _ hi s2 fun v H3 s3 hv => ?_
    have e3 := s3 _ _ e2
    refine ⟨acc, e3, ?_, fun b o h => ?_, acc ++ [v], upd_same, ?_, fun j w hj => ?_⟩
    · rw [l2]
      exact Nat.lt_of_lt_of_le (show i < 10000 by omega) (by decide)
    · rw [upd_ne (ne_of_none h hD)]
      exact s3 _ _ (s2 _ _ h)
    · rw [List.length_append, l2]
      rfl
    · refine hG j w H3 _ (NL.at_ e3) ?_
      by_cases h : j < acc.length
      · rw [List.getElem?_append_left h] at hj
        exact hG j w H2 H3 (NL.of s3) (g2 j w hj)
      · rw [List.getElem?_append_right (by omega)] at hj
        have : j = i := by
          have := (List.getElem?_eq_some_iff.mp hj).1
          rw [List.length_singleton] at this
          omega
        subst this
        rw [l2, Nat.sub_self] at hj
        have : v = w := Option.some.inj hj
        subst this
        exact hv
  · rintro H' ⟨s, acc, e, l, g⟩
    exact fin H' acc s e l g
/-- [k for k in range(n) if a draw ..] -/
theorem lc_drawK {P : Int → Prop} {d D : Addr} {m n : Nat} {H1 : Hp} (hD : H1 D = none) (dr : Dr P d m H1) (hn : n ≤ 1000) {g : TG} {tt : TT} {te : TE} {vs : List Nat} {σ : L2.St} {Qd : Hp → Prop}
    (turn : ∀ (i : Nat) (H2 : Hp) (R : V → Hp → Prop) (C : Hp → Prop), i < n → Dr P d (m + i) H2 → (∀ H3, But d H2 H3 → Dr P d (m + i + 1) H3 → R (.int (i : Int)) H3 ∧ C H3) → g (.int (0 + i)) (wipe σ vs) H2 fun σ2 H2 => wipe σ2 vs = wipe σ vs ∧ tt σ2 H2 fun b H3 => if b = true then te σ2 H3 R else C H3)
    (fin : ∀ H' (ks : List Nat), (∀ k ∈ ks, k < n) → ks.length ≤ n → But d H1 H' → Dr P d (m + n) H' → H' D = some (.lst (ks.map fun (k : Nat) => V.int (k : Int))) → Qd H') :
    ∃ W : Nat → Nat → Hp → Prop, (∃ m, W 0 m (upd H1 D (.lst []))) ∧ ∀ i m H, W i m H →
      ((Itr 0 n).stop i H ∧ Qd H) ∨ ((Itr 0 n).go i H ∧ ∃ Nx : Hp → Prop, (∀ H', Nx H' → ∃ m', m' < m ∧ W (i + 1) m' H') ∧ ∀ x H', (Itr 0 n).yld i H x H' → g x (wipe σ vs) H' fun σ2 H2 => wipe σ2 vs = wipe σ vs ∧ tt σ2 H2 fun b H3 =>
        if b = true then te σ2 H3 fun y H4 => ∃ acc, H4 D = some (.lst acc) ∧ acc.length < sizeLine ∧ Nx (upd H4 D (.lst (acc ++ [y]))) else Nx H3) := by
  have nD : D ≠ d := dr.ne hD
  refine lc_range (lo := 0) (n := n) (fun i H' => ∃ ks : List Nat, (∀ k ∈ ks, k < n) ∧ ks.length ≤ i ∧ But d H1 H' ∧ Dr P d (m + i) H' ∧ H' D = some (.lst (ks.map fun (k : Nat) => V.int (k : Int)))) ⟨[], (fun _ h => nomatch h), Nat.le_refl _, But.new hD, dr.upd nD, upd_same⟩ ?_ ?_
  · rintro i H2 hi ⟨ks, hk, hl, b2, dr2, e2⟩
    refine turn i H2 _ _ hi dr2 fun H3 b3 dr3 => ⟨?_, ks, hk, by omega, b2.trans b3, dr3, b3 _ _ nD e2⟩
    refine ⟨_, b3 _ _ nD e2, ?_, ks ++ [i], ?_, ?_, ?_, ?_, ?_⟩
    · rw [List.length_map]
      exact Nat.lt_of_lt_of_le (show ks.length < 1001 by omega) (by decide)
    · intro k h
      rcases List.mem_append.mp h with h | h
      · exact hk k h
      · rw [List.mem_singleton.mp h]
        exact hi
    · rw [List.length_append, List.length_singleton]
      omega
    · exact (b2.trans b3).mut hD
    · exact (dr3.upd nD).mono (by omega)
    · rw [upd_same, List.map_append]
      rfl
  · rintro H' ⟨ks, hk, hl, b, dr', e⟩
    exact fin H' ks hk hl b dr' e
theorem in_ints (k : Nat) (S : List Nat) : inV (.int (k : Int)) (S.map fun (j : Nat) => V.int (j : Int)) = decide (k ∈ S) := by
  unfold inV
  rw [List.any_map]
  induction S with
  | nil => rfl
  | cons j S ih =>
    rw [List.any_cons, ih]
    show (((j : Int) == (k : Int)) || decide (k ∈ S)) = _
    rw [Bool.eq_iff_iff, Bool.or_eq_true, beq_iff_eq, decide_eq_true_eq, decide_eq_true_eq, List.mem_cons]
    constructor
    · rintro (h | h)
      · exact .inl (by omega)
      · exact .inr h
    · rintro (h | h)
      · exact .inl (by omega)
      · exact .inr h
theorem flat_ints (S : List Nat) : (S.map fun (j : Nat) => V.int (j : Int)).all flatV = true := by
  rw [List.all_eq_true]
  intro v hv
  obtain ⟨j, _, rfl⟩ := List.mem_map.mp hv
  rfl
end KA
namespace KA
open PySem PySem.SeqAt
open AutoSeq1 (wpAny_loadPart')
open MeetsSeq MeetsSeq2 MeetsSeq3 SeqRoads2
section
variable {prog : Program} {w : World} {A : Around} {R : Result → Shared → Prop}
/-- two lists whose items are equal, turn by turn: != is False -/
theorem ne_turns (p q : Addr) (N : Nat) (J : Nat → Shared → Prop) (hJ : GQ.ListI prog w A (fun e s' => R (.error e) s') p q N J)
    (done : ∀ s, J N s → R (.ok (.ret (.bool false))) s) : ∀ (k i : Nat), N - i = k → i ≤ N → ∀ s, J i s →
      wpAny (model prog w) A.in1 (Builtin.«list.__eq__.loop» ⟨[.ref p, .ref q, rawInt i, rawInt 3], []⟩) (GQ.FinOf prog w A R) (fun e s' => R (.error e) s') s
  | 0, i, hk, hi, s, hs => by
    obtain ⟨xs, ys, m, m2, gp, gq, zp, zq, _⟩ := hJ _ _ hs
    have iN : i = N := by omega
    have last : R (.ok (.ret (.bool false))) s := done s (iN ▸ hs)
    obtain ⟨hh, gg, dd, kk, oo⟩ := s
    wp_walk using wpAny_loadPart' gp, wpAny_loadPart' gq
    have n1 : xs[((i : Nat) : Int).toNat]? = none := by simp; omega
    have n2 : ys[((i : Nat) : Int).toNat]? = none := by simp; omega
    rw [n1, n2]
    wp_walk using wpAny_loadPart' gp, wpAny_loadPart' gq
    show R (.ok (.ret (.bool (xs.size != ys.size)))) _
    rw [zp, zq]
    simpa using last
  | k + 1, i, hk, hi, s, hs => by
    obtain ⟨xs, ys, m, m2, gp, gq, zp, zq, tn⟩ := hJ _ _ hs
    have ip : i < xs.size := by omega
    have iq : i < ys.size := by omega
    have tt := tn ip iq
    obtain ⟨hh, gg, dd, kk, oo⟩ := s
    wp_walk using wpAny_loadPart' gp, wpAny_loadPart' gq
    have n1 : xs[((i : Nat) : Int).toNat]? = some xs[i] := by simp [ip]
    have n2 : ys[((i : Nat) : Int).toNat]? = some ys[i] := by simp [iq]
    have up : ((i : Int) + 1) = ((i + 1 : Nat) : Int) := by omega
    rw [n1, n2]
    refine wpAny_bind (wpAny_mono tt (fun r s2 h2 => ?_) fun _ _ x => x)
    obtain ⟨er, h2⟩ := h2
    subst er
    have next := ne_turns p q N J hJ done k (i + 1) (by omega) (by omega) s2 h2
    obtain ⟨hh2, gg2, dd2, kk2, oo2⟩ := s2
    wp_walk
    rw [up]
    exact ⟨plainId_quiet plain_eq_loop _, codeAny_builtin entry_eq_loop (by rw [Around.under_plainId plain_eq_loop _]; exact next)⟩
theorem ne_lists (p q : Addr) (N : Nat) (J : Nat → Shared → Prop) (hJ : GQ.ListI prog w A (fun e s' => R (.error e) s') p q N J)
    (done : ∀ s, J N s → R (.ok (.ret (.bool false))) s) {s : Shared} (hs : J 0 s) :
    wpAny (model prog w) A.in1 (Builtin.«list.__ne__» ⟨[.ref p, .ref q], []⟩) (GQ.FinOf prog w A R) (fun e s' => R (.error e) s') s := by
  obtain ⟨xs, ys, m, m2, gp, gq, zp, zq, _⟩ := hJ _ _ hs
  have all := ne_turns (A := A) (R := R) p q N J hJ done _ 0 rfl (Nat.zero_le _) s hs
  obtain ⟨hh, gg, dd, kk, oo⟩ := s
  have sub := AutoSeq1.sub_list_list
  have same : ¬ (xs.size != ys.size) = true := by simp [zp, zq]
  wp_walk using wpAny_loadPart' gp, wpAny_loadPart' gq
  exact ⟨plainId_quiet plain_eq_loop _, codeAny_builtin entry_eq_loop (by rw [Around.under_plainId plain_eq_loop _]; exact all)⟩
end
section
variable {prog : Program} {w : World} {A : Around} {E : Value → Shared → Prop} {s : Shared}
theorem rc_ne {p q : Addr} {N : Nat} {Q : Value → Shared → Prop} (hu : A.units < cLine) (J : Nat → Shared → Prop) (hJ : GQ.ListI prog w A E p q N J)
    (done : ∀ s, J N s → Q (.bool false) s) (hs : J 0 s) : wpAny (model prog w) A (richCompare .NotEq (.ref p) (.ref q)) Q E s := by
  obtain ⟨xs, ys, m, m2, gp, gq, _, _, _⟩ := hJ _ _ hs
  refine wpAny_richCompare_same_room (op := .NotEq) ⟨_, gp, rfl⟩ ⟨_, gq, rfl⟩ F.slot_list_ne (GQ.call_here F.slot_list_ne ⟨_, gp, rfl⟩ F.entry_list_ne (F.args_list_ne_2 _ _) ?_) hu
  exact ne_lists (R := wants (fun v s' => v ≠ .notImplemented ∧ Q v s') E) p q N J hJ (fun s' z => ⟨(fun x => nomatch x), done s' z⟩) hs
end
open L2 in
/-- xs != ys, where the items are equal by their own == : False -/
def rNeG (D : Eqv) : R2 := fun x y H Q => DList D x y H ∧ ∀ H', Ext H H' → Q (.bl false) H'
open L2 in
theorem op_neG {X : Cx} {n : Nat} {D : Eqv} (hD : Mon D) (h : EqG X n D) (hr : Room (n + 1) X.A) : OpR X (compareOp .NotEq) (rNeG D) := by
  intro pins s σ H x y v u Q I rx ry hq
  obtain ⟨⟨a, b, xs, ys, rfl, rfl, ha, hb, p⟩, q⟩ := hq
  cases rx
  cases ry
  show wpAny (model X.prog X.w) X.A (richCompare .NotEq (.ref a) (.ref b)) (EP X pins σ Q) X.xe s
  refine rc_ne (N := xs.length) hr.units0 (fun _ s' => LoopI X pins σ H s') (fun i s' z => ?_) (fun s' z => ?_) ⟨H, I, Ext.rfl'⟩
  · obtain ⟨H1, I1, e1⟩ := id z
    obtain ⟨_, its, k, r, e⟩ := I1.hok a _ (e1 _ _ ha)
    obtain ⟨_, its2, k2, r2, e2⟩ := I1.hok b _ (e1 _ _ hb)
    exact ⟨its.toArray, its2.toArray, k, k2, e, e2, by rw [List.size_toArray, ← r.length], by rw [List.size_toArray, ← r2.length, ← p.1], fun g1 g2 => turnG hD h ⟨hr, rfl⟩ p r r2 i g1 g2 s' z⟩
  · obtain ⟨H1, I1, e1⟩ := z
    exact ⟨.bl false, H1, I1, rfl, q H1 e1⟩
end KA
namespace KA
open PySem PySem.Spec PyProof.Rows L2
/-! ### shares as pairs -/
/-- by what both are divided -/
def prt (n d : Int) : Int := if d < 0 then -(Int.gcd n d : Int) else (Int.gcd n d : Int)
def shr (n d : Int) : Int × Int := (n.fdiv (prt n d), d.fdiv (prt n d))
theorem gcd_pos {n d : Int} (h : d ≠ 0) : 0 < Int.gcd n d := by
  have : Int.gcd n d ≠ 0 := fun z => h (Int.gcd_eq_zero_iff.mp z).2
  omega
theorem prt_ne {n d : Int} (h : d ≠ 0) : prt n d ≠ 0 := by
  have := gcd_pos (n := n) h
  unfold prt
  split <;> omega
theorem prt_dvd1 (n d : Int) : prt n d ∣ n := by
  unfold prt
  split
  · exact Int.neg_dvd.mpr (Int.gcd_dvd_left ..)
  · exact Int.gcd_dvd_left ..
theorem prt_dvd2 (n d : Int) : prt n d ∣ d := by
  unfold prt
  split
  · exact Int.neg_dvd.mpr (Int.gcd_dvd_right ..)
  · exact Int.gcd_dvd_right ..
theorem shr1 (n d : Int) : prt n d * (shr n d).1 = n := by
  show prt n d * n.fdiv (prt n d) = n
  rw [Int.fdiv_eq_ediv_of_dvd (prt_dvd1 n d)]
  exact Int.mul_ediv_cancel' (prt_dvd1 n d)
theorem shr2 (n d : Int) : prt n d * (shr n d).2 = d := by
  show prt n d * d.fdiv (prt n d) = d
  rw [Int.fdiv_eq_ediv_of_dvd (prt_dvd2 n d)]
  exact Int.mul_ediv_cancel' (prt_dvd2 n d)
theorem shr_pos {n d : Int} (h : d ≠ 0) : 0 < (shr n d).2 := by
  have e := shr2 n d
  have g := gcd_pos (n := n) h
  by_cases hd : d < 0
  · have hp : prt n d < 0 := by unfold prt; rw [if_pos hd]; omega
    rcases Int.lt_trichotomy (shr n d).2 0 with z | z | z
    · have := Int.mul_pos_of_neg_of_neg hp z
      omega
    · rw [z] at e
      omega
    · exact z
  · have hp : 0 < prt n d := by unfold prt; rw [if_neg hd]; omega
    rcases Int.lt_trichotomy (shr n d).2 0 with z | z | z
    · have := Int.mul_neg_of_pos_of_neg hp z
      omega
    · rw [z] at e
      omega
    · exact z
theorem prt_abs (n d : Int) : (prt n d).natAbs = Int.gcd n d := by
  unfold prt
  split <;> omega
theorem shr_low {n d : Int} (h : d ≠ 0) : Int.gcd (shr n d).1 (shr n d).2 = 1 := by
  have g := gcd_pos (n := n) h
  have e : Int.gcd (prt n d * (shr n d).1) (prt n d * (shr n d).2) = (prt n d).natAbs * Int.gcd (shr n d).1 (shr n d).2 := Int.gcd_mul_left ..
  rw [shr1, shr2, prt_abs] at e
  have : Int.gcd n d * 1 = Int.gcd n d * Int.gcd (shr n d).1 (shr n d).2 := by omega
  exact (Nat.eq_of_mul_eq_mul_left g this).symm
/-- of the worth u over g -/
def Eqf (x : Int × Int) (u g : Int) : Prop := x.1 * g = u * x.2
theorem shr_eqf (n d : Int) : Eqf (shr n d) n d := by
  have a := shr1 n d
  have b := shr2 n d
  show (shr n d).1 * d = n * (shr n d).2
  generalize prt n d = p at a b
  generalize (shr n d).1 = x at a ⊢
  generalize (shr n d).2 = y at b ⊢
  subst a b
  grind
theorem eqf_trans {n d u g : Int} (h : d ≠ 0) (e : n * g = u * d) : Eqf (shr n d) u g := by
  have a := shr_eqf n d
  unfold Eqf at a ⊢
  refine Int.eq_of_mul_eq_mul_right h ?_
  grind
theorem eqf_plus {x y : Int × Int} {a b c d : Int} (hx : Eqf x a b) (hy : Eqf y c d) (x0 : 0 < x.2) (y0 : 0 < y.2) : Eqf (shr (x.1 * y.2 + y.1 * x.2) (x.2 * y.2)) (a * d + c * b) (b * d) := by
  unfold Eqf at hx hy
  refine eqf_trans (Int.mul_ne_zero (by omega) (by omega)) ?_
  grind
theorem eqf_minus {x y : Int × Int} {a b c d : Int} (hx : Eqf x a b) (hy : Eqf y c d) (x0 : 0 < x.2) (y0 : 0 < y.2) : Eqf (shr (x.1 * y.2 - y.1 * x.2) (x.2 * y.2)) (a * d - c * b) (b * d) := by
  unfold Eqf at hx hy
  refine eqf_trans (Int.mul_ne_zero (by omega) (by omega)) ?_
  grind
theorem eqf_times {x y : Int × Int} {a b c d : Int} (hx : Eqf x a b) (hy : Eqf y c d) (x0 : 0 < x.2) (y0 : 0 < y.2) : Eqf (shr (x.1 * y.1) (x.2 * y.2)) (a * c) (b * d) := by
  unfold Eqf at hx hy
  refine eqf_trans (Int.mul_ne_zero (by omega) (by omega)) ?_
  grind
def sgn (m : Int) : Int := if m < 0 then -1 else 1
theorem below_iff {x y : Int × Int} {a b c d : Int} (hx : Eqf x a b) (hy : Eqf y c d) (x0 : 0 < x.2) (y0 : 0 < y.2) (hb : b ≠ 0) (hd : d ≠ 0) : (x.1 * y.2 < y.1 * x.2) ↔ (sgn (b * d) * a * d < sgn (b * d) * c * b) := by
  unfold Eqf at hx hy
  have bd : b * d ≠ 0 := Int.mul_ne_zero hb hd
  have hp : 0 < sgn (b * d) * (b * d) := by
    unfold sgn
    split <;> omega
  have xy : 0 < x.2 * y.2 := Int.mul_pos x0 y0
  rw [← Int.mul_lt_mul_right hp, ← Int.mul_lt_mul_right (a := x.2 * y.2) (b := sgn (b * d) * a * d) xy]
  have e1 : x.1 * y.2 * (sgn (b * d) * (b * d)) = sgn (b * d) * a * d * (x.2 * y.2) := by grind
  have e2 : y.1 * x.2 * (sgn (b * d) * (b * d)) = sgn (b * d) * c * b * (x.2 * y.2) := by grind
  rw [e1, e2]
/-! ### sums -/
def PP : List (Int × Int) → Int
  | [] => 1
  | x :: l => x.2 * PP l
def NN : List (Int × Int) → Int
  | [] => 0
  | x :: l => x.1 * PP l + NN l * x.2
theorem PP_app : ∀ l m : List (Int × Int), PP (l ++ m) = PP l * PP m
  | [], m => by show PP m = 1 * PP m; omega
  | x :: l, m => by
    show x.2 * PP (l ++ m) = x.2 * PP l * PP m
    rw [PP_app l m, Int.mul_assoc]
theorem NN_app : ∀ l m : List (Int × Int), NN (l ++ m) = NN l * PP m + NN m * PP l
  | [], m => by
    show NN m = 0 * PP m + NN m * 1
    omega
  | x :: l, m => by
    show x.1 * PP (l ++ m) + NN (l ++ m) * x.2 = (x.1 * PP l + NN l * x.2) * PP m + NN m * (x.2 * PP l)
    rw [NN_app l m, PP_app l m]
    grind
theorem PP_snoc (l : List (Int × Int)) (x : Int × Int) : PP (l ++ [x]) = PP l * x.2 := by
  rw [PP_app]
  show PP l * (x.2 * 1) = _
  rw [Int.mul_one]
theorem NN_snoc (l : List (Int × Int)) (x : Int × Int) : NN (l ++ [x]) = NN l * x.2 + x.1 * PP l := by
  rw [NN_app]
  show NN l * (x.2 * 1) + (x.1 * 1 + 0 * x.2) * PP l = _
  grind
theorem PP_rev : ∀ l : List (Int × Int), PP l.reverse = PP l
  | [] => rfl
  | x :: l => by
    rw [List.reverse_cons, PP_snoc, PP_rev l]
    exact Int.mul_comm ..
theorem NN_rev : ∀ l : List (Int × Int), NN l.reverse = NN l
  | [] => rfl
  | x :: l => by
    rw [List.reverse_cons, NN_snoc, NN_rev l, PP_rev l]
    show NN l * x.2 + x.1 * PP l = x.1 * PP l + NN l * x.2
    omega
/-! ### sizes -/
def Sz (k : Nat) (n : Int) : Prop := n.natAbs < 2 ^ k
theorem Sz.mono {k m : Nat} {n : Int} (h : Sz k n) (e : k ≤ m) : Sz m n := Nat.lt_of_lt_of_le h (Nat.pow_le_pow_right (by decide) e)
theorem Sz.mul {k m : Nat} {a b : Int} (ha : Sz k a) (hb : Sz m b) : Sz (k + m) (a * b) := by
  unfold Sz
  rw [Int.natAbs_mul, Nat.pow_add]
  exact Nat.mul_lt_mul'' ha hb
theorem Sz.add {k : Nat} {a b : Int} (ha : Sz k a) (hb : Sz k b) : Sz (k + 1) (a + b) := by
  unfold Sz at *
  rw [Nat.pow_succ]
  omega
theorem Sz.sub {k : Nat} {a b : Int} (ha : Sz k a) (hb : Sz k b) : Sz (k + 1) (a - b) := by
  unfold Sz at *
  rw [Nat.pow_succ]
  omega
theorem Sz.mw {k m : Nat} {a b : Int} (ha : Sz k a) (hb : Sz m b) (h : k + m + 2 ≤ 1000000) : CMulW a b := wide_mul (ha.mono (Nat.le_succ k)) (hb.mono (Nat.le_succ m)) (by omega) (by omega) (by omega)
theorem Sz.div {k : Nat} {n d : Int} (p : Int) (h : Sz k n) (e : p * d = n) (hp : p ≠ 0) : Sz k d := by
  unfold Sz at *
  subst e
  rw [Int.natAbs_mul] at h
  refine Nat.lt_of_le_of_lt ?_ h
  exact Nat.le_mul_of_pos_left _ (by omega)
theorem shr_sz {k : Nat} {n d : Int} (hd : d ≠ 0) (hn : Sz k n) (h : Sz k d) : Sz k (shr n d).1 ∧ Sz k (shr n d).2 := ⟨hn.div (prt n d) (shr1 n d) (prt_ne hd), h.div (prt n d) (shr2 n d) (prt_ne hd)⟩
/-- // by any number but 0 below 2 ^ 9000 -/
def CDivX (_ j : Int) : Prop := j ≠ 0 ∧ j.natAbs.log2 < 9000
theorem op_fdivX {X : Cx} : OpR X (binaryOp .FloorDiv) (rI CDivX fun i j => .int (i.fdiv j)) := opI fun i j _ _ _ _ _ hc q => floordiv_int hc.1 q (.inl (PyProof.noPylong_of_log2 hc.2))
theorem gcd_turn (a b : Nat) (h : 0 < b) : Nat.gcd b (a % b) = Nat.gcd a b := by
  rw [Nat.gcd_comm a b, Nat.gcd_rec b a, Nat.gcd_comm]
theorem pg_tupK {X : Cx} {K' : PySem.W.Frag} (hK : X.K = K') {es : List Expr} {k : Nat} {pos : Pos} {t : TGs} {n : Nat} (hc : X.calm = true) (h : PGs X es t)
    (hn : (assignEach es X.env).length = n := by rfl) (hst : (assignEach es X.env).findIdx? (·.1) = none := by rfl) : PG X (.Tuple es k pos) (gTup K' n t) := by
  subst hK
  exact pg_tup hc h hn hst
end KA
namespace KA
open PySem PySem.Spec PyProof.Rows L2
/-- what isinstance asks of an own class -/
structure ICls (K : PySem.W.Frag) (C : Addr) : Prop where
  ha : PySem.W.findIn K (.ref C) "__class__" = some (some (.builtin "object.__class__"))
  hn : PySem.W.specialIn K (.builtin "object.__class__") "__get__" = some (some (.builtin "getset_descriptor.__get__"))
  htk : PySem.W.takesIn K (.builtin "object.__class__") = some true
  hm : PySem.W.mroIn K C (.type "object") = some true
  kit : PySem.W.kitOne K (.ref C) (.ref C) = some true
theorem ICls.ty {K : PySem.W.Frag} {C : Addr} (i : ICls K C) (cl : Cls K C) {H : Hp} {p dx : Addr} {fs : List (Str × V)} (h : H p = some (.ins C dx fs)) : TyX K H (.ref p) (.ref C) := .base (.ins h cl i.ha i.hn i.htk i.hm)
theorem prt_log {n d : Int} {k : Nat} (hd : d ≠ 0) (h : Sz k d) (hk : k ≤ 8000) : (prt n d).natAbs.log2 < 9000 := by
  rw [prt_abs]
  refine Nat.lt_of_lt_of_le (PySem.Flt.log2_lt_of (k := k + 1) (by omega) ?_) (by omega : k + 1 ≤ 9000)
  have : Int.gcd n d ≤ d.natAbs := Nat.le_of_dvd (by omega) (Int.gcd_dvd_natAbs_right n d)
  exact Nat.lt_of_le_of_lt this (h.mono (Nat.le_succ k))
theorem abs_nat (n : Int) : (if n < 0 then -n else n) = (n.natAbs : Int) := by
  split <;> omega
end KA
namespace KA
open PySem PySem.Spec PyProof.Rows L2
/-! ### isinstance of a caught error that has fields of its own -/
theorem xd_at {P : Program} {w : World} {H : Hp} {h : Heap} {dd : Addr} {fs : List (Str × V)} (hok : HOk P w H h) (e : H dd = some (.xd fs)) : ∃ od, h.get? dd = some od := by
  obtain ⟨mA, ⟨od, es, ep, ho, _⟩, _⟩ := (show ObjOk P w H h dd (.xd fs) from hok dd _ e)
  exact ⟨od, ho⟩
theorem kit_exc {K : PySem.W.Frag} {D x : Addr} {ox : Obj} {od : Option Obj} (C : ExcC K D) : PySem.W.KitX K (.ref x) (.ref D) (fun h => PySem.W.InstAt h x ox D od) :=
  PySem.W.kitx_exc (by obtain ⟨cd, hc, _⟩ := PySem.W.any_some C.hd; rw [hc]; rfl) C.hg C.hk C.hs C.ha C.hn C.ht C.hm
def rIsD (K : PySem.W.Frag) (a : Addr) (cls : Value) (d : Option Addr) : List V → Hp → VK → Prop := fun xs H Q => ∃ (D dd : Addr) (fs : List (Str × V)) (c : V) (u : Value) (b : Bool), xs = [.ref a, c] ∧ cls = .ref D ∧ d = some dd ∧ H dd = some (.xd fs) ∧ ExcC K D ∧ ClsV c u ∧ PySem.W.kitOne K (.ref D) u = some b ∧ Q (.bl b) H
def rIsDT (K : PySem.W.Frag) (a : Addr) (cls : Value) (d : Option Addr) : List V → Hp → VK → Prop := fun xs H Q => ∃ (D dd tp : Addr) (fs : List (Str × V)) (cs : List V) (us : List Value) (b : Bool), xs = [.ref a, .ref tp] ∧ cls = .ref D ∧ d = some dd ∧ H dd = some (.xd fs) ∧ ExcC K D ∧ H tp = some (.tup cs) ∧ Paired ClsV cs us ∧ PySem.W.kitAny K (.ref D) us = some b ∧ Q (.bl b) H
section
variable {X : Cx} {a : Addr} {oe : Obj} {cls : Value} {d : Option Addr} {pn : List (Addr × Obj)}
theorem inst_of {pins : List (Addr × Obj)} {σ : L2.St} {H : Hp} {s : Shared} {D dd : Addr} {fs : List (Str × V)} (hz : Zc (.ref D) (some dd) oe) (hf : ∃ vs, oe.data = .fields vs) (I : Inv (X.suite a ((a, oe) :: pn)) pins σ H s) (e : H dd = some (.xd fs)) : ∃ od, PySem.W.InstAt s.heap a oe D (some od) := by
  obtain ⟨hget, _⟩ := I.pin (a, oe) (List.mem_append.mpr (.inl List.mem_cons_self))
  obtain ⟨vs, hv⟩ := hf
  obtain ⟨od, ho⟩ := xd_at I.hok e
  exact ⟨od, hget, hz.1, by unfold PySem.W.notCls; rw [hv] <;> rfl, by rw [hz.2]; exact ho⟩
theorem call_isD (hz : Zc cls d oe) (hf : ∃ vs, oe.data = .fields vs) : CallR (X.suite a ((a, oe) :: pn)) (.builtin "isinstance") (rIsD X.K a cls d) := by
  intro pins s σ H xs us Q I r h
  obtain ⟨D, dd, fs, c, u, b, rfl, rfl, rfl, e, C, k, hk, q⟩ := h
  obtain ⟨u1, u2, rfl, r1, r2⟩ := vals2 r
  cases (show u1 = Value.ref a from r1)
  have e2 := k.eq r2
  subst e2
  obtain ⟨od, J⟩ := inst_of hz hf I e
  exact PySem.W.kia_one (kit_exc C) I.kIn J hk (fun z => nomatch z) fun tk => ⟨.bl b, H, I.tok tk, rfl, q⟩
theorem call_isDT (hz : Zc cls d oe) (hf : ∃ vs, oe.data = .fields vs) : CallR (X.suite a ((a, oe) :: pn)) (.builtin "isinstance") (rIsDT X.K a cls d) := by
  intro pins s σ H xs us Q I r h
  obtain ⟨D, dd, tp, fs, cs, ws, b, rfl, rfl, rfl, e, C, hT, k, hk, q⟩ := h
  obtain ⟨u1, u2, rfl, r1, r2⟩ := vals2 r
  cases (show u1 = Value.ref a from r1)
  cases (show u2 = Value.ref tp from r2)
  obtain ⟨od, J⟩ := inst_of hz hf I e
  obtain ⟨_, its, rv, o, h1, h2, n, h3⟩ := (show ObjOk X.prog X.w H s.heap tp (.tup cs) from I.hok tp _ hT)
  have e3 := ClsV.all k rv
  subst e3
  obtain ⟨oc, od', dt, sl⟩ := o
  simp only at h2 h3
  subst h2 h3
  exact PySem.W.kia_tup (kit_exc C) I.kIn J h1 hk (fun z => nomatch z) fun tk => ⟨.bl b, H, I.tok tk, rfl, q⟩
end
theorem call_isiS {X : Cx} {K' : PySem.W.Frag} (hK : X.K = K') : CallR X (.builtin "isinstance") (rIsi K') := by
  subst hK
  exact call_isi
/-! ### calls that let nothing out, bodies that are never run -/
theorem passF {X : Cx} : Passes (L2.CX X.prog X.w) X E0 := passes_call takes0 (fun _ _ _ _ h => h)
/-! ### keywords: which of what is handed in, of the defaults, of the keywords stands where -/
def kw1 {α : Type} (p : Nat × Nat) (us its ws : List α) : List α := match p with
  | (0, i) => us[i]?.toList
  | (1, i) => its[i]?.toList
  | (_, i) => ws[i]?.toList
def kw {α : Type} : List (Nat × Nat) → List α → List α → List α → List α
  | [], _, _, _ => []
  | p :: f, us, its, ws => kw1 p us its ws ++ kw f us its ws
theorem vals_at : ∀ {xs : List V} {us : List Value}, Vals xs us → ∀ i : Nat, (xs[i]? = none ∧ us[i]? = none) ∨ ∃ x u, xs[i]? = some x ∧ us[i]? = some u ∧ RelV x u
  | _, _, .nil, _ => .inl ⟨rfl, rfl⟩
  | _, _, .cons r _, 0 => .inr ⟨_, _, rfl, rfl, r⟩
  | _, _, .cons _ t, i + 1 => by
    rw [List.getElem?_cons_succ, List.getElem?_cons_succ]
    exact vals_at t i
theorem vals_one {xs : List V} {us : List Value} (h : Vals xs us) (i : Nat) : Vals xs[i]?.toList us[i]?.toList := by
  rcases vals_at h i with ⟨e1, e2⟩ | ⟨x, u, e1, e2, r⟩
  · rw [e1, e2]
    exact .nil
  · rw [e1, e2]
    exact .cons r .nil
theorem kw_rel : ∀ (f : List (Nat × Nat)) {vs ds zs : List V} {us is ws : List Value}, Vals vs us → Vals ds is → Vals zs ws → Vals (kw f vs ds zs) (kw f us is ws)
  | [], _, _, _, _, _, _, _, _, _ => .nil
  | (0, i) :: f, _, _, _, _, _, _, h1, h2, h3 => (vals_one h1 i).append (kw_rel f h1 h2 h3)
  | (1, i) :: f, _, _, _, _, _, _, h1, h2, h3 => (vals_one h2 i).append (kw_rel f h1 h2 h3)
  | (_ + 2, i) :: f, _, _, _, _, _, _, h1, h2, h3 => (vals_one h3 i).append (kw_rel f h1 h2 h3)
/-! ### PearlError's own way: one field -/
def spPearl (K : PySem.W.Frag) (f : Str) : Sp := fun vs H Q _ => ∃ (a C : Addr) (v : V), vs = [.ref a, v] ∧ OexC K C ∧ PySem.W.findIn K (.ref C) f = some none ∧ H a = some (exo a C none) ∧
  ∀ dx, H dx = none → dx ≠ a → Q .non (upd (upd H dx (exd dx [(f, v)])) a (exo a C (some dx)))
theorem pearl_same {H : Hp} {a dx : Addr} {o1 o2 o3 : HO} {fs : List (Str × V)} (ha : H a = none) (hd : H dx = none) : Same H (upd (del (upd (upd (upd H a o1) dx o2) a o3) a) dx (.xd fs)) := fun b o e => by
  rw [upd_ne (ne_of_none e hd), del_ne (ne_of_none e ha), upd_ne (ne_of_none e ha), upd_ne (ne_of_none e hd), upd_ne (ne_of_none e ha)]
  exact e
end KA
/-! errors of own classes over any built-in class of errors: made, stored into -/
namespace KA
open PySem PySem.W PySem.Calls PyProof.Rows
section
open Builtin Builtin.ObjectAttr
variable {prog : Program} {w : World} {A : Around} {E : Value → Shared → Prop} {R : Result → Shared → Prop} {hp : Heap} {g : Array GenState} {d : Drawn} {t : Nat} {os : OsState} {B : String} {bmB : List Value}
theorem gosa {K : W.Frag} {name : Str} {tk : Tok} {v : Value} {x C : Addr} {fv : Array Value} {cd : ClassData} {bm : List Value} (SF : StoreFacts B bmB "object.__setattr__" "object")
    (X : K.In hp) (hx : hp.get? x = some { cls := .ref C, data := .fields fv }) (hcd : W.clsIn K C = some cd) (hmr : cd.mro = .ref C :: bm) (hm : W.excTail bmB bm = true) (hh : cd.hasDict = true) (ha : W.findIn K (.ref C) name = some none)
    (hq : ∀ h' tk' dx, (∀ b o, b ≠ x → hp.get? b = some o → h'.get? b = some o) → hp.objs.size ≤ dx → dx ≠ x → h'.get? x = some { cls := .ref C, dict := some dx, data := .fields fv } →
      h'.Ns1 dx (fun y => if y = name then some v else none) → R (.ok (.ret .none)) ⟨h', g, d, tk', os⟩) :
    codeAny (model prog w) A (.call (.builtin "object.__setattr__") ⟨[.ref x, .str name tk, v], []⟩) R ⟨hp, g, d, t, os⟩ := by
  have I : W.InstAt hp x { cls := .ref C, data := .fields fv } C none := ⟨hx, rfl, rfl, trivial⟩
  have hxs : x ≠ hp.objs.size := Nat.ne_of_lt (Heap.lt_size hx)
  have tl : W.excTail bmB cd.mro = true := by rw [hmr]; exact hm
  have hob : cd.mro.contains (.type "object") = true := (W.excTail_contains "object" _ tl).trans SF.hasOwner
  have sub : W.Looks (model prog w) hp (isInstance (.ref x) (.type "object")) true := I.type.andThen (W.looks_mroIn X (by unfold W.mroIn; rw [hcd, Option.bind_some, if_neg (by rw [hmr]; simp), hob]))
  have SO := F.store_object
  refine codeAny_call_builtin SO.slot.plain SO.entry (@W.check_slot (model prog w) _ _ ⟨hp, g, d, t, os⟩ "object.__setattr__" "object" "__setattr__" (.ref x) [.str name tk, v] [] _ SO.kind SO.split sub (SO.args (.ref x) (.str name tk) v) ?_)
  have L1 : W.Looks (model prog w) hp (mroOf (.ref C)) cd.mro := (W.looks_clsIn X hcd).andThen .now
  have L2 : W.Looks (model prog w) hp (storeTaker? none) none := .now
  have L3 : W.Looks (model prog w) hp (classData C) cd := W.looks_clsIn X hcd
  rw [W.osa_eq, refuse_eq]
  refine wpAny_bind (wpAny_bind (I.type.at (wpAny_bind (L1.at ?_))))
  rw [W.excTail_pass _ (SF.passes _) _ tl]
  refine wpAny_pure (wpAny_bind (I.type.at (wpAny_bind ((W.looks_findIn X ha).at (wpAny_bind (L2.at ?_))))))
  show wpAny _ _ (storeInOwnDict (.ref x) (.ref C) (.str name tk) name v false) _ _ _
  obtain ⟨nm, bs, mro, ns, qn, hd, sn, sb, ab, col, del⟩ := cd
  dsimp only at hh
  subst hh
  unfold storeInOwnDict ownDictForStores
  repeat (first | with_reducible refine HandSPX.store_in_new ?_ ?_ | with_reducible refine wpAny_loadPart_at hx ?_ | with_reducible refine L3.at ?_ | wp_step)
  · exact ⟨_, #[], _, (Heap.get?_update_ne _ _ _ _ hxs.symm).trans (Heap.get?_push_at rfl rfl), rfl, fun e he => absurd he (by simp), fun _ => rfl⟩
  · intro h' tk' hn' hs
    have hx₁ : (hp.push { cls := .type "dict", data := .dict #[] }).get? x = some { cls := .ref C, data := .fields fv } := Heap.get?_push_of_some _ hx
    refine hq h' tk' hp.objs.size (fun b o hb ho => ?_) (Nat.le_refl _) hxs.symm ?_ hn'
    · exact (hs.2 b (Nat.ne_of_lt (Heap.lt_size ho))).trans ((Heap.get?_update_ne _ _ _ _ hb).trans (Heap.get?_push_of_some _ ho))
    · exact (hs.2 x hxs).trans (Heap.get?_update_self _ hx₁ rfl)
theorem gosa_old {K : W.Frag} {name : Str} {tk : Tok} {v : Value} {x C dx : Addr} {fv : Array Value} {cd : ClassData} {bm : List Value} {m0 : Str → Option Value} {nl : List Str} (SF : StoreFacts B bmB "object.__setattr__" "object")
    (X : K.In hp) (hx : hp.get? x = some { cls := .ref C, dict := some dx, data := .fields fv }) (hns : hp.Ns1 dx m0) (hw : Within m0 nl) (hz : nl.length ≤ 1000) (hcd : W.clsIn K C = some cd) (hmr : cd.mro = .ref C :: bm) (hm : W.excTail bmB bm = true) (hh : cd.hasDict = true)
    (ha : W.findIn K (.ref C) name = some none)
    (hq : ∀ h' tk', (∀ b o, b ≠ dx → hp.get? b = some o → h'.get? b = some o) → h'.Ns1 dx (fun y => if y = name then some v else m0 y) → R (.ok (.ret .none)) ⟨h', g, d, tk', os⟩) :
    codeAny (model prog w) A (.call (.builtin "object.__setattr__") ⟨[.ref x, .str name tk, v], []⟩) R ⟨hp, g, d, t, os⟩ := by
  obtain ⟨oD, esD, epD, hoD, hdD, _⟩ := hns.count hw
  have I : W.InstAt hp x { cls := .ref C, dict := some dx, data := .fields fv } C (some oD) := ⟨hx, rfl, rfl, hoD⟩
  have tl : W.excTail bmB cd.mro = true := by rw [hmr]; exact hm
  have hob : cd.mro.contains (.type "object") = true := (W.excTail_contains "object" _ tl).trans SF.hasOwner
  have sub : W.Looks (model prog w) hp (isInstance (.ref x) (.type "object")) true := I.type.andThen (W.looks_mroIn X (by unfold W.mroIn; rw [hcd, Option.bind_some, if_neg (by rw [hmr]; simp), hob]))
  have SO := F.store_object
  refine codeAny_call_builtin SO.slot.plain SO.entry (@W.check_slot (model prog w) _ _ ⟨hp, g, d, t, os⟩ "object.__setattr__" "object" "__setattr__" (.ref x) [.str name tk, v] [] _ SO.kind SO.split sub (SO.args (.ref x) (.str name tk) v) ?_)
  have L1 : W.Looks (model prog w) hp (mroOf (.ref C)) cd.mro := (W.looks_clsIn X hcd).andThen .now
  have L2 : W.Looks (model prog w) hp (storeTaker? none) none := .now
  have L3 : W.Looks (model prog w) hp (classData C) cd := W.looks_clsIn X hcd
  rw [W.osa_eq, refuse_eq]
  refine wpAny_bind (wpAny_bind (I.type.at (wpAny_bind (L1.at ?_))))
  rw [W.excTail_pass _ (SF.passes _) _ tl]
  refine wpAny_pure (wpAny_bind (I.type.at (wpAny_bind ((W.looks_findIn X ha).at (wpAny_bind (L2.at ?_))))))
  show wpAny _ _ (storeInOwnDict (.ref x) (.ref C) (.str name tk) name v false) _ _ _
  obtain ⟨nm, bs, mro, ns, qn, hd, sn, sb, ab, col, del⟩ := cd
  dsimp only at hh
  subst hh
  unfold storeInOwnDict ownDictForStores
  repeat (first | with_reducible refine OEX.store_in_old hns hw hz ?_ | with_reducible refine wpAny_loadPart_at hx ?_ | with_reducible refine L3.at ?_ | wp_step)
  intro h' tk' hn' hs
  exact hq h' tk' (fun b o hb ho => (hs.2 b hb).trans ho) hn'
end
end KA
namespace KA
open PySem PySem.Spec PyProof.Rows L2
/-- what the written part says of a class of errors over the built-in one B -/
structure OexB (newId : String) (bmB : List Value) (K : PySem.W.Frag) (C : Addr) : Prop where
  cls : ∃ nm q N bs bm sn sub ab col dd k0 k1 k2 k3 k5, K.lookup C = some (excClassObj nm q C N bs bm true sn sub ab col dd k0 k1 k2 k3 k5 newId) ∧ PySem.W.excTail bmB bm = true
  sa : PySem.W.findIn K (.ref C) "__setattr__" = some (some (.builtin "object.__setattr__"))
  exC : PySem.W.subIn K (.ref C) (.type "BaseException") = some true
  tyC : PySem.W.typeIn K (.ref C) = some (.type "type")
  kC : PySem.W.keepIn K (.ref C) = true
section
variable {X : Cx} {pins : List (Addr × Obj)} {σ : L2.St} {H : Hp} {s : Shared} {a C dx : Addr} {f : Str} {y : V} {u : Value} {fs : List (Str × V)} {Q : Unit → Shared → Prop} {E : Value → Shared → Prop} {A : Around} {B newId initId : String} {bmB : List Value}
theorem gost_new (SF : StoreFacts B bmB "object.__setattr__" "object") (T : OexB newId bmB X.K C) (I : L2.Inv X pins σ H s) (e : H a = some (exo a C none)) (hno : PySem.W.findIn X.K (.ref C) f = some none) (ry : RelV y u)
    (h : ∀ dx s', H dx = none → dx ≠ a → L2.Inv X pins σ (upd (upd H dx (exd dx [(f, y)])) a (exo a C (some dx))) s' → Q () s') : wpAny (model X.prog X.w) A (setAttr (.ref a) f u) Q E s := by
  obtain ⟨nm, q, N, bs, bm, sn, sub, ab, col, dd, k0, k1, k2, k3, k5, hC, hbm⟩ := T.cls
  have hcl : PySem.W.clsIn X.K C = some { name := nm, bases := bs, mro := .ref C :: bm, ns := N, qualname := q, hasDict := true, slotNames := sn, subclasses := sub, abstract := ab, collection := col, hasDel := false } := by unfold PySem.W.clsIn; rw [hC] <;> rfl
  obtain ⟨t1, ho⟩ := exo_at I.hok e
  obtain ⟨hp, g, d, t, os⟩ := s
  refine PySem.W.set_plain I.kIn (ox := { cls := .ref C, dict := none, data := .fields #[.ref t1, .none, .none, .none, .bool false, .none] }) (od := none) ⟨ho, rfl, rfl, trivial⟩ T.sa ?_
  refine gosa SF I.kIn ho hcl rfl hbm rfl hno (fun h' tk' dx k dn dne hx hn => ?_)
  have hnd : H dx = none := I.hok.fresh dn
  have nd : ∀ {b : Addr} {o : Obj}, hp.get? b = some o → b ≠ dx := fun {b o} q => Nat.ne_of_lt (Nat.lt_of_lt_of_le (Heap.lt_size q) dn)
  have na : ∀ {b : Addr}, H b = none → b ≠ a := fun {b} n z => by
    rw [z, e] at n
    cases n
  have U : Un X.fs [] H (upd (upd H dx (exd dx [(f, y)])) a (exo a C (some dx))) hp h' := {
    keep := fun b o q n _ _ => k b o (na n) q
    slot := fun b o q n _ _ => ⟨o.slots, k b o (na n) q⟩
    free := fun b o q n _ => by rw [upd_ne (na n), upd_ne (nd q)]; exact n
    there := fun b o q _ => by
      by_cases hb : b = a
      · exact ⟨_, by rw [hb]; exact hx⟩
      · exact ⟨o, k b o hb q⟩
    tups := fun b xs q => by rw [upd_ne (at_ne e q exo_tup), upd_ne (ne_of_none q hnd)]; exact q
    frzs := fun b o v q => by rw [upd_ne (at_ne e q exo_frz), upd_ne (ne_of_none q hnd)]; exact q
    tbls := fun b ps q => ⟨#[], by rw [upd_ne (at_ne e q exo_tbl), upd_ne (ne_of_none q hnd), q]; simp⟩ }
  refine h dx _ hnd dne (I.un (t' := tk') U fun b o q => ?_)
  by_cases hb : b = a
  · subst hb
    rw [upd_same] at q
    cases q
    exact exo_ok hx
  · rw [upd_ne hb] at q
    by_cases hd : b = dx
    · subst hd
      rw [upd_same] at q
      cases q
      exact exd_ok hn (relO_put (fs := []) ry fun g => True.intro)
    · rw [upd_ne hd] at q
      exact (I.hok b o q).stay (fun c v hc z => k c v (by
          rcases hc with hc | hc
          · rw [hc]
            exact hb
          · exact at_ne e hc exo_own) z)
        (fun c hc => by rw [upd_ne (at_ne e hc exo_own), upd_ne (ne_of_none hc hnd)]; exact hc) (fun c xs hc => by rw [upd_ne (at_ne e hc exo_tup), upd_ne (ne_of_none hc hnd)]; exact hc)
theorem gost_old (SF : StoreFacts B bmB "object.__setattr__" "object") (T : OexB newId bmB X.K C) (I : L2.Inv X pins σ H s) (e : H a = some (exo a C (some dx))) (ed : H dx = some (exd dx fs)) (hl : fs.length ≤ 900) (hno : PySem.W.findIn X.K (.ref C) f = some none) (ry : RelV y u)
    (h : ∀ s', L2.Inv X pins σ (upd H dx (exd dx ((f, y) :: fs))) s' → Q () s') : wpAny (model X.prog X.w) A (setAttr (.ref a) f u) Q E s := by
  obtain ⟨nm, q, N, bs, bm, sn, sub, ab, col, dd, k0, k1, k2, k3, k5, hC, hbm⟩ := T.cls
  have hcl : PySem.W.clsIn X.K C = some { name := nm, bases := bs, mro := .ref C :: bm, ns := N, qualname := q, hasDict := true, slotNames := sn, subclasses := sub, abstract := ab, collection := col, hasDel := false } := by unfold PySem.W.clsIn; rw [hC] <;> rfl
  obtain ⟨t1, ho⟩ := exo_at I.hok e
  obtain ⟨mA, hns, rel⟩ := exd_at I.hok ed
  have hw := within_of rel
  obtain ⟨hp, g, d, t, os⟩ := s
  obtain ⟨oD, _, _, hoD, _, _⟩ := hns.count hw
  refine PySem.W.set_plain I.kIn (ox := { cls := .ref C, dict := some dx, data := .fields #[.ref t1, .none, .none, .none, .bool false, .none] }) (od := some oD) ⟨ho, rfl, rfl, hoD⟩ T.sa ?_
  refine gosa_old SF I.kIn ho hns hw (by rw [List.length_map]; omega) hcl rfl hbm rfl hno (fun h' tk' k hn => ?_)
  have hd : ∃ o, h'.get? dx = some o := by
    obtain ⟨o, _, _, e', _⟩ := hn
    exact ⟨o, e'⟩
  exact h _ (I.write (t' := tk') (x := dx) (e := dx) (o := exd dx ((f, y) :: fs)) (by rw [ed]; exact True.intro) (.inl rfl) k hd (exd_ok hn (relO_put ry rel)))
theorem goinit {us : List Value} {Q : Value → Shared → Prop} (FB : ExcBaseFacts B newId initId bmB) (T : OexB newId bmB X.K C) (I : L2.Inv X pins σ H s) (e : H a = some (exo a C none)) (hl : us.length ≤ sizeLine) (h : ∀ s', L2.Inv X pins σ H s' → Q .none s') :
    wpAny (model X.prog X.w) A (call (.builtin initId) (.ref a :: us)) Q E s := by
  obtain ⟨nm, q, N, bs, bm, sn, sub, ab, col, dd, k0, k1, k2, k3, k5, hC, hbm⟩ := T.cls
  obtain ⟨t1, ho⟩ := exo_at I.hok e
  obtain ⟨hp, g, d, t, os⟩ := s
  refine wpAny_call (PySem.HandSPX.init_base FB (fun Y => PySem.W.excTail_contains Y bm hbm) (I.kIn _ _ hC) ho hl fun h' t2 k hx => ?_)
  have J := I.write (t' := t) (x := a) (e := a) (o := exo a C none) (by rw [e]; exact True.intro) (.inl rfl) k ⟨_, hx⟩ (exo_ok hx)
  have eu : upd H a (exo a C none) = H := by
    funext b
    by_cases hb : b = a
    · rw [hb, upd_same, e]
    · rw [upd_ne hb]
  rw [eu] at J
  exact h _ J
end
/-- B.__init__(self, ..) -/
def tBI (newId : String) (bmB : List Value) (K : PySem.W.Frag) (ta : TA) : TE := fun σ H Q => ta σ H fun vs H1 => ∃ (a C : Addr) (ws : List V), vs = .ref a :: ws ∧ ws.length ≤ 1000 ∧ OexB newId bmB K C ∧ H1 a = some (exo a C none) ∧ Q .non H1
/-- self.f = e -/
def tOstB (newId : String) (bmB : List Value) (K : PySem.W.Frag) (f : Str) (to te : TE) : TS := fun D σ H => te σ H fun y H1 => to σ H1 fun x H2 => ∃ a C : Addr, x = .ref a ∧ OexB newId bmB K C ∧ PySem.W.findIn K (.ref C) f = some none ∧
  ((H2 a = some (exo a C none) ∧ ∀ dx, H2 dx = none → dx ≠ a → D.nx σ (upd (upd H2 dx (exd dx [(f, y)])) a (exo a C (some dx)))) ∨
    ∃ (dx : Addr) (fs : List (Str × V)), H2 a = some (exo a C (some dx)) ∧ H2 dx = some (exd dx fs) ∧ fs.length ≤ 900 ∧ D.nx σ (upd H2 dx (exd dx ((f, y) :: fs))))
section
variable {X : Cx} {o e : Expr} {es : List Expr} {to te : TE} {ta : TA} {f : Str} {p p' p1 p2 pos : Pos} {B newId initId : String} {bmB : List Value}
/-- B.__init__(self, ..) of a built-in class of errors -/
theorem pe_binit {pl : Sem Bool} {x : Str} (FB : ExcBaseFacts B newId initId bmB) (hg : Gl X x) (hm : X.mg x = none) (hv : bootBuiltins x = some (.type B)) (htp : typeOf (.type B) = pure (.type "type")) (hst : Manifest.isStub B = false) (hhi : PySem.W.handedIn (.builtin initId) = true)
    (vV : PySem.W.findCls X.K (.type B) (.type "type") "__init__" = some (.val (.builtin initId))) (ha : PA X (e :: es) ta)
    (hc : eval (.Call (.Attribute (.Name x p1) "__init__" p2) (e :: es) [] pos) X.env = (do
      let ov ← eval (.Name x p1) X.env
      standAt p2.atName
      let (f, first) ← holding [ov] (getMethod ov "__init__" pl)
      callWith pos f first (backTo pos (starEach (e :: es) X.env)) (backToKw pos (keywordEach [] X.env))) := by rfl)
    (he : starEach (e :: es) X.env = (false, eval e X.env) :: starEach es X.env := by rfl) (hpl : (backTo pos (starEach es X.env)).any (·.1) = false := by rfl) (hn : x ≠ "__name__" := by decide) (hdb : (x == ("__debug__" : Str)) = false := by decide) :
    PE X (.Call (.Attribute (.Name x p1) "__init__" p2) (e :: es) [] pos) (tBI newId bmB X.K ta) := by
  refine ⟨fun pins s σ H Q I h => ?_⟩
  refine PySem.W.methodCall_KW (ld_blt I hg hm hv ?_ hn hdb) hc
  obtain ⟨m, fr⟩ := I.fr
  refine PySem.W.method_type fr I.ok.mod.kin htp hst vV hhi ?_
  show wpAny _ _ (callWith pos (Value.builtin initId) [] (backTo pos (starEach (e :: es) X.env)) []) _ _ _
  refine PyProof.Rows.callWith_method1 (thn (ha.run pos pins _ σ H _ (I.tok _) h) fun us s1 ⟨vs, H1, I1, r1, a, C, ws, ev, hl, T, ea, q⟩ => ?_) he hpl
  subst ev
  cases r1 with
  | @cons _ u0 _ ur ra rw' =>
    obtain rfl : u0 = Value.ref a := ra
    have hlen : ur.length ≤ sizeLine := by
      rw [← Paired.length rw', sizeLine_eq]
      omega
    exact goinit FB T I1 ea hlen fun s' J => ⟨.non, H1, J, rfl, q⟩
theorem ps_ostB (SF : StoreFacts B bmB "object.__setattr__" "object") (ho : PE X o to) (he : PE X e te) (hs : swapsWith e (some (.Attribute o f p')) pos.line X.env = pure false := by rfl) : PS X (.Assign [.Attribute o f p'] e pos) (tOstB newId bmB X.K f to te) := by
  refine ⟨fun pins s σ H D I h => ?_⟩
  refine plainObj_wpAny_Assign_Attribute (thn (he.run pins s σ H _ I h) fun v s1 ⟨y, H1, I1, r1, q1⟩ => thn (ho.run pins s1 σ H1 _ I1 q1) fun u s2 ⟨x, H2, I2, r2, a, C, ex, T, hno, q⟩ => ?_) hs
  subst ex
  obtain rfl : u = Value.ref a := r2
  rcases q with ⟨ea, q⟩ | ⟨dx, fs, ea, ed, hl, q⟩
  · exact gost_new SF T I2 ea hno r1 fun dx s' n ne J => ⟨σ, _, J, q dx n ne⟩
  · exact gost_old SF T I2 ea ed hl hno r1 fun s' J => ⟨σ, _, J, q⟩
theorem pmk_gex {CX : CXT} {x : Str} {C fI : Addr} {k : Nat} {fd : FuncData} {ps : List Str} {sp : Sp} {ds : List Value} {dvs : List V} (FB : ExcBaseFacts B newId initId bmB) (T : OexB newId bmB X.K C) (iC : PySem.W.findIn X.K (.ref C) "__init__" = some (some (.ref fI))) (tI : PySem.W.typeIn X.K (.ref fI) = some (.type "function"))
    (F1 : FnOk X.prog X.w X.K X.mg X.base CX k fI fd ps sp) (hr : Room (k + 1) X.A) (hb : Binds X.K fd ps ds) (hd : Vals dvs ds) (hx : Passes CX X (fun _ _ _ => False)) (hg : Gl X x) (hm : X.mg x = some (.ref C)) (ha : PA X (e :: es) ta)
    (hdb : (x == ("__debug__" : Str)) = false := by decide) (he : starEach (e :: es) X.env = (false, eval e X.env) :: starEach es X.env := by rfl) (hpl : (backTo pos (starEach es X.env)).any (·.1) = false := by rfl) :
    PMk X (.Call (.Name x p) (e :: es) [] pos) (tMkO C sp dvs ta) := by
  intro pins s σ H Q I h
  obtain ⟨nm, q, N, bs, bm, sn, sub, ab, col, dd, k0, k1, k2, k3, k5, hC, hbm⟩ := T.cls
  refine wpAny_Call_Name_kw (ld_glob I hg hm ?_ hdb)
  refine PySem.W.callWith_K (h₀ := X.base) I.ok.mod.kin T.kC (thn (ha.run pos pins s σ H _ I h) fun us s1 ⟨vs, H1, I1, r1, hz, q1⟩ => ⟨I1.kIn, ?_⟩) he hpl
  show wpAny _ _ (call (.ref C) us) _ _ _
  obtain ⟨hp, g, dr, tk, os⟩ := s1
  have hsz : hp.objs.size ≤ hp.objs.size + 1 := Nat.le_succ _
  have hn : H1 (hp.objs.size + 1) = none := I1.hok.fresh hsz
  have hq := q1 (hp.objs.size + 1) hn
  have kk : ∀ b o, hp.get? b = some o → ((hp.push (PySem.W.kdv_tup us)).push (PySem.HandSPX.excO C hp.objs.size)).get? b = some o := fun b o e => Heap.get?_push_of_some _ (Heap.get?_push_of_some _ e)
  have hget : ((hp.push (PySem.W.kdv_tup us)).push (PySem.HandSPX.excO C hp.objs.size)).get? (hp.objs.size + 1) = some (PySem.HandSPX.excO C hp.objs.size) := by heap_get
  have I2 : L2.Inv X pins σ (upd H1 (hp.objs.size + 1) (exo (hp.objs.size + 1) C none)) ⟨(hp.push (PySem.W.kdv_tup us)).push (PySem.HandSPX.excO C hp.objs.size), g, dr, tk, os⟩ :=
    I1.laid (t' := tk) (a := hp.objs.size + 1) (o := exo (hp.objs.size + 1) C none) (h' := (hp.push (PySem.W.kdv_tup us)).push (PySem.HandSPX.excO C hp.objs.size)) kk hsz (exo_ok hget)
  have r2 : Vals (V.ref (hp.objs.size + 1) :: (vs ++ dvs)) (Value.ref (hp.objs.size + 1) :: (us ++ ds)) := .cons rfl (r1.append hd)
  have hl : (Value.ref (hp.objs.size + 1) :: us ++ ds).length = ps.length := by
    have e := r2.length
    rw [F1.len _ _ _ _ hq] at e
    exact e.symm
  have hus : us.length ≤ sizeLine := by
    rw [← Paired.length r1, sizeLine_eq]
    omega
  refine wpAny_call (PySem.HandSPX.call_own FB (fun Y => PySem.W.excTail_contains Y bm hbm) (I1.kIn _ _ hC) (PySem.W.looks_findIn I1.kIn iC) (fun self => PySem.W.bind_fn I1.kIn self tI) hus
    (codeAny_mono (F1.run _ X.stack _ _ ⟨Value.ref (hp.objs.size + 1) :: us, []⟩ (Value.ref (hp.objs.size + 1) :: (us ++ ds)) _ _ (fun _ _ _ => False) (hr.make C us []) (I2.env0.make C us []) (hb _ (Value.ref (hp.objs.size + 1) :: us) I2.kIn hl) r2 hq) fun r s' hq' => ?_))
  cases r with
  | error er => exact hx pins σ _ _ er s' I2 hq'
  | ok fl =>
    cases fl with
    | ret u =>
      obtain ⟨v, H2, os2, bare2, un2, hok2, rv, ev, d, fs, ea, ed, hd1, q2⟩ := hq'
      subst ev
      obtain ⟨h2, g2, d2, t2, os'⟩ := s'
      exact ⟨rv, mk_end (raises_own T.exC T.tyC) I1 hsz kk un2 hok2 os2 bare2 ea ed hd1 q2⟩
    | next => exact False.elim hq'
    | brk => exact False.elim hq'
    | cont => exact False.elim hq'
end
/-- what a B.__init__ + one field of its own promises: E(v) with field f -/
def spErr (newId : String) (bmB : List Value) (K : PySem.W.Frag) (f : Str) : Sp := fun vs H Q _ => ∃ (a C : Addr) (v : V), vs = [.ref a, v] ∧ OexB newId bmB K C ∧ PySem.W.findIn K (.ref C) f = some none ∧ H a = some (exo a C none) ∧
  ∀ dx, H dx = none → dx ≠ a → Q .non (upd (upd H dx (exd dx [(f, v)])) a (exo a C (some dx)))
abbrev zdT : List Value := [.type "ZeroDivisionError", .type "ArithmeticError", .type "Exception", .type "BaseException", .type "object"]
abbrev ixT : List Value := [.type "IndexError", .type "LookupError", .type "Exception", .type "BaseException", .type "object"]
abbrev luT : List Value := [.type "LookupError", .type "Exception", .type "BaseException", .type "object"]
theorem typ_ZD : typeOf (.type "ZeroDivisionError") = pure (.type "type") := by kernel_rfl
theorem typ_IX : typeOf (.type "IndexError") = pure (.type "type") := by kernel_rfl
theorem typ_LU : typeOf (.type "LookupError") = pure (.type "type") := by kernel_rfl
end KA
namespace KA
open PySem PySem.Spec PyProof.Rows L2
section
variable {X : Cx} {n : Nat}
/-- x == y (or another comparison), x an instance of the class at C whose own def keeps sp, y of any kind -/
def rOwn (K : PySem.W.Frag) (C : Addr) (sp : Sp) (E : XK) : R2 := fun x y H Q => ∃ (a dx : Addr) (fs : List (Str × V)) (t : Value), x = .ref a ∧ H a = some (.ins C dx fs) ∧ TyX K H y t ∧ PySem.W.notFirst K C t = true ∧ sp [.ref a, y] H (fun v H' => (∃ b, v = .bl b) ∧ Q v H') E
theorem op_own {op : CmpOp} {CX : CXT} {C f : Addr} {fd : FuncData} {ps : List Str} {sp : Sp} {E : XK} (F : FnOk X.prog X.w X.K X.mg X.base CX n f fd ps sp)
    (hs : PySem.W.findIn X.K (.ref C) (cmpInfo op).2.1 = some (some (.ref f))) (hf : PySem.W.isFn X.K (.ref f) = true) (hb : Binds X.K fd ps []) (hx : Passes CX X E) (hr : Room n X.A) (ho : compareOp op = richCompare op := by rfl) : OpR X (compareOp op) (rOwn X.K C sp E) := by
  intro pins s σ H x y u v Q I rx ry d
  obtain ⟨a, dx, fs, t, rfl, ha, ty, hn, hsp⟩ := d
  cases rx
  obtain ⟨mA, J, _⟩ := ins_get I.hok ha
  obtain ⟨od, J, _⟩ := J.look
  obtain ⟨Pz, Z, p, _⟩ := kit_of I ry ty
  obtain ⟨m, hF⟩ := I.fr
  rw [ho]
  refine PySem.W.cmp_K (op := op) (tb := t) hr.units0 hF I.ok.mod.kin J (Z.ty _ _ I.kIn p) hn hs hf ?_
  have hl := F.len _ _ _ _ hsp
  have r2 : Vals [V.ref a, y] [Value.ref a, v] := .cons rfl (.cons ry .nil)
  refine wpAny_call (codeAny_mono (F.run X.A X.stack s H ⟨[.ref a, v], []⟩ [.ref a, v] [.ref a, y] _ E hr I.env0 (by
    have := hb s [.ref a, v] I.kIn (by simpa using hl)
    simpa using this) r2 hsp) fun r s' hq => ?_)
  cases r with
  | error e => exact hx pins σ H s e s' I hq
  | ok fl =>
    cases fl with
    | ret w =>
      obtain ⟨z, H', I', rz, ⟨b, ez⟩, q⟩ := I.after hq
      subst ez
      cases rz
      exact ⟨.bl b, H', I', rfl, q⟩
    | next => exact False.elim hq
    | brk => exact False.elim hq
    | cont => exact False.elim hq
end
end KA
namespace KA
open PySem PySem.Spec PySem.W PyProof.Rows
section
variable {prog : Program} {w : World} {A : Around} {E : Value → Shared → Prop} {s : Shared} {K : Frag} {x C f : Addr} {ox : Obj} {od : Option Obj}
theorem repr_K {Q : Value → Shared → Prop} (hu : A.in1.units < cLine) (X : K.In s.heap) (I : InstAt s.heap x ox C od) (hs : findIn K (.ref C) "__repr__" = some (some (.ref f))) (hf : isFn K (.ref f) = true)
    (hcall : wpAny (model prog w) A.in1 (call (.ref f) [.ref x]) (fun r s' => ∃ m tk, r = .str m tk ∧ Q (.str m tk) s') E s) :
    wpAny (model prog w) A (call (.builtin "repr") [.ref x]) Q E s := by
  refine Calls.call_function_entry F.kind_repr F.plain_repr F.entry_repr (F.args_repr1 _) ?_
  unfold Builtin.«repr»
  refine wpAny_bind (m := oneArg "repr" _) (wpAny_pure ?_)
  refine wpAny_bind (wpAny_cRoomFor hu ?_)
  refine wpAny_bind (wpAny_bind (I.type.here ((looks_findIn X hs).here ?_)))
  show wpAny _ _ (if (some (Value.ref f)).isNone = true then _ else _) _ _ _
  rw [if_neg (by simp)]
  refine wpAny_bind (m := callSpecialIfBound? (.ref x) (Str.ofString "__repr__") _) (ifBound_K X I hs hf (wpAny_mono hcall (fun r s' hr => ?_) fun _ _ y => y))
  obtain ⟨m, tk, rfl, hq⟩ := hr
  refine wpAny_bind (wpAny_isInstance (typeIs_str _ _ _) isSubtype_str_str ?_)
  first
    | exact wpAny_pure ⟨_, rfl, hq⟩
    | (rw [if_pos rfl]; exact wpAny_pure ⟨_, rfl, hq⟩)
    | (simp only [if_true]; exact wpAny_pure ⟨_, rfl, hq⟩)
end
end KA
namespace KA
open PySem PySem.Spec PyProof.Rows L2
section
variable {X : Cx} {n : Nat} {CX : CXT} {C f : Addr} {fd : FuncData} {ps : List Str} {sp : Sp} {E : XK}
/-- repr(x), str(x): x an instance of the class at C, whose own def keeps sp -/
def rShow (C : Addr) (sp : Sp) (E : XK) : List V → Hp → VK → Prop := fun xs H Q => ∃ (a dx : Addr) (fs : List (Str × V)), xs = [.ref a] ∧ H a = some (.ins C dx fs) ∧ sp [.ref a] H (fun v H' => (∃ m, v = .str m) ∧ Q v H') E
theorem run_self {A : Around} {pins : List (Addr × Obj)} {σ : L2.St} {H : Hp} {s : Shared} {a : Addr} {Q : VK} (F : FnOk X.prog X.w X.K X.mg X.base CX n f fd ps sp) (hb : Binds X.K fd ps []) (hx : Passes CX X E) (hr : Room n A) (hA : A.frames = X.A.frames) (I : L2.Inv X pins σ H s)
    (hsp : sp [.ref a] H (fun v H' => (∃ m, v = .str m) ∧ Q v H') E) : wpAny (model X.prog X.w) A (call (.ref f) [.ref a]) (fun r s' => ∃ m tk, r = .str m tk ∧ EP X pins σ Q (.str m tk) s') X.xe s := by
  have e0 : Env0 X.prog X.w X.K X.mg X.base A X.stack s H := by
    have e := I.env0
    exact ⟨by rw [hA]; exact e.frames, e.mod, e.bs, e.bsz, e.funs, e.frf, e.hok, e.bare⟩
  have hl := F.len _ _ _ _ hsp
  have r2 : Vals [V.ref a] [Value.ref a] := .cons rfl .nil
  refine wpAny_call (codeAny_mono (F.run A X.stack s H ⟨[.ref a], []⟩ [.ref a] [.ref a] _ E hr e0 (by
    have := hb s [.ref a] I.kIn (by simpa using hl)
    simpa using this) r2 hsp) fun r s' hq => ?_)
  cases r with
  | error e => exact hx pins σ H s e s' I hq
  | ok fl =>
    cases fl with
    | ret w =>
      obtain ⟨z, H', I', rz, ⟨m, ez⟩, q⟩ := I.after hq
      subst ez
      obtain ⟨tk, rfl⟩ := (show ∃ t, w = Value.str m t from rz)
      exact ⟨m, tk, rfl, .str m, H', I', ⟨tk, rfl⟩, q⟩
    | next => exact False.elim hq
    | brk => exact False.elim hq
    | cont => exact False.elim hq
theorem call_reprO (F : FnOk X.prog X.w X.K X.mg X.base CX n f fd ps sp) (hs : PySem.W.findIn X.K (.ref C) "__repr__" = some (some (.ref f))) (hf : PySem.W.isFn X.K (.ref f) = true) (hb : Binds X.K fd ps []) (hx : Passes CX X E) (hr : Room (n + 1) X.A) :
    CallR X (.builtin "repr") (rShow C sp E) := by
  intro pins s σ H xs us Q I r h
  obtain ⟨a, dx, fs, rfl, ha, hsp⟩ := h
  obtain ⟨u, rfl, r1⟩ := vals1 r
  cases (show u = Value.ref a from r1)
  obtain ⟨mA, J, _⟩ := ins_get I.hok ha
  obtain ⟨od, J, _⟩ := J.look
  exact repr_K hr.in1.units0 I.kIn J hs hf (run_self F hb hx hr.in1 rfl I hsp)
theorem call_strO (F : FnOk X.prog X.w X.K X.mg X.base CX n f fd ps sp) (hs : PySem.W.findIn X.K (.ref C) "__str__" = some (some (.ref f))) (hf : PySem.W.isFn X.K (.ref f) = true) (hb : Binds X.K fd ps []) (hx : Passes CX X E) (hr : Room (n + 2) X.A) :
    CallR X (.type "str") (rShow C sp E) := by
  intro pins s σ H xs us Q I r h
  obtain ⟨a, dx, fs, rfl, ha, hsp⟩ := h
  obtain ⟨u, rfl, r1⟩ := vals1 r
  cases (show u = Value.ref a from r1)
  obtain ⟨mA, J, _⟩ := ins_get I.hok ha
  obtain ⟨od, J, _⟩ := J.look
  refine PySem.W.kso_call hr.in1.in1.units0 I.kIn J hs hf (wpAny_mono (run_self F hb hx hr.in1.in1 rfl I hsp) (fun r s' hr => ?_) fun _ _ y => y)
  obtain ⟨m, tk, rfl, q⟩ := hr
  exact q
/-- {x}: a text, an int, a truth -/
def tFmtB (te : TE) : TE := fun σ H Q => te σ H fun x H1 => (∃ y : Str, x = .str y ∧ y.length ≤ sizeLine ∧ Q (.str y) H1) ∨ (∃ i : Int, x = .int i ∧ i.natAbs.log2 < 1920 ∧ Q (.str (toString i)) H1) ∨ ∃ b : Bool, x = .bl b ∧ Q (.str (if b then "True" else "False")) H1
theorem pe_fmtB {e : Expr} {te : TE} {pos : Pos} (he : PE X e te) : PE X (.FormattedValue e (-1) none pos) (tFmtB te) := by
  refine ⟨fun pins s σ H Q I h => ?_⟩
  refine wpAny_FormattedValue_plain (thn (he.run pins s σ H _ I h) fun v s1 hv => ?_)
  obtain ⟨x, H1, I1, r1, q⟩ := hv
  rcases q with ⟨y, rfl, hz, q⟩ | ⟨i, rfl, hz, q⟩ | ⟨b, rfl, q⟩
  · obtain ⟨t, rfl⟩ := r1
    exact wpAny_formatField_str ⟨.str y, H1, I1, ⟨t, rfl⟩, q⟩ ⟨.str y, H1, I1.tok _, ⟨_, rfl⟩, q⟩ hz
  · obtain ⟨t, rfl⟩ := r1
    exact wpAny_formatField_int hz ⟨.str (toString i), H1, I1.tok _, ⟨_, rfl⟩, q⟩
  · cases (show v = Value.bool b from r1)
    exact wpAny_formatField_bool ⟨.str (if b then "True" else "False"), H1, I1.tok _, ⟨_, rfl⟩, q⟩
end
end KA
/-! repr of a list whose items show themselves by an own __repr__ -/
namespace KA
open PySem PySem.Spec PySem.W PyProof.Rows
section
variable {prog : Program} {w : World} {A : Around} {E : Value → Shared → Prop} {s : Shared} {K : Frag} {x C f : Addr} {ox : Obj} {od : Option Obj}
theorem boundBy_K {M : Model} {name : Str} {last : Value → List Value → Sem Value} {Q : Option Value → Shared → Prop} (inK : K.In s.heap) (I : InstAt s.heap x ox C od) (hs : findIn K (.ref C) name = some (some (.ref f))) (hf : isFn K (.ref f) = true)
    (h : wpAny M A (last (.ref f) [.ref x]) (fun v => Q (some v)) E s) : wpAny M A (callSpecialIfBoundBy? last (.ref x) name) Q E s := by
  simp only [callSpecialIfBoundBy?, bindSpecialIfBound?]
  refine wpAny_holding (wpAny_bind (wpAny_bind (wpAny_bind (I.type.here ((looks_findIn inK hs).here ?_)))))
  refine wpAny_bind (wpAny_askSetting (wpAny_ite ?_))
  have done : wpAny M A (last (.ref f) [.ref x] >>= fun v => pure (some v)) Q E s := wpAny_bind (wpAny_mono h (fun _ _ z => wpAny_pure z) fun _ _ z => z)
  split
  · exact wpAny_bind ((bind_fn inK _ (beq_iff_eq.mp hf)).here (wpAny_pure (by exact done)))
  · exact wpAny_tryCatch (wpAny_bind ((bind_fn inK _ (beq_iff_eq.mp hf)).here (wpAny_pure (by exact done))))
theorem under_K {b : Nat} {Q : Str → Shared → Prop} (hb : b ≤ sizeLine) (hu : A.units < cLine) (inK : K.In s.heap) (I : InstAt s.heap x ox C od) (hs : findIn K (.ref C) "__repr__" = some (some (.ref f))) (hf : isFn K (.ref f) = true)
    (h : wpAny (model prog w) A (call (.ref f) [.ref x]) (fun r t => ∃ m tk, r = .str m tk ∧ Q m t) E s) : wpAny (model prog w) A (pyReprUnder b (.ref x)) Q E s := by
  refine wpAny_pyReprUnder_ref hb ?_
  unfold pyReprObjUnder pyReprObjBy
  refine wpAny_bind (wpAny_cRoomFor hu ?_)
  refine wpAny_bind (wpAny_bind (I.type.here ((looks_findIn inK hs).here ?_)))
  show wpAny _ _ (if (some (Value.ref f)).isNone = true then _ else _) _ _ _
  rw [if_neg (by simp)]
  refine wpAny_bind (m := callSpecialIfBoundBy? _ (.ref x) (Str.ofString "__repr__")) (boundBy_K inK I hs hf ?_)
  refine wpAny_mono h (fun r t k => ?_) fun _ _ z => z
  obtain ⟨m, tk, rfl, q⟩ := k
  refine wpAny_bind (wpAny_isInstance (typeIs_str _ _ _) isSubtype_str_str ?_)
  exact wpAny_pure ⟨_, _, rfl, q⟩
end
end KA
namespace KA
open PySem PySem.Spec PyProof.Rows L2
section
variable {X : Cx} {n : Nat}
/-- x is shown as t, by what stands in H, whatever is made meanwhile -/
def Shows (X : Cx) (n : Nat) (x : V) (t : Str) (H : Hp) : Prop := ∀ (A : Around) (pins : List (Addr × Obj)) (σ : L2.St) (H1 : Hp) (s : Shared) (u : Value) (b : Nat) (Q : Str → Shared → Prop), Sub X n A → (∀ c o, H c = some o → H1 c = some o) → L2.Inv X pins σ H1 s → RelV x u → b + t.length ≤ sizeLine →
  (∀ s2 H2, L2.Inv X pins σ H2 s2 → (∀ c o, H1 c = some o → H2 c = some o) → Q t s2) → wpAny (model X.prog X.w) A (pyReprUnder b u) Q X.xe s
theorem shows_non {H : Hp} : Shows X n .non "None" H := fun A pins σ H1 s u b Q _ _ I ru hz fin => by
  cases (show u = Value.none from ru)
  exact ReprIs.none b hz A X.xe s Q fun tk => fin _ H1 (I.tok tk) fun _ _ z => z
theorem shows_own {CX : CXT} {C f p dx : Addr} {fd : FuncData} {ps : List Str} {sp : Sp} {E : XK} {fs : List (Str × V)} {t : Str} {H : Hp} (F : FnOk X.prog X.w X.K X.mg X.base CX n f fd ps sp) (hs : PySem.W.findIn X.K (.ref C) "__repr__" = some (some (.ref f))) (hf : PySem.W.isFn X.K (.ref f) = true) (hb : Binds X.K fd ps []) (hx : Passes CX X E)
    (hp : H p = some (.ins C dx fs)) (hsp : ∀ (H1 : Hp) (Q : VK), (∀ c o, H c = some o → H1 c = some o) → (∀ H2, (∀ c o, H1 c = some o → H2 c = some o) → Q (.str t) H2) → sp [.ref p] H1 Q E) : Shows X n (.ref p) t H := fun A pins σ H1 s u b Q sb s01 I ru hz fin => by
  cases (show u = Value.ref p from ru)
  obtain ⟨mA, J, _⟩ := ins_get I.hok (s01 _ _ hp)
  obtain ⟨od, J, _⟩ := J.look
  refine under_K (Nat.le_trans (Nat.le_add_right _ _) hz) sb.room.units0 I.kIn J hs hf (wpAny_mono (run_self (Q := fun v H2 => v = .str t ∧ ∀ c o, H1 c = some o → H2 c = some o) F hb hx sb.room sb.fr I (hsp H1 _ s01 fun H2 s12 => ⟨⟨t, rfl⟩, rfl, s12⟩)) (fun r s2 k => ?_) fun _ _ z => z)
  obtain ⟨m, tk, rfl, v, H2, I2, rv, ev, s12⟩ := k
  subst ev
  obtain ⟨tk2, e⟩ := (show ∃ y, Value.str m tk = Value.str t y from rv)
  cases e
  exact ⟨t, tk, rfl, fin s2 H2 I2 s12⟩
theorem sub_loop {A : Around} {args : Args} (sb : Sub X (n + 1) A) : Sub X n (A.under (.builtin "list.__repr__.loop" args)) := by
  have r := sb.room
  refine ⟨⟨?_, ?_, ?_⟩, ?_⟩
  · exact r.hd
  · have := r.dp
    have e : (A.under (.builtin "list.__repr__.loop" args)).depth = A.depth + 1 := by
      first | rfl | simp [Around.under, Code.weight, Code.isCreation, Code.isGuard, Code.isCaller, Code.frames, Code.isFrame, guardIds]
    rw [e]
    omega
  · have := r.un
    rw [units_under_list_loop]
    omega
  · exact sb.fr
theorem strs_of : ∀ {l : List Str} {us : List Value}, Vals (l.map V.str) us → ∃ d, us = strValues d ∧ d.map (·.1) = l
  | [], _, .nil => ⟨[], rfl, rfl⟩
  | x :: l, _, .cons h r => by
    obtain ⟨tk, rfl⟩ := (show ∃ t, _ = Value.str x t from h)
    obtain ⟨d, rfl, e⟩ := strs_of r
    exact ⟨(x, tk) :: d, rfl, by rw [List.map_cons, e]⟩
theorem repr_loopI {pins : List (Addr × Obj)} {σ : L2.St} {A : Around} {R : Result → Shared → Prop} {a P : Addr} {xs : List V} {ts : List Str} {H : Hp} {base : Nat} (sb : Sub X (n + 1) A) (fP : H P = none) (hlen : ts.length = xs.length) (hT : ∀ (i : Nat) x t, xs[i]? = some x → ts[i]? = some t → Shows X n x t H)
    (hsz : base + (listText ts).length ≤ sizeLine) (ha0 : H a = some (.lst xs)) (fin : ∀ s2 H2 u, L2.Inv X pins σ H2 s2 → (∀ c o, H c = some o → H2 c = some o) → R (.ok (.ret (.str (listText ts) u))) s2) (err : ∀ e s2, X.xe e s2 → R (.error e) s2) :
    ∀ (k i : Nat) (s : Shared) (H1 : Hp), ts.length - i = k → i ≤ ts.length → (∀ c o, H c = some o → H1 c = some o) → L2.Inv X pins σ H1 s → H1 P = some (.lst ((ts.take i).map V.str)) →
      codeAny (model X.prog X.w) A (.builtin "list.__repr__.loop" ⟨[.ref a, rawInt i, .ref P, rawInt ((base + piled (ts.take i) : Nat) : Int)], []⟩) R s := by
  have hp3 := piled_le_listText ts
  have big : ∀ t ∈ ts, t.length ≤ sizeLine := fun t ht => by
    have h2 := (textFrom_len ts 0 "[").2.1 t ht
    have e : (listText ts).length = (textFrom 0 "[" ts).length + 1 := by
      show (textFrom 0 "[" ts ++ "]").length = _
      rw [strLen_append]
      rfl
    omega
  intro k
  induction k with
  | zero =>
    intro i s H1 hk hi s01 I eP
    have hin : i = ts.length := by omega
    obtain ⟨its, m, r, e, _⟩ := I.lst (s01 _ _ ha0)
    obtain ⟨ps, m2, r2, e2, z2⟩ := I.lst eP
    refine codeAny_builtin F.entry_list_repr_loop ?_
    show wpAny _ _ (Builtin.«list.__repr__.loop» ⟨[.ref a, .int i 0, .ref P, .int ((base + piled (ts.take i) : Nat) : Int) 0], []⟩) _ _ s
    rw [repr_loop_tree]
    refine wpAny_bind (wpAny_listItems e rfl ?_)
    have no : its.toArray[(i : Int).toNat]? = none := by
      have := r.length
      simp
      omega
    simp only [no]
    unfold reprEnd
    refine wpAny_bind (wpAny_listItems e2 rfl ?_)
    obtain ⟨d, rfl, ed⟩ := strs_of r2
    rw [show (strValues d).toArray.toList = strValues d by simp, repr_fold]
    refine wpAny_bind (wpAny_pure ?_)
    rw [ed, hin, List.take_length]
    refine wpAny_bind (wpAny_mkStr (wpAny_pure ?_) (by show (listText ts).length ≤ sizeLine; omega))
    exact fin _ H1 _ (I.tok _) s01
  | succ k ih =>
    intro i s H1 hk hi s01 I eP
    have hlt : i < ts.length := by omega
    obtain ⟨t, ht⟩ : ∃ t, ts[i]? = some t := ⟨_, List.getElem?_eq_getElem hlt⟩
    obtain ⟨x, hx⟩ : ∃ x, xs[i]? = some x := ⟨_, List.getElem?_eq_getElem (by omega)⟩
    obtain ⟨its, m, r, e, _⟩ := I.lst (s01 _ _ ha0)
    obtain ⟨u, hu, ru⟩ := r.get hx
    have hp1 := piled_take_succ ht
    have hp2 := piled_take_le ts (i + 1)
    refine codeAny_builtin F.entry_list_repr_loop ?_
    show wpAny _ _ (Builtin.«list.__repr__.loop» ⟨[.ref a, .int i 0, .ref P, .int ((base + piled (ts.take i) : Nat) : Int) 0], []⟩) _ _ s
    rw [repr_loop_tree]
    refine wpAny_bind (wpAny_listItems e rfl ?_)
    have yes : its.toArray[(i : Int).toNat]? = some u := by simpa using hu
    simp only [yes]
    rw [Int.toNat_natCast]
    refine wpAny_bind (wpAny_holding (wpAny_mono (hT i x t hx ht _ pins σ H1 s u (base + piled (ts.take i) + 1) (fun r s2 => r = t ∧ ∃ H2, L2.Inv X pins σ H2 s2 ∧ ∀ c o, H1 c = some o → H2 c = some o) (sub_loop sb) s01 I ru (by omega) fun s2 H2 I2 s12 => ⟨rfl, H2, I2, s12⟩) (fun r s2 k2 => ?_) fun e s2 z => err e s2 z))
    obtain ⟨rfl, H2, I2, s12⟩ := k2
    refine wpAny_bind (wpAny_mkStr ?_ (big r (List.mem_of_getElem? ht)))
    refine wpAny_bind ?_
    show wpAny _ _ (updateSeq P _) _ _ _
    obtain ⟨ps, m2, r2, e2, z2⟩ := (I2.tok (s2.toks + 1)).lst (s12 _ _ eP)
    have small : ((ts.take i).map V.str).length ≤ i := by rw [List.length_map, List.length_take]; omega
    have few : i < sizeLine := by
      have h1 := (textFrom_len ts 0 "[").1
      rw [if_neg (Nat.lt_irrefl 0)] at h1
      have e : (listText ts).length = (textFrom 0 "[" ts).length + 1 := by
        show (textFrom 0 "[" ts ++ "]").length = _
        rw [strLen_append]
        rfl
      omega
    have hps : ps.length ≤ i := by rw [← r2.length]; exact small
    refine wpAny_updateSeq e2 rfl (wpAny_pure ⟨F.quiet_list_repr_loop _, ?_⟩) (by simp; omega) (by simp; omega)
    have n1 : ((i : Int) + 1) = ((i + 1 : Nat) : Int) := by omega
    have n2 : base + piled (ts.take i) + (r.length + 2) = base + piled (ts.take (i + 1)) := by omega
    rw [n1, n2]
    have I3 := (I2.tok (s2.toks + 1)).lstUpd (p := P) (ys := (ts.take (i + 1)).map V.str) (its' := ps ++ [.str r s2.toks]) (n' := m2 + 1) (f := Obj.mapSeq (·.push (.str r s2.toks))) (s12 _ _ eP) e2 (by simp [Obj.mapSeq]) (by
      rw [List.take_add_one, ht, List.map_append]
      exact r2.append (.cons ⟨_, rfl⟩ .nil)) (by rw [List.length_map, List.length_take]; omega) (s2.toks + 1)
    refine ih (i + 1) _ _ (by omega) hlt (fun c o z => ?_) I3 upd_same
    rw [upd_ne (fun y => by rw [y, fP] at z; cases z)]
    exact s12 _ _ (s01 _ _ z)
/-- list.__repr__, where nothing is being shown -/
theorem call_listI {pins : List (Addr × Obj)} {σ : L2.St} {A : Around} {Q : Value → Shared → Prop} {s : Shared} {H : Hp} {a : Addr} {xs : List V} {ts : List Str} (sb : Sub X (n + 3) A) (gd : A.guards = some []) (I : L2.Inv X pins σ H s) (ha : H a = some (.lst xs)) (hlen : ts.length = xs.length)
    (hT : ∀ (i : Nat) x t, xs[i]? = some x → ts[i]? = some t → Shows X n x t H) (hsz : (listText ts).length ≤ sizeLine) (fin : ∀ s2 H2 u, L2.Inv X pins σ H2 s2 → (∀ c o, H c = some o → H2 c = some o) → Q (.str (listText ts) u) s2) :
    wpAny (model X.prog X.w) A (call (.builtin "list.__repr__") [.ref a]) Q X.xe s := by
  obtain ⟨its, m, r, e, z⟩ := I.lst ha
  have ty : s.TypeIs (.ref a) "list" := ⟨_, e, rfl⟩
  refine wpAny_call (codeAny_call_builtin F.slot_list_repr.plain F.entry_list_repr (F.slot_list_repr.check _ _ _ _ _ _ _ _ ty (F.args_list_repr_1 _) ?_))
  cases its with
  | nil =>
    have e0 : xs = [] := List.length_eq_zero_iff.mp r.length
    have e1 : ts = [] := List.length_eq_zero_iff.mp (by rw [hlen, e0]; rfl)
    subst e1
    exact wpAny_list_repr_empty (b := 0) e rfl (fin _ H _ (I.tok _) fun _ _ z => z)
  | cons v vs =>
    refine wpAny_list_repr_head (A := A.in1) (b := 0) gd (fun _ _ _ z => nomatch z) e rfl ?_
    refine wpAny_bind (m := newList []) (wpAny_newObj_type ?_)
    refine wpAny_pure ⟨F.quiet_list_repr_loop _, ?_⟩
    have fP : H s.heap.objs.size = none := I.hok.fresh (Nat.le_refl _)
    have I3 : L2.Inv X pins σ (upd H s.heap.objs.size (.lst [])) { s with heap := s.heap.push { cls := .type "list", data := .seq ([] : List Value).toArray } } :=
      I.laid (t' := s.toks) (fun b o z => Heap.get?_push_of_some _ z) (Nat.le_refl _) ⟨Nat.zero_le _, [], 0, .nil, Heap.get?_push_size _ rfl⟩
    have up : ∀ c o, H c = some o → upd H s.heap.objs.size (.lst []) c = some o := fun c o z => by
      rw [upd_ne (fun y => by rw [y, fP] at z; cases z)]
      exact z
    exact repr_loopI (base := 0) (sb.mono (by omega)) fP hlen hT (by omega) ha (fun s2 H2 u I2 s12 => fin s2 H2 u I2 s12) (fun _ _ z => z) ts.length 0 _ _ rfl (Nat.zero_le _) up I3 upd_same
/-- repr of a list, where nothing is being shown -/
theorem repr_listI {pins : List (Addr × Obj)} {σ : L2.St} {A : Around} {Q : Value → Shared → Prop} {s : Shared} {H : Hp} {a : Addr} {xs : List V} {ts : List Str} (sb : Sub X (n + 3) A) (gd : A.guards = some []) (I : L2.Inv X pins σ H s) (ha : H a = some (.lst xs)) (hlen : ts.length = xs.length)
    (hT : ∀ (i : Nat) x t, xs[i]? = some x → ts[i]? = some t → Shows X n x t H) (hsz : (listText ts).length ≤ sizeLine) (fin : ∀ s2 H2 u, L2.Inv X pins σ H2 s2 → (∀ c o, H c = some o → H2 c = some o) → Q (.str (listText ts) u) s2) :
    wpAny (model X.prog X.w) A (pyReprObj (.ref a)) Q X.xe s := by
  obtain ⟨its, m, r, e, z⟩ := I.lst ha
  have ty : s.TypeIs (.ref a) "list" := ⟨_, e, rfl⟩
  unfold pyReprObj
  refine wpAny_bind (wpAny_cRoomFor (by have := sb.room.un; omega) ?_)
  refine wpAny_bind (wpAny_specialOf (name := Str.ofString "__repr__") ty F.slot_list_repr.lookup ?_)
  refine wpAny_bind (m := callSpecialIfBound? (.ref a) (Str.ofString "__repr__")) (wpAny_callSpecialIfBound?_slot (name := Str.ofString "__repr__") ty F.slot_list_repr (call_listI sb gd I ha hlen hT hsz fun s2 H2 u I2 s12 => ?_))
  exact wpAny_bind (wpAny_isInstance (T := "str") (b := true) rfl isSubtype_str_str (wpAny_pure (fin s2 H2 u I2 s12)))
end
end KA
/-! repr of a tuple that holds lists of own things, and data -/
namespace KA
open PySem PySem.Spec PyProof.Rows L2
section
variable {X : Cx} {n : Nat}
/-- x is shown as t, where nothing but t0 is being shown -/
def ShowsG (X : Cx) (n : Nat) (t0 : Addr) (x : V) (t : Str) (H : Hp) : Prop := ∀ (A : Around) (g : List Code) (pins : List (Addr × Obj)) (σ : L2.St) (H1 : Hp) (s : Shared) (u : Value) (b : Nat) (Q : Str → Shared → Prop), Sub X n A → A.guards = some g → (∀ c, c ≠ t0 → Clear g c) → (∀ c o, H c = some o → H1 c = some o) → L2.Inv X pins σ H1 s → RelV x u → b + t.length ≤ sizeLine →
  (∀ s2 H2, L2.Inv X pins σ H2 s2 → (∀ c o, H1 c = some o → H2 c = some o) → Q t s2) → wpAny (model X.prog X.w) A (pyReprUnder b u) Q X.xe s
theorem Shows.g {t0 : Addr} {x : V} {t : Str} {H : Hp} (h : Shows X n x t H) : ShowsG X n t0 x t H := fun A _ pins σ H1 s u b Q sb _ _ s01 I ru hz fin => h A pins σ H1 s u b Q sb s01 I ru hz fin
theorem shows_listG {H : Hp} {a t0 : Addr} {xs : List V} {ts : List Str} (ne : a ≠ t0) (ha : H a = some (.lst xs)) (hlen : ts.length = xs.length) (hT : ∀ (i : Nat) x t, xs[i]? = some x → ts[i]? = some t → Shows X n x t H) : ShowsG X (n + 3) t0 (.ref a) (listText ts) H := by
  intro A g pins σ H1 s u b Q sb gd hcl s01 I ru hz fin
  cases (show u = Value.ref a from ru)
  obtain ⟨its, m, r, e, z⟩ := I.lst (s01 _ _ ha)
  have ty : s.TypeIs (.ref a) "list" := ⟨_, e, rfl⟩
  have uu : A.units < cLine := sb.room.units0
  refine wpAny_pyReprUnder_ref (by omega) (wpAny_pyReprObjUnder_twin (twin := "list.__repr__.under") ty F.slot_list_repr.toG rfl uu ?_)
  refine call_twin_plain F.plain_list_repr_under F.entry_list_repr_under F.check_list_repr_under ty F.slot_list_repr.toG (F.args_list_repr_1 _) ?_
  have hTs : ∀ (i : Nat) x t, xs[i]? = some x → ts[i]? = some t → Shows X n x t H1 := fun i x t h1 h2 A pins σ H2 s u b Q sb s12 I ru hz fin => hT i x t h1 h2 A pins σ H2 s u b Q sb (fun c o k => s12 _ _ (s01 _ _ k)) I ru hz fin
  cases its with
  | nil =>
    have e0 : xs = [] := List.length_eq_zero_iff.mp r.length
    have e1 : ts = [] := List.length_eq_zero_iff.mp (by rw [hlen, e0]; rfl)
    subst e1
    exact wpAny_list_repr_empty (b := b) e rfl ⟨⟨_, _, rfl⟩, _, _, rfl, fin _ H1 (I.tok _) fun _ _ z => z⟩
  | cons v vs =>
    refine wpAny_list_repr_head (A := A.in1) (b := b) gd (fun v rest kw hm => listSameRef_of_ne (hcl a ne _ _ _ _ hm)) e rfl ?_
    refine wpAny_bind (m := newList []) (wpAny_newObj_type ?_)
    refine wpAny_pure ⟨F.quiet_list_repr_loop _, ?_⟩
    have fP : H1 s.heap.objs.size = none := I.hok.fresh (Nat.le_refl _)
    have I3 : L2.Inv X pins σ (upd H1 s.heap.objs.size (.lst [])) { s with heap := s.heap.push { cls := .type "list", data := .seq ([] : List Value).toArray } } :=
      I.laid (t' := s.toks) (fun b o z => Heap.get?_push_of_some _ z) (Nat.le_refl _) ⟨Nat.zero_le _, [], 0, .nil, Heap.get?_push_size _ rfl⟩
    have up : ∀ c o, H1 c = some o → upd H1 s.heap.objs.size (.lst []) c = some o := fun c o z => by
      rw [upd_ne (fun y => by rw [y, fP] at z; cases z)]
      exact z
    exact repr_loopI (base := b) (sb.mono (by omega)) fP hlen hTs hz (s01 _ _ ha) (fun s2 H2 u I2 s12 => ⟨⟨_, _, rfl⟩, _, _, rfl, fin s2 H2 I2 s12⟩) (fun _ _ z => z) ts.length 0 _ _ rfl (Nat.zero_le _) up I3 upd_same
theorem sub_tup {A : Around} {args : Args} (sb : Sub X (n + 1) A) : Sub X n (A.under (.builtin "tuple.__repr__" args)) := by
  have r := sb.room
  refine ⟨⟨r.hd, ?_, ?_⟩, sb.fr⟩
  · have := r.dp
    have e : (A.under (.builtin "tuple.__repr__" args)).depth ≤ A.depth + 1 := by
      first
        | exact Nat.le_refl _
        | (show A.depth ≤ A.depth + 1; omega)
        | simp [Around.under, Code.weight, Code.isCreation, Code.isGuard, Code.isCaller, Code.frames, Code.isFrame, guardIds]
    omega
  · have := r.un
    rw [units_under_tuple_repr]
    omega
/-- the items of a tuple, one behind another -/
inductive ShowsAll (X : Cx) (n : Nat) (t0 : Addr) (H : Hp) : List V → List Str → Prop
  | nil : ShowsAll X n t0 H [] []
  | cons {x : V} {xs : List V} {t : Str} {ts : List Str} : ShowsG X n t0 x t H → ShowsAll X n t0 H xs ts → ShowsAll X n t0 H (x :: xs) (t :: ts)
theorem ShowsAll.len {t0 : Addr} {H : Hp} : ∀ {xs : List V} {ts : List Str}, ShowsAll X n t0 H xs ts → ts.length = xs.length
  | _, _, .nil => rfl
  | _, _, .cons _ r => by rw [List.length_cons, List.length_cons, r.len]
theorem tup_foldI {A : Around} {g : List Code} {pins : List (Addr × Obj)} {σ : L2.St} {t0 : Addr} {H : Hp} (sb : Sub X n A) (gd : A.guards = some g) (hcl : ∀ c, c ≠ t0 → Clear g c) {xs : List V} {ts : List Str} (all : ShowsAll X n t0 H xs ts) : ∀ (us : List Value) (acc : Array Str) (k : Nat) (s : Shared) (H1 : Hp) (Q : (Array Str × Nat) → Shared → Prop),
    Vals xs us → k + piled ts ≤ sizeLine → (∀ c o, H c = some o → H1 c = some o) → L2.Inv X pins σ H1 s → (∀ s2 H2, L2.Inv X pins σ H2 s2 → (∀ c o, H1 c = some o → H2 c = some o) → Q ⟨acc ++ ts.toArray, k + piled ts⟩ s2) →
      wpAny (model X.prog X.w) A (forIn us (⟨acc, k⟩ : (Array Str × Nat)) tupBody) Q X.xe s := by
  induction all with
  | nil =>
    intro us acc k s H1 Q vl _ _ I fin
    cases vl
    simp only [List.forIn_nil]
    exact wpAny_pure (by simpa [piled] using fin s H1 I fun _ _ z => z)
  | @cons x xs t ts hx _ ih =>
    intro us acc k s H1 Q vl hk s01 I fin
    cases vl with
    | cons rx rr =>
      rename_i u us
      rw [piled_cons] at hk
      rw [List.forIn_cons]
      refine wpAny_bind (wpAny_bind (wpAny_mono (hx A g pins σ H1 s u (k + 1) (fun r s2 => r = t ∧ ∃ H2, L2.Inv X pins σ H2 s2 ∧ ∀ c o, H1 c = some o → H2 c = some o) sb gd hcl s01 I rx (by omega) fun s2 H2 I2 s12 => ⟨rfl, H2, I2, s12⟩) (fun r s2 k2 => ?_) fun _ _ z => z))
      obtain ⟨rfl, H2, I2, s12⟩ := k2
      refine wpAny_pure ?_
      refine ih us (acc.push r) (k + (r.length + 2)) s2 H2 Q rr (by omega) (fun c o z => s12 _ _ (s01 _ _ z)) I2 fun s3 H3 I3 s23 => ?_
      have h1 := fin s3 H3 I3 fun c o z => s23 _ _ (s12 _ _ z)
      rw [show k + piled (r :: ts) = k + (r.length + 2) + piled ts by rw [piled_cons]; omega] at h1
      simpa using h1
/-- tuple.__repr__, where nothing is being shown -/
theorem call_tupI {pins : List (Addr × Obj)} {σ : L2.St} {A : Around} {Q : Value → Shared → Prop} {s : Shared} {H : Hp} {a : Addr} {xs : List V} {ts : List Str} (sb : Sub X (n + 1) A) (gd : A.guards = some []) (I : L2.Inv X pins σ H s) (ha : H a = some (.tup xs)) (all : ShowsAll X n a H xs ts)
    (hsz : (tupleText ts).length ≤ sizeLine) (fin : ∀ s2 H2 u, L2.Inv X pins σ H2 s2 → (∀ c o, H c = some o → H2 c = some o) → Q (.str (tupleText ts) u) s2) : wpAny (model X.prog X.w) A (call (.builtin "tuple.__repr__") [.ref a]) Q X.xe s := by
  obtain ⟨z, its, r, o, e, cl, m, hd⟩ := I.hok a _ ha
  have ty : s.TypeIs (.ref a) "tuple" := ⟨o, e, cl⟩
  have hlen : ts.length = its.toArray.size := by rw [all.len, r.length]; simp
  have hp := piled_le_tupleText ts
  refine wpAny_call (codeAny_call_builtin_own (Code.quiet_builtin _ (by decide +kernel)) F.entry_tuple_repr (F.slot_tuple_repr.check _ _ _ _ _ _ _ _ ty (F.args_tuple_repr_1 _) ?_))
  show wpOwn _ _ _ (Builtin.tupleReprAt 0 ⟨[.ref a], []⟩) _ _ s
  rw [tuple_repr_tree, tupleReprUnderWay_eq]
  refine wpOwn_bind (wpOwn_stackTailAny gd (tupGuardF_off _) (tupGuardF_pos _) ?_)
  refine wpOwn_of_wpAny ?_
  show wpAny _ _ (tupleReprRest 0 (.ref a)) _ _ s
  unfold tupleReprRest Builtin.Tuple.tupleItemsOf
  refine wpAny_bind (wpAny_bind (wpAny_seqItems e hd (wpAny_pure ?_)))
  rw [← Array.forIn_toList]
  refine wpAny_bind (wpAny_mono (tup_foldI (pins := pins) (σ := σ) (sub_tup sb) (guards_under_guard (isGuard_tuple_repr _) gd) (fun b hb => (Clear.nil b).cons (a := a) (Ne.symm hb)) all its.toArray.toList _ _ s H (fun q s2 => q = ⟨ts.toArray, 0 + piled ts⟩ ∧ ∃ H2, L2.Inv X pins σ H2 s2 ∧ ∀ c o, H c = some o → H2 c = some o) (by simpa using r) (by omega) (fun _ _ z => z) I fun s2 H2 I2 s12 => ⟨by simp, H2, I2, s12⟩) (fun q s2 k2 => ?_) fun _ _ z => z)
  obtain ⟨rfl, H2, I2, s12⟩ := k2
  refine wpAny_bind (wpAny_mkStr (wpAny_pure ?_) (by simpa [tupleText, hlen] using hsz))
  have h1 := fin _ H2 s2.toks (I2.tok (s2.toks + 1)) s12
  simpa [tupleText, hlen] using h1
def rReprT (X : Cx) (n : Nat) : List V → Hp → VK → Prop := fun vs H Q => ∃ (a : Addr) (xs : List V) (ts : List Str), vs = [.ref a] ∧ H a = some (.tup xs) ∧ ShowsAll X n a H xs ts ∧ (tupleText ts).length ≤ sizeLine ∧ ∀ H2, (∀ c o, H c = some o → H2 c = some o) → Q (.str (tupleText ts)) H2
theorem call_reprT (gd : X.A.guards = some []) (hr : Room (n + 2) X.A) : CallR X (.builtin "repr") (rReprT X n) := by
  intro pins s σ H vs us Q I r h
  obtain ⟨a, xs, ts, rfl, ha, all, hsz, q⟩ := h
  obtain rfl := Vals.ref1 r
  refine Calls.call_function_entry F.kind_repr F.plain_repr F.entry_repr (F.args_repr1 _) ?_
  unfold Builtin.«repr»
  refine wpAny_bind (m := oneArg "repr" _) (wpAny_pure ?_)
  have sb : Sub X (n + 1) X.A.in1 := ⟨hr.in1, rfl⟩
  obtain ⟨z, its, rr, o, e, cl, m, hd⟩ := I.hok a _ ha
  have ty : s.TypeIs (.ref a) "tuple" := ⟨o, e, cl⟩
  refine wpAny_bind (wpAny_cRoomFor sb.room.units0 ?_)
  refine wpAny_bind (wpAny_specialOf (name := Str.ofString "__repr__") ty F.slot_tuple_repr.lookup ?_)
  refine wpAny_bind (m := callSpecialIfBound? (.ref a) (Str.ofString "__repr__")) (wpAny_callSpecialIfBound?_slotG (name := Str.ofString "__repr__") ty F.slot_tuple_repr (call_tupI sb gd I ha all hsz fun s2 H2 u I2 s12 => ?_))
  exact wpAny_bind (wpAny_isInstance (T := "str") (b := true) rfl isSubtype_str_str (wpAny_pure ⟨_, rfl, .str (tupleText ts), H2, I2, ⟨u, rfl⟩, q H2 s12⟩))
def rReprLst (X : Cx) (n : Nat) : List V → Hp → VK → Prop := fun vs H Q => ∃ (a : Addr) (xs : List V) (ts : List Str), vs = [.ref a] ∧ H a = some (.lst xs) ∧ ts.length = xs.length ∧ (∀ (i : Nat) x t, xs[i]? = some x → ts[i]? = some t → Shows X n x t H) ∧ (listText ts).length ≤ sizeLine ∧ ∀ H2, (∀ c o, H c = some o → H2 c = some o) → Q (.str (listText ts)) H2
theorem call_reprLst (gd : X.A.guards = some []) (hr : Room (n + 4) X.A) : CallR X (.builtin "repr") (rReprLst X n) := by
  intro pins s σ H vs us Q I r h
  obtain ⟨a, xs, ts, rfl, ha, hlen, hT, hsz, q⟩ := h
  obtain rfl := Vals.ref1 r
  refine Calls.call_function_entry F.kind_repr F.plain_repr F.entry_repr (F.args_repr1 _) ?_
  unfold Builtin.«repr»
  refine wpAny_bind (m := oneArg "repr" _) (wpAny_pure ?_)
  have sb : Sub X (n + 3) X.A.in1 := ⟨hr.in1, rfl⟩
  obtain ⟨its, m, rr, e, z⟩ := I.lst ha
  have ty : s.TypeIs (.ref a) "list" := ⟨_, e, rfl⟩
  refine wpAny_bind (wpAny_cRoomFor sb.room.units0 ?_)
  refine wpAny_bind (wpAny_specialOf (name := Str.ofString "__repr__") ty F.slot_list_repr.lookup ?_)
  refine wpAny_bind (m := callSpecialIfBound? (.ref a) (Str.ofString "__repr__")) (wpAny_callSpecialIfBound?_slot (name := Str.ofString "__repr__") ty F.slot_list_repr (call_listI sb gd I ha hlen hT hsz fun s2 H2 u I2 s12 => ?_))
  exact wpAny_bind (wpAny_isInstance (T := "str") (b := true) rfl isSubtype_str_str (wpAny_pure ⟨_, rfl, .str (listText ts), H2, I2, ⟨u, rfl⟩, q H2 s12⟩))
/-- {x!r}, x a list -/
def tFmtRL (X : Cx) (n : Nat) (te : TE) : TE := fun σ H Q => te σ H fun x H1 => rReprLst X n [x] H1 Q
theorem pe_fmtRL {e : Expr} {te : TE} {pos : Pos} (gd : X.A.guards = some []) (hr : Room (n + 3) X.A) (he : PE X e te) : PE X (.FormattedValue e 114 none pos) (tFmtRL X n te) := by
  refine ⟨fun pins s σ H Q I h => ?_⟩
  refine wpAny_FormattedValue_repr (thn (he.run pins s σ H _ I h) fun v s1 ⟨x, H1, I1, r1, k⟩ => ?_)
  obtain ⟨a, xs, ts, ex, ha, hlen, hT, hsz, q⟩ := k
  cases ex
  cases (show v = Value.ref a from r1)
  refine repr_listI ⟨hr, rfl⟩ gd I1 ha hlen hT hsz fun s2 H2 u I2 s12 => ?_
  exact wpAny_formatField_str ⟨.str (listText ts), H2, I2, ⟨_, rfl⟩, q H2 s12⟩ ⟨.str (listText ts), H2, I2.tok _, ⟨_, rfl⟩, q H2 s12⟩ hsz
/-- a dict whose keys are tuples of texts, its values ints -/
def keyText (ks : List Str) : Str := tupleText (ks.map reprText)
def entText (p : List Str × Int) : Str := keyText p.1 ++ ": " ++ Str.ofString (toString p.2)
def dictV (kvs : List (List Str × Int)) : List (List Key × V) := kvs.map fun p => (p.1.map Sum.inr, V.int p.2)
theorem reprAll_strs {as : List Addr} {h0 : Heap} {d : Nat} : ∀ {ks : List Str} {us : List Value}, Vals (ks.map V.str) us → (∀ k ∈ ks, (reprText k).length ≤ sizeLine) → ReprAllK X.prog X.w as h0 d us (ks.map reprText)
  | [], _, .nil, _ => .nil
  | k :: ks, _, .cons h r, hz => by
    obtain ⟨tk, rfl⟩ := (show ∃ t, _ = Value.str k t from h)
    exact .cons (.of_is (ReprIs.str k tk (hz k (List.mem_cons_self ..))) _ _ _) (reprAll_strs r fun y hy => hz y (List.mem_cons_of_mem _ hy))
theorem keys_strs (ks : List Str) : (ks.map (Sum.inr : Str → Key)).map kV = ks.map V.str := by
  rw [List.map_map]
  rfl
theorem entries_dT {pins : List (Addr × Obj)} {σ : L2.St} {H1 : Hp} {s : Shared} (I : L2.Inv X pins σ H1 s) (as : List Addr) {P : Program} {w : World} : ∀ {kvs : List (List Str × Int)} {xs : List (List Key × Addr × Value)}, (∀ q ∈ xs, q.2.1 ∈ as) → (∀ p ∈ kvs, (∀ k ∈ p.1, (reprText k).length ≤ sizeLine) ∧ p.2.natAbs.log2 < 1920) →
    Paired (fun (p : List Key × V) (q : List Key × Addr × Value) => p.1 = q.1 ∧ H1 q.2.1 = some (.tup (p.1.map kV)) ∧ RelV p.2 q.2.2) (dictV kvs) xs → ReprEntriesK X.prog X.w as s.heap 1 (xs.map (entryOfKey (tupleKind (mixKind P w)))) (kvs.map entText)
  | [], _, _, _, .nil => .nil
  | (ks, i) :: kvs, _, hin, hk, .cons h r => by
    rename_i q xs
    obtain ⟨h1, h2, h3⟩ := h
    have h2 : H1 q.2.1 = some (.tup (ks.map V.str)) := by
      rw [← keys_strs ks]
      exact h2
    obtain ⟨tk, h3⟩ := (show ∃ t, q.2.2 = Value.int i t from h3)
    obtain ⟨k1, k2⟩ := hk (ks, i) (List.mem_cons_self ..)
    obtain ⟨_, its, rv, ok, e, cl, m, hd⟩ := I.hok _ _ h2
    have key : ReprK X.prog X.w [q.2.1] s.heap 1 (.ref q.2.1) (keyText ks) := ReprK.tuple (as := []) e cl hd (by simp) (by simpa using reprAll_strs rv k1)
    refine .cons (key.more fun b hb => ?_) ?_ (entries_dT I as (fun q hq => hin q (List.mem_cons_of_mem _ hq)) (fun p hp => hk p (List.mem_cons_of_mem _ hp)) r)
    · rw [List.mem_singleton.mp hb]
      exact hin q (List.mem_cons_self ..)
    · show ReprK X.prog X.w as s.heap 1 q.2.2 _
      rw [h3]
      exact .of_is (ReprIs.int tk k2) _ _ _
theorem shows_dT {H : Hp} {a t0 : Addr} {xs0 : List V} {kvs : List (List Str × Int)} (ht0 : H t0 = some (.tup xs0)) (hx0 : ∀ ks : List Str, xs0 ≠ ks.map V.str) (ha : H a = some (.dT (dictV kvs))) (hk : ∀ p ∈ kvs, (∀ k ∈ p.1, (reprText k).length ≤ sizeLine) ∧ p.2.natAbs.log2 < 1920) :
    ShowsG X n t0 (.ref a) (dictText (kvs.map entText)) H := by
  intro A g pins σ H1 s u b Q sb gd hcl s01 I ru hz fin
  cases (show u = Value.ref a from ru)
  have ha1 := s01 _ _ ha
  obtain ⟨_, hsys, xs, pr, o, es, ep, e, ex, hd, hes, _⟩ := I.hok a _ ha1
  have tup : ∀ c ∈ xs.map (·.2.1), ∃ ks : List Str, H1 c = some (.tup (ks.map V.str)) := by
    intro c hc
    obtain ⟨q, hq, rfl⟩ := List.mem_map.mp hc
    have : ∀ {l : List (List Str × Int)} {ys : List (List Key × Addr × Value)}, Paired (fun (p : List Key × V) (q : List Key × Addr × Value) => p.1 = q.1 ∧ H1 q.2.1 = some (.tup (p.1.map kV)) ∧ RelV p.2 q.2.2) (dictV l) ys → ∀ q ∈ ys, ∃ ks : List Str, H1 q.2.1 = some (.tup (ks.map V.str)) := by
      intro l
      induction l with
      | nil =>
        intro ys h q hq
        cases h
        cases hq
      | cons p l ih =>
        intro ys h q hq
        cases h with
        | cons h r =>
          rcases List.mem_cons.mp hq with rfl | hq
          · exact ⟨p.1, by rw [← keys_strs]; exact h.2.1⟩
          · exact ih r q hq
    exact this pr q hq
  have ent := entries_dT (P := X.prog) (w := X.w) I (xs.map (·.2.1)) (fun q hq => List.mem_map.mpr ⟨q, hq, rfl⟩) hk pr
  rw [← hes] at ent
  have na : a ∉ xs.map (·.2.1) := fun z => by
    obtain ⟨ks, k⟩ := tup a z
    rw [ha1] at k
    cases k
  have all := ReprK.dict (prog := X.prog) (w := X.w) e ex.1 hd hsys na ent
  refine all b hz A g X.xe s Q gd (fun c hc => hcl c fun z => ?_) (by have := sb.room.un; omega) (fun _ _ z => z) fun h' tk kp => fin _ H1 (I.kept kp) fun _ _ z => z
  have t1 := s01 _ _ ht0
  rcases List.mem_cons.mp hc with hc | hc
  · rw [← z, hc, ha1] at t1
    cases t1
  · obtain ⟨ks, k⟩ := tup c hc
    rw [z, t1] at k
    cases k
    exact hx0 ks rfl
end
end KA
namespace KA
open PySem PySem.Spec PyProof.Rows L2
/-! defs that are called where nothing is being shown (no guard stands): within them lists and tuples are shown in full -/
structure FnG (P : Program) (w : World) (K : PySem.W.Frag) (mg : Str → Option Value) (base : Heap) (CX : CXT) (k : Nat) (f : Addr) (fd : FuncData) (ps : List Str) (sp : Sp) : Prop where
  ln : ∀ vs H Q E, sp vs H Q E → vs.length = ps.length
  go : ∀ (A : Around) (st : List Env) (s : Shared) (H : Hp) (gs : Args) (us : List Value) (vs : List V) (Q : VK) (E : XK), Room k A → A.guards = some [] → Env0 P w K mg base A st s H → BindsTo s fd gs (ps.zip us) → Vals vs us → sp vs H Q E →
    codeAny (model P w) A (.call (.ref f) gs) (CR CX st P w H s Q E) s
section
variable {P : Program} {w : World} {K : PySem.W.Frag} {mg : Str → Option Value} {base : Heap} {CX : CXT} {k : Nat} {f : Addr} {fd : FuncData} {ps : List Str} {sp : Sp}
theorem fng_any (F : FnOk P w K mg base CX k f fd ps sp) : FnG P w K mg base CX k f fd ps sp := ⟨F.len, fun A st s H gs us vs Q E rm _ en bd vl hs => F.run A st s H gs us vs Q E rm en bd vl hs⟩
theorem FnG.mono {j : Nat} (F : FnG P w K mg base CX j f fd ps sp) (h : j ≤ k) : FnG P w K mg base CX k f fd ps sp := ⟨F.ln, fun A st s H gs us vs Q E rm => F.go A st s H gs us vs Q E (rm.mono h)⟩
/-- a def by its body, where no guard stands -/
theorem fng_of {name qual : Str} {params : Arguments} {body : List Stmt} {scope : Scope} {dV kV doc pm cdv ct oc : Value} {an od : Option Addr} {osl : Array (Option Value)} {N : List Str}
    (at_ : K.lookup f = some ⟨oc, od, .func (PySem.W.fnOf name qual params body scope dV kV doc pm an cdv ct), osl⟩) (cd : PySem.W.codeIn K cdv qual = true) (sc : FnScope N ps scope) (ln : ∀ vs H Q E, sp vs H Q E → vs.length = ps.length)
    (bd : ∀ (A : Around) (st : List Env) (s : Shared) (H : Hp) (vs : List V) (Q : VK) (E : XK), Room k (A.deeper (envOfC qual scope s.heap.objs.size f cdv)) → (A.deeper (envOfC qual scope s.heap.objs.size f cdv)).guards = some [] → sp vs H Q E →
      ∃ t, PSs (cxOf CX P w K mg base N qual scope f cdv A st s H E) body t ∧ t { nx := fun _ G => Q .non G, rt := Q } (L2.start N vs) H) :
    FnG P w K mg base CX (k + 1) f (PySem.W.fnOf name qual params body scope dV kV doc pm an cdv ct) ps sp := by
  refine ⟨ln, fun A st s H gs us vs Q E rm gd en bi vl hs => ?_⟩
  have inK : K.In s.heap := en.mod.kin.keeps fun b o z => (en.bs b o z).1
  have noL : s.heap.NoLimit := en.mod.nolimit.keeps fun b o z => (en.bs b o z).1
  have kd : ∀ y ∈ ps.zip us, scope.names.lookup y.1 = some .local ∨ (scope.names.lookup y.1 = some .cell ∧ ((cellsFrom (s.heap.objs.size + 1) scope.names []).lookup y.1).isSome = true) := by
    rintro ⟨n, v⟩ hy
    exact (sc.par n (List.of_mem_zip hy).1).imp id fun z => ⟨z, PySem.W.cellsFrom_some _ _ _ (.inl z)⟩
  refine codeAny_call_function rm.depth (inK _ _ at_) rfl sc.co sc.gen rfl (PySem.W.codeRec_of inK cd) (bi _ _ _ _ (wpAny_newFunctionEnv_cells sc.kind kd ?_))
  rintro env rfl s1 x
  refine ⟨noL.keeps x.toInCall.keep, codeAny_func ?_⟩
  obtain ⟨t, pt, rd⟩ := bd A st s H vs Q E (rm.deeper _) gd hs
  refine wpAny_mono (pt.run [] s1 (L2.start N vs) H _ (inv_start sc rm.hd en (ln _ _ _ _ hs) vl x) rd) (fun fl s2 z => ?_) fun _ _ z => z
  cases fl with
  | ret u =>
    obtain ⟨v, σ2, G, J, rv, q⟩ := z
    exact ⟨v, G, J.os, J.bare, J.base, J.hok, rv, q⟩
  | next =>
    obtain ⟨σ2, G, J, q⟩ := z
    exact ⟨.non, G, J.os, J.bare, J.base, J.hok, rfl, q⟩
  | brk =>
    obtain ⟨_, _, _, q⟩ := z
    exact q.elim
  | cont =>
    obtain ⟨_, _, _, q⟩ := z
    exact q.elim
end
theorem fun_okG {P : Program} {w : World} {K : PySem.W.Frag} {mg : Str → Option Value} {base : Heap} {x qual : Str} {st : Stmt} {f : Addr} {fd : FuncData} {N ps : List Str} {k : Nat} {sp : Sp} (F : Fun K x qual st f fd) (sc : FnScope N ps (defScope st)) (ln : ∀ vs H Q E, sp vs H Q E → vs.length = ps.length)
    (bd : ∀ (cdv : Value) (A : Around) (outer : List Env) (s : Shared) (H : Hp) (vs : List V) (Q : VK) (E : XK), Room k (A.deeper (envOfC qual (defScope st) s.heap.objs.size f cdv)) → (A.deeper (envOfC qual (defScope st) s.heap.objs.size f cdv)).guards = some [] → sp vs H Q E →
      ∃ t, PSs (cxOf CX0 P w K mg base N qual (defScope st) f cdv A outer s H E).nox (defBody st) t ∧ t { nx := fun _ G => Q .non G, rt := Q } (L2.start N vs) H) : FnG P w K mg base CX0 (k + 1) f fd ps sp := by
  obtain ⟨oc, od, kV, doc, pm, an, cdv, ct, osl, rfl, lk, hcd⟩ := F.ex
  refine fng_of lk hcd sc ln fun A outer s H vs Q E rm gd hs => ?_
  obtain ⟨t, h, q⟩ := bd cdv A outer s H vs Q E rm gd hs
  exact ⟨t, h.nox, q⟩
section
variable {X : Cx} {CX : CXT} {k : Nat} {f C : Addr} {fd : FuncData} {ps : List Str} {ds : List Value} {dvs : List V} {sp : Sp} {E : XK} {x m : Str} {p pos apos : Pos} {e o : Expr} {es : List Expr} {t : TA} {ta : TE}
theorem run_G {pins : List (Addr × Obj)} {σ : L2.St} {H : Hp} {s : Shared} {Q : VK} {us : List Value} {vs : List V} (F : FnG X.prog X.w X.K X.mg X.base CX k f fd ps sp) (rm : Room k X.A) (gd : X.A.guards = some []) (hb : Binds X.K fd ps ds) (hd : Vals dvs ds) (hx : Passes CX X E)
    (I : Inv X pins σ H s) (r : Vals vs us) (h : sp (vs ++ dvs) H Q E) : wpAny (model X.prog X.w) X.A (call (.ref f) us) (EP X pins σ Q) X.xe s := by
  have all := r.append hd
  refine wpAny_call (codeAny_mono (F.go X.A X.stack s H ⟨us, []⟩ (us ++ ds) (vs ++ dvs) Q E rm gd I.env0 (hb s us I.kIn (all.length.symm.trans (F.ln _ _ _ _ h))) all h) fun r s2 z => ?_)
  match r, z with
  | .error er, z => exact hx pins σ H s er s2 I z
  | .ok (.ret u), z => exact I.after z
  | .ok .next, z => exact z.elim
  | .ok .brk, z => exact z.elim
  | .ok .cont, z => exact z.elim
theorem pe_callG (F : FnG X.prog X.w X.K X.mg X.base CX k f fd ps sp) (rm : Room k X.A) (gd : X.A.guards = some []) (hg : Gl X x) (hm : X.mg x = some (.ref f)) (hk : PySem.W.keepIn X.K (.ref f) = true) (hb : Binds X.K fd ps ds) (hd : Vals dvs ds) (hx : Passes CX X E)
    (ha : PA X (e :: es) t) (db : (x == ("__debug__" : Str)) = false := by decide) (he : starEach (e :: es) X.env = (false, eval e X.env) :: starEach es X.env := by rfl) (hpl : (backTo pos (starEach es X.env)).any (·.1) = false := by rfl) :
    PE X (.Call (.Name x p) (e :: es) [] pos) (tCall sp dvs E t) :=
  ⟨fun pins s σ H Q I h => wpAny_Call_Name_kw (ld_glob I hg hm (PySem.W.callWith_K (h₀ := X.base) I.ok.mod.kin hk (thn (ha.run pos pins s σ H _ I h) fun _ _ ⟨_, _, I1, r, q⟩ => ⟨I1.kIn, run_G F rm gd hb hd hx I1 r q⟩) he hpl) db)⟩
theorem pe_meth0G {pl : Sem Bool} (he : PE X o ta) (c : Cls X.K C) (hm : Meth X.K C m f) (F : FnG X.prog X.w X.K X.mg X.base CX k f fd ps sp) (rm : Room k X.A) (gd : X.A.guards = some []) (hb : Binds X.K fd ps ds) (hd : Vals dvs ds) (hx : Passes CX X E)
    (ht : eval (.Call (.Attribute o m apos) [] [] pos) X.env = (do
      let w ← eval o X.env
      standAt apos.atName
      let (g, fst) ← holding [w] (getMethod w m pl)
      callWith pos g fst (backTo pos (starEach [] X.env)) (backToKw pos (keywordEach [] X.env))) := by rfl) :
    PE X (.Call (.Attribute o m apos) [] [] pos) (tMeth C m sp dvs E ta tNil) := by
  constructor
  intro pins s σ H Q I h
  refine PySem.W.methodCall_KW (pl := pl) (thn (he.run pins s σ H _ I h) fun u s1 ⟨x, H1, I1, rx, a, dx, fs, ex, ea, lk, q⟩ => ?_) ht
  subst ex
  cases rx
  exact getmeth_ok I1 ea c hm lk (PySem.W.callWith_K0 (first := [.ref a]) I1.kIn hm.kp (run_G (us := [.ref a]) (vs := [.ref a]) F rm gd hb hd hx I1 (.cons rfl .nil) q))
end
/-! repr of data -/
section
variable {X : Cx}
def rReprD (K : PySem.W.Frag) : List V → Hp → VK → Prop := fun xs H Q => ∃ (a : Addr) (d : PyData), xs = [.ref a] ∧ Dp K H (.ref a) d ∧ PyData.showable d = true ∧ d.hasDict = false ∧ d.depth ≤ 32 ∧ d.shown.length ≤ sizeLine ∧ Q (.str d.shown) H
theorem call_reprD (gd : X.A.guards = some []) (hu : X.A.units + 64 < cLine) : CallR X (.builtin "repr") (rReprD X.K) := by
  intro pins s σ H xs us Q I r h
  obtain ⟨a, d, ex, hd, hs, hn, hde, hz, q⟩ := h
  subst ex
  cases r with
  | cons r1 r2 =>
    cases r2
    cases r1
    obtain ⟨as, rd⟩ := Dp.reads I d _ _ hd rfl
    exact repr_of_reads' rd hs (fun z => by rw [hn] at z; cases z) gd (by omega) (fun _ _ z => z) (fun g u tk kp => ⟨.str d.shown, H, I.kept (t' := tk) kp, ⟨u, rfl⟩, q⟩) hz
end
/-! the law itself: it is called where no guard stands -/
section
variable {P : Program} {w : World} {K : PySem.W.Frag} {mg mb : Str → Option Value} {CX : CXT} {k : Nat} {fa a : Addr} {fd : FuncData} {x : Str} {sp : Sp} {s1 : Shared} {vs : List Value} {ns : List Int}
/-- .. from a heap of which the script alone may be told -/
theorem law_from {H : Hp} (inK : K.In s1.heap) (gl : s1.heap.Ns mainGlobals mg) (bl : s1.heap.Ns builtinsNs mb) (bb : ∀ y : Str, y ≠ "__name__" → mb y = bootBuiltins y) (nolim : s1.heap.NoLimit) (nog : s1.gens = #[])
    (isl : ∀ b u, H b = some u → (∃ vs' n, ∀ o, s1.heap.get? b = some o → o.data = .seq vs' n) ∧ K.lookup b = none) (frz : ∀ b u, H b = some u → ∃ o ys, u = .frz o (.lst ys)) (rm : Room k callerA)
    (F : ∀ base : Heap, K.In base → base.Ns mainGlobals mg → FnG P w K mg base CX k fa fd [x] sp) (bi : ∀ (s : Shared) (u : Value), BindsTo s fd ⟨[u], []⟩ [(x, u)]) (ok : HOk P w H s1.heap)
    (pr : sp [.ref a] H (fun v _ => v = .bl true) fun _ _ _ => False) (nox : ∀ e s2, CX [] H s1 (fun _ _ _ => False) e s2 → False) :
    codeAny (model P w) callerA (.call (.ref fa) ⟨[.ref a], []⟩) (fun r s2 => r = .ok (.ret (.bool true)) ∧ OldK s1.heap s2.heap ∧ s2.os = s1.os ∧ AllBare s2.gens) s1 := by
  have sees : ∀ {b : Addr} {o : Obj}, s1.heap.get? b = some o → H b = none → (hidT s1.heap H).get? b = some o := fun z n => hidT_get z n
  have dicts : ∀ {b : Addr} {mm : Str → Option Value}, s1.heap.Ns b mm → (hidT s1.heap H).Ns b mm := by
    rintro b mm ⟨o, es, ep, z, dt, rest⟩
    refine ⟨o, es, ep, sees z ?_, dt, rest⟩
    cases hb : H b with
    | none => rfl
    | some u =>
      obtain ⟨⟨vs', n, is⟩, _⟩ := isl b u hb
      have := (is o z).symm.trans dt
      cases this
  have inB : K.In (hidT s1.heap H) := fun b o z => sees (inK b o z) (by
    cases hb : H b with
    | none => rfl
    | some u =>
      rw [(isl b u hb).2] at z
      cases z)
  have md : Mod K mg (hidT s1.heap H) := by
    obtain ⟨mc, n1, n2⟩ := nolim
    exact ⟨inB, dicts gl, ⟨mb, dicts bl, bb⟩, mc, dicts n1, n2⟩
  have en : Env0 P w K mg (hidT s1.heap H) callerA [] s1 H := ⟨rfl, md, fun b o z => of_hidT z, Nat.le_of_eq (hidT_size _ _), trivial, fun b z => (nomatch (show b ∈ ([] : List Addr) from z)), ok, .of_eq nog⟩
  refine codeAny_mono ((F _ inB (dicts gl)).go callerA [] s1 H ⟨[.ref a], []⟩ [.ref a] [.ref a] _ _ rm rfl en (bi s1 (.ref a)) (.cons rfl .nil) pr) fun r s2 z => ?_
  match r, z with
  | .error er, z => exact (nox er s2 z).elim
  | .ok .next, z => exact z.elim
  | .ok .brk, z => exact z.elim
  | .ok .cont, z => exact z.elim
  | .ok (.ret u), z =>
    obtain ⟨v, G, eos, bare, un, ok2, rel, ev⟩ := z
    have ev : v = .bl true := ev
    subst ev
    obtain rfl : u = Value.bool true := rel
    refine ⟨rfl, OldK.of_keep fun b o hb => ?_, eos, bare⟩
    cases hH : H b with
    | none => exact un.keep b o hb hH (fun z => (nomatch (show b ∈ ([] : List Addr) from z))) (by simp)
    | some u =>
      obtain ⟨ob, ys, rfl⟩ := frz b u hH
      have now := (ok2 b _ (un.frzs b ob _ hH)).1
      have was := (ok b _ hH).1
      exact (Option.some.inj (hb.symm.trans was)) ▸ now
theorem law_callG (inK : K.In s1.heap) (gl : s1.heap.Ns mainGlobals mg) (bl : s1.heap.Ns builtinsNs mb) (bb : ∀ y : Str, y ≠ "__name__" → mb y = bootBuiltins y) (nolim : s1.heap.NoLimit) (nog : s1.gens = #[])
    (ha : s1.heap.get? a = some { cls := .type "list", data := .seq vs.toArray }) (hi : IntsAre vs ns) (hl : ns.length ≤ sizeLine) (rm : Room k callerA)
    (F : ∀ base : Heap, K.In base → base.Ns mainGlobals mg → FnG P w K mg base CX k fa fd [x] sp) (bi : ∀ (s : Shared) (u : Value), BindsTo s fd ⟨[u], []⟩ [(x, u)])
    (pr : ∀ H : Hp, Only H → SqL K H a (ns.map V.int) → sp [.ref a] H (fun v _ => v = .bl true) fun _ _ _ => False) (nox : ∀ H e s2, CX [] H s1 (fun _ _ _ => False) e s2 → False) :
    codeAny (model P w) callerA (.call (.ref fa) ⟨[.ref a], []⟩) (fun r s2 => r = .ok (.ret (.bool true)) ∧ OldK s1.heap s2.heap ∧ s2.os = s1.os ∧ AllBare s2.gens) s1 := by
  have rel := vals_ints hi
  cases own : K.lookup a with
  | some o =>
    obtain rfl := Option.some.inj (ha.symm.trans (inK a o own))
    have no : ∀ {p : Prop} {u : HO}, (none : Option HO) = some u → p := fun z => nomatch z
    exact law_from (H := fun _ => none) inK gl bl bb nolim nog (fun b u z => no z) (fun b u z => no z) rm F bi (fun b u z => no z) (pr _ (fun _ => .inl rfl) (.inr ⟨_, vs.toArray, _, own, rfl, rfl, rfl, by rw [List.size_toArray, hi.length]; exact hl, by simpa using rel⟩)) (nox _)
  | none =>
    have one : ∀ {b : Addr} {u : HO}, (fun b => if b = a then some (.frz { cls := .type "list", data := .seq vs.toArray } (.lst (ns.map V.int))) else none : Hp) b = some u → b = a ∧ u = .frz { cls := .type "list", data := .seq vs.toArray } (.lst (ns.map V.int)) := fun {b u} z => by
      by_cases hb : b = a
      · exact ⟨hb, (Option.some.inj ((if_pos hb).symm.trans z)).symm⟩
      · exact nomatch (if_neg hb).symm.trans z
    refine law_from (H := fun b => if b = a then some (.frz { cls := .type "list", data := .seq vs.toArray } (.lst (ns.map V.int))) else none) inK gl bl bb nolim nog (fun b u z => ?_) (fun b u z => ⟨_, _, (one z).2⟩) rm F bi (fun b u z => ?_) (pr _ (fun b => ?_) (.inl (.inr ⟨_, if_pos rfl⟩))) (nox _)
    · obtain ⟨rfl, _⟩ := one z
      exact ⟨⟨_, _, fun o ho => by rw [← Option.some.inj (ha.symm.trans ho)]⟩, own⟩
    · obtain ⟨rfl, rfl⟩ := one z
      exact ⟨ha, by rw [List.length_map]; exact hl, vs, _, rel, ha⟩
    · by_cases hb : b = a
      · exact .inr ⟨_, _, if_pos hb⟩
      · exact .inl (if_neg hb)
end
theorem walk_G {l : PySem.W.OpenLaw} {n k : Nat} {q : Program} {loose : List Str} {XP : (Str → Option Value) → Heap → Prop} {YP : World → Heap → Prop} {d : DefRec} {K : Params → PySem.W.Frag} {CX : World → CXT} {sp : World → Sp} {x : Str}
    (hn : l.most = some n) (hn2 : n ≤ sizeLine) (hdf : d.params.defaults = []) (rm : Room k callerA) (hY : ∀ (w : World) (h : Heap), YP w h → (K w.params).In h)
    (F : ∀ (w : World) (mg : Str → Option Value) (fa : Addr) (h : Heap), (K w.params).In h → h.Ns mainGlobals mg → mg d.name = some (.ref fa) → ∃ fd : FuncData, (∀ (s : Shared) (u : Value), BindsTo s fd ⟨[u], []⟩ [(x, u)]) ∧ ∀ base : Heap, (K w.params).In base → base.Ns mainGlobals mg → FnG l.prog w (K w.params) mg base (CX w) k fa fd [x] (sp w))
    (pr : ∀ (w : World) (H : Hp) (a : Addr) (ns : List Int), ns.length ≤ n → Only H → SqL (K w.params) H a (ns.map V.int) → sp w [.ref a] H (fun v _ => v = .bl true) fun _ _ _ => False)
    (nox : ∀ (w : World) (H : Hp) (s : Shared) (e : Value) (s2 : Shared), CX w [] H s (fun _ _ _ => False) e s2 → False) : PySem.W.WalkO q loose XP YP l.row.toRowW d [] (fun f vs => PySem.call f vs) :=
  Att.attach_call hn hdf fun w _ s1 mg _ fa _ _ _ _ a _ ns G Y _ _ _ hmg hobj hints hlen hg => by
    obtain ⟨fd, hb, hF⟩ := F w mg fa _ (hY w _ Y) G.T.g hmg
    exact law_callG (hY w _ Y) G.T.g G.T.b G.T.builtins G.T.nolimit hg hobj hints (Nat.le_trans hlen hn2) rm hF hb (fun H hO hS => pr w H a ns hlen hO hS) fun H e s2 => nox w H s1 e s2
end KA
namespace KA
open PySem PySem.Spec PyProof.Rows L2
/-- keywords of a def that has no defaults -/
theorem fun_kb {K : PySem.W.Frag} {x qual : Str} {st : Stmt} {f : Addr} {fd : FuncData} {ps : List Str} (F : Fun K x qual st f fd) (n : Nat) (ks : List Str) (m : List (Nat × Nat))
    (to : ∀ (kV doc pm : Value) (an : Option Addr) (cdv ct : Value) (us ws : List Value), us.length = n → ws.length = ks.length → bindArgs (PySem.W.fnOf x qual (defArgs st) (defBody st) (defScope st) .none kV doc pm an cdv ct) ⟨us, ks.zip ws⟩ = pure (ps.zip (kw m us [] ws))) :
    KBn K fd ps n ks (fun us ws => kw m us [] ws) (fun vs zs => kw m vs [] zs) := by
  obtain ⟨oc, od, kV, doc, pm, an, cdv, ct, osl, rfl, lk, hcd⟩ := F.ex
  exact ⟨fun s us ws _ l1 l2 => .of_eq (to kV doc pm an cdv ct us ws l1 l2), fun r1 r2 => kw_rel m r1 .nil r2⟩
end KA
namespace KA
open PySem PySem.Spec PyProof.Rows L2
section
variable {prog : Program} {w : World} {A : Around} {E : Value → Shared → Prop} {s : Shared} {a : Addr} {o : Obj}
theorem lrep_head {Q : Fin → Shared → Prop} {x : Value} {l : List Value} {n : Nat} {b : Nat} (hget : s.heap.get? a = some o) (hd : o.data = .seq (x :: l).toArray n)
    (h1 : wpAny (model prog w) A (do again (.builtin "list.__repr__.loop" ⟨[.ref a, rawInt 0, ← newList [], rawInt b], []⟩)) Q E s) (h2 : ∀ u tk, Q (.done (.ret (.str "[...]" u))) { s with toks := tk }) :
    wpAny (model prog w) A (Builtin.listReprAt b ⟨[.ref a], []⟩) Q E s := by
  unfold Builtin.listReprAt
  show wpAny _ _ (Builtin.List.listItems (.ref a) >>= _) _ _ s
  refine wpAny_bind (wpAny_listItems hget hd ?_)
  refine PySem.W.KFB.if_not rfl ?_
  refine wpAny_bind (wpAny_stack_any fun st => ?_)
  dsimp only
  split
  · refine wpAny_bind (wpAny_rule ?_)
    exact wpAny_bind (wpAny_mkStr (wpAny_pure (h2 _ _)) (by decide +kernel))
  · exact h1
theorem lrep_way : ("[...]" : Str).length ≤ 5 := by decide +kernel
/-- list.__repr__, whatever is under way -/
theorem lrep_call {Q : Value → Shared → Prop} {x : Value} {l : List Value} {n : Nat} {ts : List Str} (hc : o.cls = .type "list") (ha : s.heap.get? a = some o) (hd : o.data = .seq (x :: l).toArray n) (hlen : ts.length = (x :: l).toArray.size)
    (hT : ∀ (i : Nat) (y : Value), (x :: l).toArray[i]? = some y → ∃ t, ts[i]? = some t ∧ ReprIs prog w y t) (hsz : (listText ts).length ≤ sizeLine)
    (h : ∀ h' (m : Str) u tk, (∀ b z, s.heap.get? b = some z → h'.get? b = some z) → m.length ≤ (listText ts).length + 5 → Q (.str m u) { s with heap := h', toks := tk }) :
    wpAny (model prog w) A (call (.builtin "list.__repr__") [.ref a]) Q E s := by
  refine wpAny_call (codeAny_call_builtin F.slot_list_repr.plain F.entry_list_repr (F.slot_list_repr.check _ _ _ _ _ _ _ _ ⟨o, ha, hc⟩ (F.args_list_repr_1 _) ?_))
  refine lrep_head (b := 0) ha hd ?_ (fun u tk => h s.heap _ u tk (fun _ _ e => e) (Nat.le_trans lrep_way (Nat.le_add_left _ _)))
  refine wpAny_bind (m := newList []) (wpAny_newObj_type ?_)
  refine wpAny_pure ⟨F.quiet_list_repr_loop _, ?_⟩
  refine codeAny_list_repr_start (P := s.heap.objs.size) (Nat.ne_of_lt (Heap.lt_size ha)) hlen hT (Heap.get?_push_of_some _ ha) hd (Heap.get?_push_size _ rfl) (fun h' u tk hk => ?_) (by omega)
  exact h h' _ u tk (fun b z e => hk b z (Nat.ne_of_lt (Heap.lt_size e)) (Heap.get?_push_of_some _ e)) (Nat.le_add_right _ _)

theorem drep_way : ("{...}" : Str).length ≤ 5 := by decide +kernel
/-- dict.__repr__ of {}, whatever is under way -/
theorem drep_call {Q : Value → Shared → Prop} {ep : Nat} (hc : o.cls = .type "dict") (ha : s.heap.get? a = some o) (hd : o.data = .dict #[] ep) (hsys : (a == sysModules) = false)
    (h : ∀ (m : Str) u tk, m.length ≤ 10 → Q (.str m u) { s with toks := tk }) : wpAny (model prog w) A (call (.builtin "dict.__repr__") [.ref a]) Q E s := by
  refine wpAny_call (codeAny_call_builtin_own (Code.quiet_builtin _ (by decide +kernel)) F.entry_dict_repr (F.slot_dict_repr.check _ _ _ _ _ _ _ _ ⟨o, ha, hc⟩ (F.args_dict_repr_1 _) (wpOwn_of_wpAny ?_)))
  show wpAny _ _ (Builtin.dictReprAt 0 ⟨[.ref a], []⟩) _ _ s
  unfold Builtin.dictReprAt
  refine wpAny_bind ?_
  unfold Builtin.Dict.dictSlotNone
  refine wpAny_bind (wpAny_notOrdered_dict ⟨o, ha, hc⟩ ?_)
  show wpAny _ _ (pure (Value.ref a)) _ _ s
  refine wpAny_pure ?_
  rw [dictReprRunning_eq]
  refine wpAny_bind (wpAny_bind (wpAny_stack_any fun st => wpAny_pure ?_))
  split
  · refine wpAny_bind (wpAny_rule ?_)
    exact wpAny_bind (wpAny_mkStr (wpAny_pure (h _ _ _ (Nat.le_trans drep_way (by decide)))) (by decide +kernel))
  · show wpAny _ _ (Builtin.Dict.addrOf (.ref a) >>= _) _ _ s
    refine wpAny_bind (wpAny_pure ?_)
    show wpAny _ _ (Builtin.Dict.showsAll a >>= _) _ _ s
    unfold Builtin.Dict.showsAll
    rw [if_neg (by rw [hsys]; exact Bool.false_ne_true)]
    refine wpAny_bind (wpAny_pure (wpAny_bind (wpAny_dictEpoch ha hd (wpAny_bind (wpAny_dictEntries ha hd ?_)))))
    refine wpAny_bind ?_
    rw [Std.Legacy.Range.forIn_eq_forIn_range']
    show wpAny _ _ (forIn [] _ _) _ _ s
    refine wpAny_pure ?_
    refine wpAny_bind (wpAny_mkStr (wpAny_pure (h _ _ _ ?_)) (by decide +kernel))
    decide +kernel
end
/-- str() of what is shown by its __repr__ -/
theorem str_by {prog : Program} {w : World} {A : Around} {E : Value → Shared → Prop} {s : Shared} {a : Addr} {o : Obj} {Q : Value → Shared → Prop} {T idr : String} {N : Nat} (hu : A.units + 3 < cLine) (hc : o.cls = .type T) (ha : s.heap.get? a = some o)
    (slotStr : Slot T "__str__" "object.__str__") (slotRepr : SlotG T "__repr__" idr)
    (rep : ∀ (prog' : Program) (w' : World) (A' : Around) (E' : Value → Shared → Prop) (s' : Shared) (Q' : Value → Shared → Prop), s'.heap.get? a = some o →
      (∀ h' (m : Str) u tk, (∀ b z, s'.heap.get? b = some z → h'.get? b = some z) → m.length ≤ N → Q' (.str m u) { s' with heap := h', toks := tk }) → wpAny (model prog' w') A' (call (.builtin idr) [.ref a]) Q' E' s')
    (h : ∀ h' (m : Str) u tk, (∀ b z, s.heap.get? b = some z → h'.get? b = some z) → m.length ≤ N → Q (.str m u) { s with heap := h', toks := tk }) :
    wpAny (model prog w) A (call (.type "str") [.ref a]) Q E s :=
  callType_new F.called_str (by decide) (F.typeCall_str_1 _) (F.newCall_str_1 _) (fun obj => F.args_object_init_2 obj _) F.entry_str_new
    (meets_str_new (S := fun A' R s' => A'.units + 2 < cLine ∧ s'.heap.get? a = some o ∧
        ∀ h' (m : Str) u tk, (∀ b z, s'.heap.get? b = some z → h'.get? b = some z) → m.length ≤ N → R (.ok (.ret (.str m u))) { s' with heap := h', toks := tk })
      fun prog' w' A' R s' g => wpAny_strOf_slot rfl (by show A'.units + 1 + 1 < cLine; have := g.1; omega) ⟨o, g.2.1, hc⟩ slotStr slotRepr (rep prog' w' _ _ s' _ g.2.1 fun h' m u tk hk hm => ⟨m, u, rfl, g.2.2 h' m u tk hk hm⟩))
    ⟨by show A.units + 1 + 2 < cLine; omega, ha, fun h' m u tk hk hm => ⟨typeIs_str _ _ _, h h' m u tk hk hm⟩⟩
/-- a thing without parts, of bounded text -/
inductive Leaf : V → Prop
  | int (i : Int) (h : i.natAbs.log2 < 1000) : Leaf (.int i)
  | str (z : Str) (h : z.length ≤ 1000) (hc : ∀ c ∈ z.cps.toList, c < 16 ^ 8) : Leaf (.str z)
  | bl (b : Bool) : Leaf (.bl b)
  | non : Leaf .non
theorem size_20k : (20000 : Nat) ≤ sizeLine := by decide
theorem leaf_repr {prog : Program} {w : World} {v : V} {u : Value} (h : Leaf v) (r : RelV v u) : ∃ t : Str, ReprIs prog w u t ∧ t.length ≤ 12000 := by
  cases h with
  | int i hi =>
    obtain ⟨t, rfl⟩ := r
    refine ⟨_, ReprIs.int t (by omega), ?_⟩
    have e := int_text_length_le (k := 1000) (by decide) hi
    show (Str.ofString (toString i)).length ≤ 12000
    rw [PySem.ofString_length]
    omega
  | str z hz hc =>
    obtain ⟨t, rfl⟩ := r
    have h1 := StrLaws.reprText_len z hc
    have := size_20k
    exact ⟨_, ReprIs.str z t (by omega), by omega⟩
  | bl b =>
    cases r
    exact ⟨_, ReprIs.bool b, by cases b <;> decide⟩
  | non =>
    cases r
    exact ⟨_, ReprIs.none, by decide⟩
section
variable {X : Cx}
theorem list_text_one (t : Str) : (listText [t]).length ≤ t.length + 4 := by
  have h := piled_le_listText [t]
  have h2 := textFrom_len [t] 0 "["
  show (textFrom 0 "[" [t] ++ "]").length ≤ _
  rw [strLen_append]
  show (("[" : Str) ++ (if 0 > 0 then ", " else "" : String) ++ t).length + 1 ≤ _
  rw [strLen_append, strLen_append]
  show 1 + 0 + t.length + 1 ≤ _
  omega
/-- the same, of texts of any signs -/
inductive LeafW : V → Prop
  | int (i : Int) (h : i.natAbs.log2 < 1000) : LeafW (.int i)
  | str (z : Str) (h : z.length ≤ 3000) : LeafW (.str z)
  | bl (b : Bool) : LeafW (.bl b)
  | non : LeafW .non
theorem Leaf.w {v : V} (h : Leaf v) : LeafW v := by
  cases h with
  | int i h => exact .int i h
  | str z h _ => exact .str z (by omega)
  | bl b => exact .bl b
  | non => exact .non
/-- what str() is asked of: a thing without parts, or one list, tuple of one, or {} -/
inductive Leaf1 (K : PySem.W.Frag) (H : Hp) : V → Prop
  | leaf {v : V} (h : LeafW v) : Leaf1 K H v
  | lst {a : Addr} {v : V} (e : H a = some (.lst [v])) (h : Leaf v) : Leaf1 K H (.ref a)
  | tup {a : Addr} {v : V} (e : H a = some (.tup [v])) (h : Leaf v) : Leaf1 K H (.ref a)
  | dct {a : Addr} (e : H a = some (.dK [])) : Leaf1 K H (.ref a)
def rStrL (K : PySem.W.Frag) : List V → Hp → VK → Prop := fun xs H Q => ∃ x, xs = [x] ∧ Leaf1 K H x ∧ ∀ m : Str, m.length ≤ 20000 → (Leaf x → m.length ≤ 1002) → Q (.str m) H
theorem call_str_leaf {k : Nat} (hr : Room k X.A) : CallR X (.type "str") (rStrL X.K) := by
  intro pins s σ H xs us Q I r h
  obtain ⟨x, rfl, hx, q⟩ := h
  obtain ⟨u, rfl, rx⟩ := vals1 r
  have hz := size_20k
  have hu := hr.units
  cases hx with
  | leaf hl =>
    cases hl with
    | int i hi =>
      obtain ⟨t, rfl⟩ := rx
      have e : (Str.ofString (toString i)).length ≤ 1002 := by
        have e := int_text_length_le (k := 1000) (by decide) hi
        rw [PySem.ofString_length]
        omega
      exact PySem.P.str_of_int (by omega) ⟨.str _, H, I.tok _, ⟨_, rfl⟩, q _ (Nat.le_trans e (by decide)) (fun _ => e)⟩
    | str z hz' =>
      obtain ⟨t, rfl⟩ := rx
      refine PySem.P.str_of_str ⟨.str _, H, I, ⟨_, rfl⟩, q _ (by omega) (fun l => ?_)⟩
      cases l
      omega
    | bl b =>
      cases rx
      exact PySem.P.str_of_bool ⟨.str _, H, I.tok _, ⟨_, rfl⟩, q _ (by cases b <;> decide) (fun _ => by cases b <;> decide)⟩
    | non =>
      cases rx
      exact PySem.P.str_of_none ⟨.str _, H, I.tok _, ⟨_, rfl⟩, q _ (by decide) (fun _ => by decide)⟩
  | @lst a v e hl =>
    cases rx
    obtain ⟨_, its, n, rv, ho⟩ : _ ≤ sizeLine ∧ ∃ (its : List Value) (n : Nat), Vals [v] its ∧ s.heap.get? a = some { cls := .type "list", data := .seq its.toArray n } := I.hok a _ e
    obtain ⟨u, rfl, ru⟩ := vals1 rv
    refine str_by (N := 13000) (by omega) rfl ho F.slot_list_str F.slot_list_repr.toG (fun prog' w' A' E' s' Q' hg hq => ?_) (fun h' m u tk hk hm => ⟨.str m, H, I.kept hk, ⟨_, rfl⟩, q m (by omega) (fun l => nomatch l)⟩)
    obtain ⟨t, ht, hl⟩ := leaf_repr (prog := prog') (w := w') hl ru
    have ht2 := list_text_one t
    refine lrep_call (ts := [t]) rfl hg rfl rfl (fun i y hy => ?_) (by omega) (fun h' m u tk hk hm => hq h' m u tk hk (by omega))
    cases i with
    | zero => cases hy; exact ⟨t, rfl, ht⟩
    | succ i => cases hy
  | @tup a v e hl =>
    cases rx
    obtain ⟨_, its, rv, o, ho, hc, n, hd⟩ : _ ≤ sizeLine ∧ ∃ its : List Value, Vals [v] its ∧ IsTup s.heap a its.toArray := I.hok a _ e
    obtain ⟨u, rfl, ru⟩ := vals1 rv
    refine str_by (N := 13000) (by omega) hc ho F.slot_tuple_str F.slot_tuple_repr (fun prog' w' A' E' s' Q' hg hq => ?_) (fun h' m u tk hk hm => ⟨.str m, H, I.kept hk, ⟨_, rfl⟩, q m (by omega) (fun l => nomatch l)⟩)
    obtain ⟨t, ht, hl⟩ := leaf_repr (prog := prog') (w := w') hl ru
    have ht2 := fmt_text [t]
    have ht3 : piled [t] = t.length + 2 := rfl
    exact fmt_tuple_repr (ts := [t]) hg hc hd (.cons ht .nil) (by omega) (fun m u tk hm => hq s'.heap m u tk (fun _ _ e => e) (by omega))
  | @dct a e =>
    cases rx
    obtain ⟨_, hs, vs, kv, o, es, ep, ho, hx, hd, _, he, _⟩ := dk_of I.hok e
    cases kv
    have : es = #[] := by
      cases es
      cases he
      rfl
    subst this
    refine str_by (N := 13000) (by omega) hx.1 ho F.slot_dict_str F.slot_dict_repr (fun prog' w' A' E' s' Q' hg hq => ?_) (fun h' m u tk hk hm => ⟨.str m, H, I.kept hk, ⟨_, rfl⟩, q m (by omega) (fun l => nomatch l)⟩)
    exact drep_call hx.1 hg hd hs (fun m u tk hm => hq s'.heap m u tk (fun _ _ e => e) (by omega))
end
end KA
namespace KA
open PySem PySem.SeqAt
open AutoSeq1 (wpAny_loadPart')
open MeetsSeq MeetsSeq2 MeetsSeq3 SeqRoads2
section
variable {prog : Program} {w : World} {A : Around} {R : Result → Shared → Prop}
/-- two lists as long, read anew at each turn: the two items are told equal (then J goes on) or not (then F) -/
def LstI (prog : Program) (w : World) (A : Around) (E : Value → Shared → Prop) (p q : Addr) (N : Nat) (J : Nat → Shared → Prop) (F : Shared → Prop) : Prop :=
  ∀ i s, J i s → ∃ (xs ys : Array Value) (m m2 : Nat), s.heap.get? p = some { cls := .type "list", data := .seq xs m } ∧ s.heap.get? q = some { cls := .type "list", data := .seq ys m2 } ∧ xs.size = N ∧ ys.size = N ∧
    ∀ (g1 : i < xs.size) (g2 : i < ys.size), wpAny (model prog w) A.in1 (eqBool xs[i] ys[i]) (fun r s' => (r = true → J (i + 1) s') ∧ (r = false → F s' ∧ ∃ (xs ys : Array Value) (m m2 : Nat), s'.heap.get? p = some { cls := .type "list", data := .seq xs m } ∧ s'.heap.get? q = some { cls := .type "list", data := .seq ys m2 } ∧ xs.size = N ∧ ys.size = N)) E s
/-- op: 2 is ==, 3 is != ; what is told where all items are equal is no -/
theorem turnsB (op : Nat) (yes : Bool) (hop : (op = 2 ∧ yes = true) ∨ (op = 3 ∧ yes = false)) (p q : Addr) (N : Nat) (J : Nat → Shared → Prop) (F : Shared → Prop) (hJ : LstI prog w A (fun e s' => R (.error e) s') p q N J F)
    (done : ∀ s, J N s → R (.ok (.ret (.bool yes))) s) (fail : ∀ s, F s → R (.ok (.ret (.bool (!yes)))) s) : ∀ (k i : Nat), N - i = k → i ≤ N → ∀ s, J i s →
      wpAny (model prog w) A.in1 (Builtin.«list.__eq__.loop» ⟨[.ref p, .ref q, rawInt i, rawInt op], []⟩) (GQ.FinOf prog w A R) (fun e s' => R (.error e) s') s
  | 0, i, hk, hi, s, hs => by
    obtain ⟨xs, ys, m, m2, gp, gq, zp, zq, _⟩ := hJ _ _ hs
    have iN : i = N := by omega
    have last : R (.ok (.ret (.bool yes))) s := done s (iN ▸ hs)
    have n1 : xs[((i : Nat) : Int).toNat]? = none := by simp; omega
    have n2 : ys[((i : Nat) : Int).toNat]? = none := by simp; omega
    rcases hop with ⟨rfl, rfl⟩ | ⟨rfl, rfl⟩
    · obtain ⟨hh, gg, dd, kk, oo⟩ := s
      wp_walk using wpAny_loadPart' gp, wpAny_loadPart' gq
      rw [n1, n2]
      wp_walk using wpAny_loadPart' gp, wpAny_loadPart' gq
      show R (.ok (.ret (.bool (xs.size == ys.size)))) _
      rw [zp, zq]
      simpa using last
    · obtain ⟨hh, gg, dd, kk, oo⟩ := s
      wp_walk using wpAny_loadPart' gp, wpAny_loadPart' gq
      rw [n1, n2]
      wp_walk using wpAny_loadPart' gp, wpAny_loadPart' gq
      show R (.ok (.ret (.bool (xs.size != ys.size)))) _
      rw [zp, zq]
      simpa using last
  | k + 1, i, hk, hi, s, hs => by
    obtain ⟨xs, ys, m, m2, gp, gq, zp, zq, tn⟩ := hJ _ _ hs
    have ip : i < xs.size := by omega
    have iq : i < ys.size := by omega
    have tt := tn ip iq
    have n1 : xs[((i : Nat) : Int).toNat]? = some xs[i] := by simp [ip]
    have n2 : ys[((i : Nat) : Int).toNat]? = some ys[i] := by simp [iq]
    have up : ((i : Int) + 1) = ((i + 1 : Nat) : Int) := by omega
    have next := fun s2 h2 => turnsB op yes hop p q N J F hJ done fail k (i + 1) (by omega) (by omega) s2 h2
    rcases hop with ⟨rfl, rfl⟩ | ⟨rfl, rfl⟩
    · obtain ⟨hh, gg, dd, kk, oo⟩ := s
      wp_walk using wpAny_loadPart' gp, wpAny_loadPart' gq
      rw [n1, n2]
      refine wpAny_bind (wpAny_mono tt (fun r s2 h2 => ?_) fun _ _ x => x)
      cases r with
      | true =>
        have h3 := next s2 (h2.1 rfl)
        obtain ⟨hh2, gg2, dd2, kk2, oo2⟩ := s2
        wp_walk
        rw [up]
        exact ⟨plainId_quiet plain_eq_loop _, codeAny_builtin entry_eq_loop (by rw [Around.under_plainId plain_eq_loop _]; exact h3)⟩
      | false =>
        obtain ⟨hF, xs2, ys2, m3, m4, gp2, gq2, zp2, zq2⟩ := h2.2 rfl
        have h3 := fail s2 hF
        have n3 : xs2[((i : Nat) : Int).toNat]? = some (xs2[i]'(by omega)) := by simp
        have n4 : ys2[((i : Nat) : Int).toNat]? = some (ys2[i]'(by omega)) := by simp
        obtain ⟨hh2, gg2, dd2, kk2, oo2⟩ := s2
        wp_walk using wpAny_loadPart' gp2, wpAny_loadPart' gq2
        rw [n3, n4]
        wp_walk
        exact h3
    · obtain ⟨hh, gg, dd, kk, oo⟩ := s
      wp_walk using wpAny_loadPart' gp, wpAny_loadPart' gq
      rw [n1, n2]
      refine wpAny_bind (wpAny_mono tt (fun r s2 h2 => ?_) fun _ _ x => x)
      cases r with
      | true =>
        have h3 := next s2 (h2.1 rfl)
        obtain ⟨hh2, gg2, dd2, kk2, oo2⟩ := s2
        wp_walk
        rw [up]
        exact ⟨plainId_quiet plain_eq_loop _, codeAny_builtin entry_eq_loop (by rw [Around.under_plainId plain_eq_loop _]; exact h3)⟩
      | false =>
        obtain ⟨hF, xs2, ys2, m3, m4, gp2, gq2, zp2, zq2⟩ := h2.2 rfl
        have h3 := fail s2 hF
        have n3 : xs2[((i : Nat) : Int).toNat]? = some (xs2[i]'(by omega)) := by simp
        have n4 : ys2[((i : Nat) : Int).toNat]? = some (ys2[i]'(by omega)) := by simp
        obtain ⟨hh2, gg2, dd2, kk2, oo2⟩ := s2
        wp_walk using wpAny_loadPart' gp2, wpAny_loadPart' gq2
        rw [n3, n4]
        wp_walk
        exact h3
theorem listsB (ne yes : Bool) (hop : ne = !yes) (p q : Addr) (N : Nat) (J : Nat → Shared → Prop) (F : Shared → Prop) (hJ : LstI prog w A (fun e s' => R (.error e) s') p q N J F)
    (done : ∀ s, J N s → R (.ok (.ret (.bool yes))) s) (fail : ∀ s, F s → R (.ok (.ret (.bool (!yes)))) s) {s : Shared} (hs : J 0 s) :
    wpAny (model prog w) A.in1 ((if ne then Builtin.«list.__ne__» else Builtin.«list.__eq__») ⟨[.ref p, .ref q], []⟩) (GQ.FinOf prog w A R) (fun e s' => R (.error e) s') s := by
  obtain ⟨xs, ys, m, m2, gp, gq, zp, zq, _⟩ := hJ _ _ hs
  have same : ¬ (xs.size != ys.size) = true := by simp [zp, zq]
  have sub := AutoSeq1.sub_list_list
  cases yes with
  | true =>
    subst hop
    have all := turnsB (A := A) (R := R) 2 true (.inl ⟨rfl, rfl⟩) p q N J F hJ done fail _ 0 rfl (Nat.zero_le _) s hs
    obtain ⟨hh, gg, dd, kk, oo⟩ := s
    show wpAny _ _ (Builtin.«list.__eq__» ⟨[.ref p, .ref q], []⟩) _ _ _
    wp_walk using wpAny_loadPart' gp, wpAny_loadPart' gq
    exact ⟨plainId_quiet plain_eq_loop _, codeAny_builtin entry_eq_loop (by rw [Around.under_plainId plain_eq_loop _]; exact all)⟩
  | false =>
    subst hop
    have all := turnsB (A := A) (R := R) 3 false (.inr ⟨rfl, rfl⟩) p q N J F hJ done fail _ 0 rfl (Nat.zero_le _) s hs
    obtain ⟨hh, gg, dd, kk, oo⟩ := s
    show wpAny _ _ (Builtin.«list.__ne__» ⟨[.ref p, .ref q], []⟩) _ _ _
    wp_walk using wpAny_loadPart' gp, wpAny_loadPart' gq
    exact ⟨plainId_quiet plain_eq_loop _, codeAny_builtin entry_eq_loop (by rw [Around.under_plainId plain_eq_loop _]; exact all)⟩
/-- lists of unlike lengths -/
theorem listsN (ne : Bool) (p q : Addr) {xs ys : Array Value} {m m2 : Nat} {s : Shared} (gp : s.heap.get? p = some { cls := .type "list", data := .seq xs m }) (gq : s.heap.get? q = some { cls := .type "list", data := .seq ys m2 }) (h : xs.size ≠ ys.size)
    (fail : R (.ok (.ret (.bool ne))) s) : wpAny (model prog w) A.in1 ((if ne then Builtin.«list.__ne__» else Builtin.«list.__eq__») ⟨[.ref p, .ref q], []⟩) (GQ.FinOf prog w A R) (fun e s' => R (.error e) s') s := by
  have unl : (xs.size != ys.size) = true := by simpa using h
  have sub := AutoSeq1.sub_list_list
  cases ne with
  | true =>
    obtain ⟨hh, gg, dd, kk, oo⟩ := s
    show wpAny _ _ (Builtin.«list.__ne__» ⟨[.ref p, .ref q], []⟩) _ _ _
    wp_walk using wpAny_loadPart' gp, wpAny_loadPart' gq
    exact fail
  | false =>
    obtain ⟨hh, gg, dd, kk, oo⟩ := s
    show wpAny _ _ (Builtin.«list.__eq__» ⟨[.ref p, .ref q], []⟩) _ _ _
    wp_walk using wpAny_loadPart' gp, wpAny_loadPart' gq
    exact fail
end
end KA
namespace KA
open PySem PySem.SeqAt
open AutoSeq1 (wpAny_loadPart')
open MeetsSeq MeetsSeq2 MeetsSeq3 SeqRoads2
section
variable {prog : Program} {w : World} {A : Around} {R : Result → Shared → Prop}
theorem tupsB (ne : Bool) (p q : Addr) (xs ys : Array Value) (n n2 : Nat) (d1 d2 : Option Addr) (l1 l2 : Array (Option Value)) (J : Nat → Shared → Prop) (F : Shared → Prop)
    (turn : ∀ i (h1 : i < xs.size) (h2 : i < ys.size) s, J i s → wpAny (model prog w) A.in1 (eqBool xs[i] ys[i]) (fun r s' => (r = true → J (i + 1) s') ∧ (r = false → F s')) (fun e s' => R (.error e) s') s)
    (done : ∀ s, J (min xs.size ys.size) s → R (.ok (.ret (.bool (ne ^^ (xs.size == ys.size))))) s) (fail : ∀ s, F s → R (.ok (.ret (.bool ne))) s)
    {s : Shared} (gp : s.heap.get? p = some { cls := .type "tuple", dict := d1, data := .seq xs n, slots := l1 }) (gq : s.heap.get? q = some { cls := .type "tuple", dict := d2, data := .seq ys n2, slots := l2 }) (h : J 0 s) :
    wpAny (model prog w) A.in1 ((if ne then Builtin.«tuple.__ne__» else Builtin.«tuple.__eq__») ⟨[.ref p, .ref q], []⟩) (GQ.FinOf prog w A R) (fun e s' => R (.error e) s') s := by
  have sub := AutoSeq1.sub_tuple_tuple
  have hZ : (xs.toList.zip ys.toList).length = min xs.size ys.size := by simp
  have h0 := h
  have at_ : ∀ {i : Nat} {z : Value × Value} {rest : List (Value × Value)}, z :: rest = (xs.toList.zip ys.toList).drop i → ∃ (h1 : i < xs.size) (h2 : i < ys.size), z = (xs[i], ys[i]) ∧ rest = (xs.toList.zip ys.toList).drop (i + 1) := fun {i z rest} hz => by
    have lt : i < (xs.toList.zip ys.toList).length := by
      rcases Nat.lt_or_ge i (xs.toList.zip ys.toList).length with h' | h'
      · exact h'
      · rw [List.drop_of_length_le h'] at hz
        cases hz
    have h1 : i < xs.size := by omega
    have h2 : i < ys.size := by omega
    rw [List.drop_eq_getElem_cons lt] at hz
    injection hz with e1 e2
    exact ⟨h1, h2, by rw [e1]; simp, e2⟩
  have end_ : ∀ {i : Nat}, ([] : List (Value × Value)) = (xs.toList.zip ys.toList).drop i → i ≤ min xs.size ys.size → i = min xs.size ys.size := fun {i} hz hi => by
    rcases Nat.lt_or_ge i (xs.toList.zip ys.toList).length with h' | h'
    · rw [List.drop_eq_getElem_cons h'] at hz
      cases hz
    · omega
  cases ne with
  | false =>
    obtain ⟨hh, gg, dd, kk, oo⟩ := s
    show wpAny _ _ (Builtin.«tuple.__eq__» ⟨[.ref p, .ref q], []⟩) _ _ _
    wp_walk using wpAny_loadPart' gp, wpAny_loadPart' gq, wpAny_forIn_list _ (fun rest b s' => b.1 = none ∧ ∃ i, rest = (xs.toList.zip ys.toList).drop i ∧ i ≤ min xs.size ys.size ∧ J i s') _
    case turn =>
      rintro ⟨y, x⟩ rest b s' ⟨hb', i, hz, hi, hI⟩
      obtain ⟨h1, h2, e, hrest⟩ := at_ hz
      injection e with e1 e2
      subst e1 e2
      refine wpAny_bind (wpAny_mono (turn i h1 h2 s' hI) (fun r s2 q2 => ?_) fun _ _ x => x)
      cases r with
      | true =>
        wp_walk
        exact ⟨rfl, i + 1, hrest, by omega, q2.1 rfl⟩
      | false =>
        have h3 := fail s2 (q2.2 rfl)
        wp_walk
        exact h3
    case fin =>
      rintro ⟨b1, b2⟩ s' ⟨hb', i, hz, hi, hI⟩
      simp only at hb'
      subst hb'
      have hR := done s' (end_ hz hi ▸ hI)
      wp_walk
      simpa [Builtin.Tuple.tupleCompareSizes] using hR
    case h =>
      exact ⟨rfl, 0, rfl, Nat.zero_le _, h0⟩
  | true =>
    obtain ⟨hh, gg, dd, kk, oo⟩ := s
    show wpAny _ _ (Builtin.«tuple.__ne__» ⟨[.ref p, .ref q], []⟩) _ _ _
    wp_walk using wpAny_loadPart' gp, wpAny_loadPart' gq, wpAny_forIn_list _ (fun rest b s' => b.1 = none ∧ ∃ i, rest = (xs.toList.zip ys.toList).drop i ∧ i ≤ min xs.size ys.size ∧ J i s') _
    case turn =>
      rintro ⟨y, x⟩ rest b s' ⟨hb', i, hz, hi, hI⟩
      obtain ⟨h1, h2, e, hrest⟩ := at_ hz
      injection e with e1 e2
      subst e1 e2
      refine wpAny_bind (wpAny_mono (turn i h1 h2 s' hI) (fun r s2 q2 => ?_) fun _ _ x => x)
      cases r with
      | true =>
        wp_walk
        exact ⟨rfl, i + 1, hrest, by omega, q2.1 rfl⟩
      | false =>
        have h3 := fail s2 (q2.2 rfl)
        wp_walk
        exact h3
    case fin =>
      rintro ⟨b1, b2⟩ s' ⟨hb', i, hz, hi, hI⟩
      simp only at hb'
      subst hb'
      have hR := done s' (end_ hz hi ▸ hI)
      wp_walk
      simpa [Builtin.Tuple.tupleCompareSizes, bne] using hR
    case h =>
      exact ⟨rfl, 0, rfl, Nat.zero_le _, h0⟩
end
section
variable {prog : Program} {w : World} {A : Around} {E : Value → Shared → Prop} {s : Shared}
def opNe (ne : Bool) : CmpOp := if ne then .NotEq else .Eq
theorem rcL {p q : Addr} {N : Nat} {Q : Value → Shared → Prop} (ne : Bool) (hu : A.units < cLine) (J : Nat → Shared → Prop) (F : Shared → Prop) (hJ : LstI prog w A E p q N J F)
    (done : ∀ s, J N s → Q (.bool (!ne)) s) (fail : ∀ s, F s → Q (.bool ne) s) (hs : J 0 s) : wpAny (model prog w) A (richCompare (opNe ne) (.ref p) (.ref q)) Q E s := by
  obtain ⟨xs, ys, m, m2, gp, gq, _, _, _⟩ := hJ _ _ hs
  cases ne with
  | false =>
    refine wpAny_richCompare_same_room (op := .Eq) ⟨_, gp, rfl⟩ ⟨_, gq, rfl⟩ PySem.F.slot_list_eq (GQ.call_here PySem.F.slot_list_eq ⟨_, gp, rfl⟩ PySem.F.entry_list_eq (PySem.F.args_list_eq_2 _ _) ?_) hu
    exact listsB (R := wants (fun v s' => v ≠ .notImplemented ∧ Q v s') E) false true rfl p q N J F hJ (fun s' z => ⟨(fun x => nomatch x), done s' z⟩) (fun s' z => ⟨(fun x => nomatch x), fail s' z⟩) hs
  | true =>
    refine wpAny_richCompare_same_room (op := .NotEq) ⟨_, gp, rfl⟩ ⟨_, gq, rfl⟩ PySem.F.slot_list_ne (GQ.call_here PySem.F.slot_list_ne ⟨_, gp, rfl⟩ PySem.F.entry_list_ne (PySem.F.args_list_ne_2 _ _) ?_) hu
    exact listsB (R := wants (fun v s' => v ≠ .notImplemented ∧ Q v s') E) true false rfl p q N J F hJ (fun s' z => ⟨(fun x => nomatch x), done s' z⟩) (fun s' z => ⟨(fun x => nomatch x), fail s' z⟩) hs
theorem rcN {p q : Addr} {xs ys : Array Value} {m m2 : Nat} {Q : Value → Shared → Prop} (ne : Bool) (hu : A.units < cLine) (gp : s.heap.get? p = some { cls := .type "list", data := .seq xs m }) (gq : s.heap.get? q = some { cls := .type "list", data := .seq ys m2 }) (h : xs.size ≠ ys.size)
    (fail : Q (.bool ne) s) : wpAny (model prog w) A (richCompare (opNe ne) (.ref p) (.ref q)) Q E s := by
  cases ne with
  | false =>
    refine wpAny_richCompare_same_room (op := .Eq) ⟨_, gp, rfl⟩ ⟨_, gq, rfl⟩ PySem.F.slot_list_eq (GQ.call_here PySem.F.slot_list_eq ⟨_, gp, rfl⟩ PySem.F.entry_list_eq (PySem.F.args_list_eq_2 _ _) ?_) hu
    exact listsN (R := wants (fun v s' => v ≠ .notImplemented ∧ Q v s') E) false p q gp gq h ⟨(fun x => nomatch x), fail⟩
  | true =>
    refine wpAny_richCompare_same_room (op := .NotEq) ⟨_, gp, rfl⟩ ⟨_, gq, rfl⟩ PySem.F.slot_list_ne (GQ.call_here PySem.F.slot_list_ne ⟨_, gp, rfl⟩ PySem.F.entry_list_ne (PySem.F.args_list_ne_2 _ _) ?_) hu
    exact listsN (R := wants (fun v s' => v ≠ .notImplemented ∧ Q v s') E) true p q gp gq h ⟨(fun x => nomatch x), fail⟩
theorem rcT {p q : Addr} {xs ys : Array Value} {Q : Value → Shared → Prop} (ne : Bool) (hu : A.units < cLine) (J : Nat → Shared → Prop) (F : Shared → Prop) (hl : s.heap.IsTuple p xs) (hb : s.heap.IsTuple q ys)
    (turn : ∀ i (h1 : i < xs.size) (h2 : i < ys.size) s, J i s → wpAny (model prog w) A.in1 (eqBool xs[i] ys[i]) (fun r s' => (r = true → J (i + 1) s') ∧ (r = false → F s')) E s)
    (done : ∀ s, J (min xs.size ys.size) s → Q (.bool (ne ^^ (xs.size == ys.size))) s) (fail : ∀ s, F s → Q (.bool ne) s) (h : J 0 s) : wpAny (model prog w) A (richCompare (opNe ne) (.ref p) (.ref q)) Q E s := by
  obtain ⟨⟨cls, dd, data, sl⟩, ho, hc, n, hd⟩ := id hl
  obtain ⟨⟨cls2, dd2, data2, sl2⟩, ho2, hc2, n2, hd2⟩ := id hb
  simp only at hc hd hc2 hd2
  subst hc hd hc2 hd2
  cases ne with
  | false =>
    refine wpAny_richCompare_same_room (op := .Eq) ⟨_, ho, rfl⟩ ⟨_, ho2, rfl⟩ PySem.F.slot_tuple_eq (GQ.call_here PySem.F.slot_tuple_eq ⟨_, ho, rfl⟩ PySem.F.entry_tuple_eq (PySem.F.args_tuple_eq_2 _ _) ?_) hu
    exact tupsB (R := wants (fun v s' => v ≠ .notImplemented ∧ Q v s') E) false p q xs ys n n2 dd dd2 sl sl2 J F turn (fun s' z => ⟨(fun x => nomatch x), done s' z⟩) (fun s' z => ⟨(fun x => nomatch x), fail s' z⟩) ho ho2 h
  | true =>
    refine wpAny_richCompare_same_room (op := .NotEq) ⟨_, ho, rfl⟩ ⟨_, ho2, rfl⟩ PySem.F.slot_tuple_ne (GQ.call_here PySem.F.slot_tuple_ne ⟨_, ho, rfl⟩ PySem.F.entry_tuple_ne (PySem.F.args_tuple_ne_2 _ _) ?_) hu
    exact tupsB (R := wants (fun v s' => v ≠ .notImplemented ∧ Q v s') E) true p q xs ys n n2 dd dd2 sl sl2 J F turn (fun s' z => ⟨(fun x => nomatch x), done s' z⟩) (fun s' z => ⟨(fun x => nomatch x), fail s' z⟩) ho ho2 h
end
end KA
namespace KA
open PySem PySem.Spec PyProof.Rows L2
/-- two values, and what == tells of them -/
abbrev BEq2 := V → V → Bool → Hp → Prop
def MonB (D : BEq2) : Prop := ∀ x y b H H', Ext H H' → D x y b H → D x y b H'
def EqB (X : Cx) (n : Nat) (D : BEq2) : Prop :=
  ∀ (A : Around) (pins : List (Addr × Obj)) (s : Shared) (σ : L2.St) (H : Hp) (x y : V) (u v : Value) (b : Bool), Sub X n A → L2.Inv X pins σ H s → RelV x u → RelV y v → D x y b H →
    wpAny (model X.prog X.w) A (eqBool u v) (fun r s' => r = b ∧ ∃ H', L2.Inv X pins σ H' s' ∧ Ext H H') X.xe s
def RcB (X : Cx) (n : Nat) (ne : Bool) (D : BEq2) : Prop :=
  ∀ (A : Around) (pins : List (Addr × Obj)) (s : Shared) (σ : L2.St) (H : Hp) (x y : V) (u v : Value) (b : Bool), Sub X n A → L2.Inv X pins σ H s → RelV x u → RelV y v → D x y b H →
    wpAny (model X.prog X.w) A (richCompare (opNe ne) u v) (fun r s' => r = .bool (ne ^^ b) ∧ ∃ H', L2.Inv X pins σ H' s' ∧ Ext H H') X.xe s
section
variable {X : Cx} {n m : Nat} {D D' : BEq2}
theorem EqB.mono (h : EqB X n D) (hn : n ≤ m) : EqB X m D := fun A pins s σ H x y u v b sb => h A pins s σ H x y u v b (sb.mono hn)
theorem EqB.or (h : EqB X n D) (h' : EqB X n D') : EqB X n (fun x y b H => D x y b H ∨ D' x y b H) := fun A pins s σ H x y u v b sb I rx ry d => d.elim (fun d => h A pins s σ H x y u v b sb I rx ry d) (fun d => h' A pins s σ H x y u v b sb I rx ry d)
theorem MonB.or (h : MonB D) (h' : MonB D') : MonB (fun x y b H => D x y b H ∨ D' x y b H) := fun x y b H H' e d => d.elim (fun d => .inl (h x y b H H' e d)) fun d => .inr (h' x y b H H' e d)
/-- flat values -/
def BFlat : BEq2 := fun x y b _ => flatV x = true ∧ flatV y = true ∧ eqV x y = b
theorem monB_flat : MonB BFlat := fun _ _ _ _ _ _ d => d
theorem eqB_flat : EqB X 0 BFlat := by
  intro A pins s σ H x y u v b sb I rx ry d
  obtain ⟨fx, fy, e⟩ := d
  have q := eqAt_V (A := A) (s := s) rx ry fx fy
  rw [e] at q
  exact q X.prog X.w X.xe _ ⟨rfl, H, I, Ext.rfl'⟩
/-- item by item, as far as both go -/
def PrsB (D : BEq2) (xs ys : List V) (f : Nat → Bool) (H : Hp) : Prop := ∀ (i : Nat) x y, xs[i]? = some x → ys[i]? = some y → D x y (f i) H
theorem turnB (hD : MonB D) (h : EqB X n D) {A : Around} (sb : Sub X (n + 1) A) {pins : List (Addr × Obj)} {σ : L2.St} {H : Hp} {xs ys : List V} {its its2 : List Value} {f : Nat → Bool} (p : PrsB D xs ys f H) (r : Vals xs its) (r2 : Vals ys its2)
    (i : Nat) (h1 : i < its.toArray.size) (h2 : i < its2.toArray.size) (s' : Shared) (l : LoopI X pins σ H s') :
    wpAny (model X.prog X.w) A.in1 (eqBool its.toArray[i] its2.toArray[i]) (fun r s2 => r = f i ∧ LoopI X pins σ H s2) X.xe s' := by
  obtain ⟨H1, I1, e1⟩ := l
  have l1 : i < its.length := by simpa using h1
  have l2 : i < its2.length := by simpa using h2
  have k1 : i < xs.length := by rw [r.length]; exact l1
  have k2 : i < ys.length := by rw [r2.length]; exact l2
  obtain ⟨u, hu, ru⟩ := r.get (List.getElem?_eq_getElem k1)
  obtain ⟨v, hv, rv⟩ := r2.get (List.getElem?_eq_getElem k2)
  have g1 : its.toArray[i] = u := by
    rw [List.getElem?_eq_getElem l1] at hu
    simpa using Option.some.inj hu
  have g2 : its2.toArray[i] = v := by
    rw [List.getElem?_eq_getElem l2] at hv
    simpa using Option.some.inj hv
  rw [g1, g2]
  refine wpAny_mono (h A.in1 pins s' σ H1 _ _ u v _ sb.in1 I1 ru rv (hD _ _ _ _ _ e1 (p i _ _ (List.getElem?_eq_getElem k1) (List.getElem?_eq_getElem k2)))) (fun r s2 q => ?_) fun _ _ x => x
  obtain ⟨hr, H2, I2, e2⟩ := q
  exact ⟨hr, H2, I2, e1.trans e2⟩
def allF (N : Nat) (f : Nat → Bool) : Bool := (List.range N).all f
theorem allF_true {N : Nat} {f : Nat → Bool} (h : ∀ j, j < N → f j = true) : allF N f = true := by
  unfold allF
  rw [List.all_eq_true]
  exact fun j hj => h j (List.mem_range.mp hj)
theorem allF_false {N j : Nat} {f : Nat → Bool} (h : j < N) (e : f j = false) : allF N f = false := by
  unfold allF
  rw [List.all_eq_false]
  exact ⟨j, List.mem_range.mpr h, by rw [e]; exact Bool.false_ne_true⟩
def BList (D : BEq2) : BEq2 := fun x y b H => ∃ (p q : Addr) (xs ys : List V) (f : Nat → Bool), x = .ref p ∧ y = .ref q ∧ H p = some (.lst xs) ∧ H q = some (.lst ys) ∧ (xs.length = ys.length → PrsB D xs ys f H) ∧ b = (decide (xs.length = ys.length) && allF xs.length f)
def BTup (K : PySem.W.Frag) (D : BEq2) : BEq2 := fun x y b H => ∃ (p q : Addr) (xs ys : List V) (f : Nat → Bool), x = .ref p ∧ y = .ref q ∧ SqT K H p xs ∧ SqT K H q ys ∧ PrsB D xs ys f H ∧ b = (decide (xs.length = ys.length) && allF xs.length f)
theorem PrsB.mon (hD : MonB D) {xs ys : List V} {f : Nat → Bool} {H H' : Hp} (e : Ext H H') (p : PrsB D xs ys f H) : PrsB D xs ys f H' := fun i x y h1 h2 => hD x y _ H H' e (p i x y h1 h2)
theorem monB_list (hD : MonB D) : MonB (BList D) := fun x y b H H' e d => by
  obtain ⟨p, q, xs, ys, f, hx, hy, h1, h2, pr, hb⟩ := d
  exact ⟨p, q, xs, ys, f, hx, hy, e _ _ h1, e _ _ h2, fun z => (pr z).mon hD e, hb⟩
theorem monB_tup {K : PySem.W.Frag} (hD : MonB D) : MonB (BTup K D) := fun x y b H H' e d => by
  obtain ⟨p, q, xs, ys, f, hx, hy, h1, h2, pr, hb⟩ := d
  exact ⟨p, q, xs, ys, f, hx, hy, h1.ext e, h2.ext e, pr.mon hD e, hb⟩
theorem rcB_list (ne : Bool) (hD : MonB D) (h : EqB X n D) : RcB X (n + 1) ne (BList D) := by
  intro A pins s σ H x y u v b sb I rx ry d
  obtain ⟨p, q, xs, ys, f, rfl, rfl, hp, hq, pr, rfl⟩ := d
  cases rx
  cases ry
  by_cases hl : xs.length = ys.length
  · have pr := pr hl
    have look : ∀ s', LoopI X pins σ H s' → ∃ (as bs : List Value) (m m2 : Nat), Vals xs as ∧ Vals ys bs ∧ s'.heap.get? p = some { cls := .type "list", data := .seq as.toArray m } ∧ s'.heap.get? q = some { cls := .type "list", data := .seq bs.toArray m2 } ∧ as.toArray.size = xs.length ∧ bs.toArray.size = xs.length := fun s' z => by
      obtain ⟨H1, I1, e1⟩ := id z
      obtain ⟨_, its, k, r, e⟩ := I1.hok p _ (e1 _ _ hp)
      obtain ⟨_, its2, k2, r2, e2⟩ := I1.hok q _ (e1 _ _ hq)
      exact ⟨its, its2, k, k2, r, r2, e, e2, by rw [List.size_toArray, ← r.length], by rw [List.size_toArray, ← r2.length, hl]⟩
    refine rcL (N := xs.length) ne sb.room.units0 (fun i s' => LoopI X pins σ H s' ∧ ∀ j, j < i → f j = true) (fun s' => LoopI X pins σ H s' ∧ ∃ j, j < xs.length ∧ f j = false) (fun i s' z => ?_) (fun s' z => ?_) (fun s' z => ?_) ⟨⟨H, I, Ext.rfl'⟩, fun j hj => absurd hj (Nat.not_lt_zero _)⟩
    · obtain ⟨z, hf⟩ := z
      obtain ⟨as, bs, k, k2, r, r2, e, e2, z1, z2⟩ := look s' z
      refine ⟨_, _, k, k2, e, e2, z1, z2, fun g1 g2 => wpAny_mono (turnB hD h sb pr r r2 i g1 g2 s' z) (fun r s2 q2 => ?_) fun _ _ x => x⟩
      obtain ⟨rfl, q2⟩ := q2
      refine ⟨fun t => ⟨q2, fun j hj => ?_⟩, fun t => ⟨⟨q2, i, by omega, t⟩, ?_⟩⟩
      · by_cases hji : j = i
        · rw [hji]; exact t
        · exact hf j (by omega)
      · obtain ⟨as, bs, k, k2, r, r2, e, e2, z1, z2⟩ := look s2 q2
        exact ⟨_, _, k, k2, e, e2, z1, z2⟩
    · obtain ⟨⟨H1, z⟩, hf⟩ := z
      refine ⟨?_, H1, z⟩
      rw [decide_eq_true hl, allF_true hf]
      cases ne <;> rfl
    · obtain ⟨⟨H1, z⟩, j, hj, e⟩ := z
      refine ⟨?_, H1, z⟩
      rw [allF_false hj e, Bool.and_false, Bool.xor_false]
  · obtain ⟨_, its, k, r, e⟩ := I.hok p _ hp
    obtain ⟨_, its2, k2, r2, e2⟩ := I.hok q _ hq
    refine rcN ne sb.room.units0 e e2 (by rw [List.size_toArray, List.size_toArray, ← r.length, ← r2.length]; exact hl) ⟨?_, H, I, Ext.rfl'⟩
    rw [decide_eq_false hl, Bool.false_and, Bool.xor_false]
theorem rcB_tup (ne : Bool) (hD : MonB D) (h : EqB X n D) : RcB X (n + 1) ne (BTup X.K D) := by
  intro A pins s σ H x y u v b sb I rx ry d
  obtain ⟨p, q, xs, ys, f, rfl, rfl, hp, hq, pr, rfl⟩ := d
  cases rx
  cases ry
  obtain ⟨its, r, e, z⟩ := I.tuple hp
  obtain ⟨its2, r2, e2, z2⟩ := I.tuple hq
  have w1 : its.toArray.size = xs.length := by rw [List.size_toArray, ← r.length]
  have w2 : its2.toArray.size = ys.length := by rw [List.size_toArray, ← r2.length]
  refine rcT ne sb.room.units0 (fun i s' => LoopI X pins σ H s' ∧ ∀ j, j < i → f j = true) (fun s' => LoopI X pins σ H s' ∧ ∃ j, j < xs.length ∧ f j = false) e e2 (fun i g1 g2 s' z => ?_) (fun s' z => ?_) (fun s' z => ?_) ⟨⟨H, I, Ext.rfl'⟩, fun j hj => absurd hj (Nat.not_lt_zero _)⟩
  · obtain ⟨z, hf⟩ := z
    refine wpAny_mono (turnB hD h sb pr r r2 i g1 g2 s' z) (fun r s2 q2 => ?_) fun _ _ x => x
    obtain ⟨rfl, q2⟩ := q2
    refine ⟨fun t => ⟨q2, fun j hj => ?_⟩, fun t => ⟨q2, i, by omega, t⟩⟩
    by_cases hji : j = i
    · rw [hji]; exact t
    · exact hf j (by omega)
  · obtain ⟨⟨H1, z⟩, hf⟩ := z
    refine ⟨?_, H1, z⟩
    rw [w1, w2] at hf ⊢
    by_cases hl : xs.length = ys.length
    · rw [decide_eq_true hl, allF_true (fun j hj => hf j (by omega)), hl]
      simp
    · rw [decide_eq_false hl]
      have : (xs.length == ys.length) = false := by simpa using hl
      rw [this]
      rfl
  · obtain ⟨⟨H1, z⟩, j, hj, e⟩ := z
    refine ⟨?_, H1, z⟩
    rw [allF_false hj e, Bool.and_false, Bool.xor_false]
/-- x == y, x != y as expressions -/
def rEqB (ne : Bool) (D : BEq2) : R2 := fun x y H Q => ∃ b, D x y b H ∧ ∀ H', Ext H H' → Q (.bl (ne ^^ b)) H'
theorem op_eqB (h : RcB X n false D) (hr : Room n X.A) : OpR X (compareOp .Eq) (rEqB false D) := by
  intro pins s σ H x y v u Q I rx ry hq
  obtain ⟨b, d, q⟩ := hq
  show wpAny (model X.prog X.w) X.A (richCompare .Eq v u) (EP X pins σ Q) X.xe s
  refine wpAny_mono (h X.A pins s σ H x y v u b ⟨hr, rfl⟩ I rx ry d) (fun r s' z => ?_) fun _ _ x => x
  obtain ⟨rfl, H', I', e⟩ := z
  exact ⟨.bl _, H', I', rfl, q H' e⟩
theorem op_neB (h : RcB X n true D) (hr : Room n X.A) : OpR X (compareOp .NotEq) (rEqB true D) := by
  intro pins s σ H x y v u Q I rx ry hq
  obtain ⟨b, d, q⟩ := hq
  show wpAny (model X.prog X.w) X.A (richCompare .NotEq v u) (EP X pins σ Q) X.xe s
  refine wpAny_mono (h X.A pins s σ H x y v u b ⟨hr, rfl⟩ I rx ry d) (fun r s' z => ?_) fun _ _ x => x
  obtain ⟨rfl, H', I', e⟩ := z
  exact ⟨.bl _, H', I', rfl, q H' e⟩
end
end KA
namespace KA
open PySem PySem.Spec PySem.W PyProof.Rows
section
variable {prog : Program} {w : World} {A : Around} {E : Value → Shared → Prop} {s : Shared} {K : Frag} {x C f : Addr} {ox : Obj} {od : Option Obj}
theorem none_eq_ref {Q : Value → Shared → Prop} (h : Q .notImplemented s) : wpAny (model prog w) A (call (.builtin "NoneType.__eq__") [.none, .ref x]) Q E s := by
  refine wpAny_call_entry PySem.F.slot_NoneType_eq (typeIs_none s) PySem.F.entry_NoneType_eq ?_ (PySem.F.args_NoneType_eq_2 _ _)
  unfold Builtin.«NoneType.__eq__»
  wp_walk
  exact ⟨_, rfl, h⟩
/-- None == x, x an instance whose class has its own == : that one is asked -/
theorem cmp_none {Q : Value → Shared → Prop} (hu : A.units < cLine) (X : K.In s.heap) (I : InstAt s.heap x ox C od) (hn : subIn K (.ref C) (.type "NoneType") = some false)
    (hs : findIn K (.ref C) "__eq__" = some (some (.ref f))) (hf : isFn K (.ref f) = true)
    (h : wpAny (model prog w) A (call (.ref f) [.ref x, .none]) (PySem.W.CmpBack Q) E s) : wpAny (model prog w) A (richCompare .Eq .none (.ref x)) Q E s := by
  have one : wpAny (model prog w) A (tryCompare (.ref x) "__eq__" .none) (fun r s' => ∃ v, r = some v ∧ Q v s') E s := by
    unfold tryCompare
    refine wpAny_bind (ifBound_K X I hs hf (wpAny_mono h (fun v s' hv => ?_) fun _ _ e => e))
    cases v <;> first | exact hv.elim | exact wpAny_pure ⟨_, rfl, hv⟩
  have two : wpAny (model prog w) A (tryCompare .none "__eq__" (.ref x)) (fun r s' => r = none ∧ s' = s) E s := by
    unfold tryCompare
    refine wpAny_bind (wpAny_callSpecialIfBound?_slot (name := (cmpInfo .Eq).2.1) (typeIs_none s) PySem.F.slot_NoneType_eq (none_eq_ref ?_))
    exact wpAny_pure ⟨rfl, rfl⟩
  unfold richCompare
  refine wpAny_holding (wpAny_bind (wpAny_cRoomFor hu ?_))
  rw [show oneThing? .Eq .none (.ref x) = none from rfl]
  refine wpAny_bind (wpAny_typeOf (typeIs_none s) (wpAny_bind (I.type.here ?_)))
  refine PySem.W.KFB.if_so rfl (wpAny_bind ((looks_subIn X hn).here ?_))
  refine PySem.W.KFB.if_not rfl ?_
  refine wpAny_bind (wpAny_mono two (fun r s' z => ?_) fun _ _ e => e)
  obtain ⟨rfl, rfl⟩ := z
  refine PySem.W.KFB.if_so rfl (wpAny_bind (wpAny_mono one (fun r s' z => ?_) fun _ _ e => e))
  obtain ⟨v, rfl, hq⟩ := z
  exact wpAny_pure hq
end
end KA

namespace KA
open PySem PySem.Spec PyProof.Rows L2
/-- eqBool of what is not one thing, by the rich comparison -/
theorem eqBool_by {prog : Program} {w : World} {A : Around} {E : Value → Shared → Prop} {s : Shared} {u v : Value} {Q : Bool → Shared → Prop} (hu : (∃ a, u = .ref a) ∨ u = .none) (hne : (u == v) = false)
    (h : wpAny (model prog w) A (richCompare .Eq u v) (fun r s' => ∃ b, r = .bool b ∧ Q b s') E s) : wpAny (model prog w) A (eqBool u v) Q E s := by
  unfold eqBool
  refine wpAny_holding ?_
  refine wpAny_ite_split (fun hab => by rw [hne] at hab; cases hab) (fun _ => ?_)
  rcases hu with ⟨a, rfl⟩ | rfl
  · refine wpAny_bind (wpAny_mono h (fun r s' hv => ?_) fun _ _ x => x)
    obtain ⟨b, rfl, q⟩ := hv
    exact wpAny_truthy_bool q
  · refine wpAny_bind (wpAny_mono h (fun r s' hv => ?_) fun _ _ x => x)
    obtain ⟨b, rfl, q⟩ := hv
    exact wpAny_truthy_bool q
/-- what an own == promises: R tells its answer -/
def spEqO (R : Addr → V → Bool → Hp → Prop) : Sp := fun vs H Q _ => ∃ (a : Addr) (y : V) (b : Bool), vs = [.ref a, y] ∧ R a y b H ∧ ∀ H', Ext H H' → Q (.bl b) H'
section
variable {X : Cx} {n : Nat} {CX : CXT} {C f : Addr} {fd : FuncData} {ps : List Str} {R : Addr → V → Bool → Hp → Prop} {E : XK}
theorem run_eqO {A : Around} {pins : List (Addr × Obj)} {σ : L2.St} {H : Hp} {s : Shared} {a : Addr} {y : V} {v : Value} {b : Bool} (F : FnOk X.prog X.w X.K X.mg X.base CX n f fd ps (spEqO R)) (hb : Binds X.K fd ps []) (hx : Passes CX X E) (sb : Sub X n A) (I : L2.Inv X pins σ H s)
    (ry : RelV y v) (d : R a y b H) : wpAny (model X.prog X.w) A (call (.ref f) [.ref a, v]) (PySem.W.CmpBack fun r s' => r = .bool b ∧ ∃ H', L2.Inv X pins σ H' s' ∧ Ext H H') X.xe s := by
  have hsp : spEqO R [.ref a, y] H (fun z H' => z = .bl b ∧ Ext H H') E := ⟨a, y, b, rfl, d, fun H' e => ⟨rfl, e⟩⟩
  have e0 : Env0 X.prog X.w X.K X.mg X.base A X.stack s H := by
    have e := I.env0
    exact ⟨by rw [sb.fr]; exact e.frames, e.mod, e.bs, e.bsz, e.funs, e.frf, e.hok, e.bare⟩
  have hl := F.len _ _ _ _ hsp
  have r2 : Vals [V.ref a, y] [Value.ref a, v] := .cons rfl (.cons ry .nil)
  refine wpAny_call (codeAny_mono (F.run A X.stack s H ⟨[.ref a, v], []⟩ [.ref a, v] [.ref a, y] _ E sb.room e0 (by
    have := hb s [.ref a, v] I.kIn (by simpa using hl)
    simpa using this) r2 hsp) fun r s' hq => ?_)
  cases r with
  | error e => exact hx pins σ H s e s' I hq
  | ok fl =>
    cases fl with
    | ret z =>
      obtain ⟨z, H', I', rz, ez, ex⟩ := I.after hq
      subst ez
      cases rz
      exact ⟨rfl, H', I', ex⟩
    | next => exact False.elim hq
    | brk => exact False.elim hq
    | cont => exact False.elim hq
/-- an instance of the class at C beside anything, or None beside an instance -/
def BOwn (K : PySem.W.Frag) (C : Addr) (R : Addr → V → Bool → Hp → Prop) : BEq2 := fun x y b H =>
  (∃ (a dx : Addr) (fs : List (Str × V)) (t : Value), x = .ref a ∧ H a = some (.ins C dx fs) ∧ TyX K H y t ∧ PySem.W.notFirst K C t = true ∧ R a y b H ∧ (y = .ref a → b = true)) ∨
  ∃ (a dx : Addr) (fs : List (Str × V)), x = .non ∧ y = .ref a ∧ H a = some (.ins C dx fs) ∧ R a .non b H
theorem rcB_own (F : FnOk X.prog X.w X.K X.mg X.base CX n f fd ps (spEqO R)) (hs : PySem.W.findIn X.K (.ref C) "__eq__" = some (some (.ref f))) (hf : PySem.W.isFn X.K (.ref f) = true) (hb : Binds X.K fd ps []) (hx : Passes CX X E)
    (hn : PySem.W.subIn X.K (.ref C) (.type "NoneType") = some false) : RcB X n false (BOwn X.K C R) := by
  intro A pins s σ H x y u v b sb I rx ry d
  have fin : (false ^^ b) = b := Bool.false_xor b
  rw [fin]
  rcases d with ⟨a, dx, fs, t, rfl, ha, ty, nf, hR, _⟩ | ⟨a, dx, fs, rfl, rfl, ha, hR⟩
  · cases rx
    obtain ⟨mA, J, _⟩ := ins_get I.hok ha
    obtain ⟨od, J, _⟩ := J.look
    obtain ⟨Pz, Z, p, _⟩ := kit_of I ry ty
    obtain ⟨m, hF⟩ := I.fr
    exact PySem.W.cmp_K (op := .Eq) (tb := t) sb.room.units0 hF I.ok.mod.kin J (Z.ty _ _ I.kIn p) nf hs hf (run_eqO F hb hx sb I ry hR)
  · cases rx
    cases ry
    obtain ⟨mA, J, _⟩ := ins_get I.hok ha
    obtain ⟨od, J, _⟩ := J.look
    exact cmp_none sb.room.units0 I.kIn J hn hs hf (run_eqO (y := .non) F hb hx sb I rfl hR)
theorem eqB_own (F : FnOk X.prog X.w X.K X.mg X.base CX n f fd ps (spEqO R)) (hs : PySem.W.findIn X.K (.ref C) "__eq__" = some (some (.ref f))) (hf : PySem.W.isFn X.K (.ref f) = true) (hb : Binds X.K fd ps []) (hx : Passes CX X E)
    (hn : PySem.W.subIn X.K (.ref C) (.type "NoneType") = some false) : EqB X n (BOwn X.K C R) := by
  intro A pins s σ H x y u v b sb I rx ry d
  by_cases hsame : (u == v) = true
  · have e := eq_of_beq hsame
    subst e
    have hb1 : b = true := by
      rcases d with ⟨a, dx, fs, t, rfl, ha, ty, nf, hR, h⟩ | ⟨a, dx, fs, rfl, rfl, ha, hR⟩
      · cases rx
        refine h ?_
        cases y with
        | ref c =>
          cases ry
          rfl
        | non => cases ry
        | bl _ => cases ry
        | int _ => obtain ⟨_, z⟩ := ry; cases z
        | str _ => obtain ⟨_, z⟩ := ry; cases z
        | byt _ => obtain ⟨_, z⟩ := ry; cases z
        | flt _ => obtain ⟨_, z⟩ := ry; cases z
        | ty _ => cases ry
      · cases rx
        cases ry
    rw [hb1]
    exact SeqAt.EqAt.same (A := A) (s := s) u X.prog X.w X.xe _ ⟨rfl, H, I, Ext.rfl'⟩
  · have hu : (∃ a, u = .ref a) ∨ u = .none := by
      rcases d with ⟨a, dx, fs, t, rfl, ha, ty, nf, hR, h⟩ | ⟨a, dx, fs, rfl, rfl, ha, hR⟩
      · cases rx
        exact .inl ⟨_, rfl⟩
      · cases rx
        exact .inr rfl
    refine eqBool_by hu (by simpa using hsame) (wpAny_mono (rcB_own F hs hf hb hx hn A pins s σ H x y u v b sb I rx ry d) (fun r s' q => ?_) fun _ _ x => x)
    obtain ⟨hr, q⟩ := q
    exact ⟨b, by rw [hr, Bool.false_xor], rfl, q⟩
theorem monB_own {K : PySem.W.Frag} (hR : ∀ a y b H H', Ext H H' → R a y b H → R a y b H') : MonB (BOwn K C R) := fun x y b H H' e d => by
  rcases d with ⟨a, dx, fs, t, hx, ha, ty, nf, r, h⟩ | ⟨a, dx, fs, hx, hy, ha, r⟩
  · exact .inl ⟨a, dx, fs, t, hx, e _ _ ha, tyx_same e ty, nf, hR _ _ _ _ _ e r, h⟩
  · exact .inr ⟨a, dx, fs, hx, hy, e _ _ ha, hR _ _ _ _ _ e r⟩
end
end KA
/-! tuples as == in a list (index, count, in) asks them: the very same is equal -/
namespace KA
open PySem PySem.Spec PyProof.Rows L2
section
variable {X : Cx} {n : Nat} {D : BEq2}
def BTupI (K : PySem.W.Frag) (D : BEq2) : BEq2 := fun x y b H => BTup K D x y b H ∧ (y = x → b = true)
theorem monB_tupI {K : PySem.W.Frag} (hD : MonB D) : MonB (BTupI K D) := fun x y b H H' e d => ⟨monB_tup hD x y b H H' e d.1, d.2⟩
theorem eqB_tupI (hD : MonB D) (h : EqB X n D) : EqB X (n + 1) (BTupI X.K D) := by
  intro A pins s σ H x y u v b sb I rx ry d
  obtain ⟨d, same⟩ := d
  obtain ⟨p, q, xs, ys, f, rfl, rfl, _⟩ := id d
  cases rx
  cases ry
  by_cases hpq : p = q
  · subst hpq
    rw [same rfl]
    exact SeqAt.EqAt.same (A := A) (s := s) _ X.prog X.w X.xe _ ⟨rfl, H, I, Ext.rfl'⟩
  · refine eqBool_by (.inl ⟨_, rfl⟩) (beq_eq_false_iff_ne.mpr fun e => hpq (by injection e)) ?_
    refine wpAny_mono (rcB_tup false hD h A pins s σ H (.ref p) (.ref q) (.ref p) (.ref q) b sb I rfl rfl d) (fun r s' q => ?_) fun _ _ e => e
    obtain ⟨rfl, H', J, x⟩ := q
    exact ⟨_, rfl, Bool.false_xor b, H', J, x⟩
theorem eqB_tupIK {K : PySem.W.Frag} (hK : X.K = K) (hD : MonB D) (h : EqB X n D) : EqB X (n + 1) (BTupI K D) := by
  subst hK
  exact eqB_tupI hD h
/-- two tuples of the same flat things -/
theorem flat_same {K : PySem.W.Frag} {H : Hp} {p q : Addr} {xs : List V} (hp : SqT K H p xs) (hq : SqT K H q xs) (hf : ∀ x ∈ xs, flatV x = true) (he : ∀ x ∈ xs, eqV x x = true) : BTup K BFlat (.ref p) (.ref q) true H :=
  ⟨p, q, xs, xs, fun _ => true, rfl, rfl, hp, hq, fun i x y hx hy => by
    rw [hx] at hy
    cases hy
    exact ⟨hf x (List.mem_of_getElem? hx), hf x (List.mem_of_getElem? hx), he x (List.mem_of_getElem? hx)⟩, by rw [decide_eq_true rfl, allF_true fun _ _ => rfl]; rfl⟩
end
end KA
namespace KA
open PySem PySem.Spec PyProof.Rows L2
section
variable {X : Cx} {a b : Expr} {ta tb : TE} {rest : List Expr} {pos : Pos} {K' : PySem.W.Frag}
/-- the truth of a value, of an instance of an own class without __bool__ and __len__, too -/
def TruW (K : PySem.W.Frag) (x : V) (H : Hp) (k : Bool) : Prop := TruV K x H k ∨ ∃ (a C dx : Addr) (fs : List (Str × V)), x = .ref a ∧ H a = some (.ins C dx fs) ∧ PySem.W.findIn K (.ref C) "__bool__" = some none ∧ PySem.W.findIn K (.ref C) "__len__" = some none ∧ k = true
theorem truW_ok : TruR X (fun x H Q => ∃ k, TruW X.K x H k ∧ Q k H) := by
  intro pins s σ H x v Q I rx h
  obtain ⟨k, h | ⟨a, C, dx, fs, rfl, ha, hb, hl, rfl⟩, q⟩ := h
  · exact tru_ok pins s σ H x v Q I rx ⟨k, h, q⟩
  · cases rx
    obtain ⟨mA, J, _⟩ := ins_get I.hok ha
    obtain ⟨od, J, _⟩ := J.look
    obtain ⟨m, hF⟩ := I.fr
    exact PySem.W.truthy_K0 hF I.ok.mod.kin J hb hl ⟨H, I, q⟩
def tAndW (K : PySem.W.Frag) (ta tb : TE) : TE := fun σ H Q => ta σ H fun x H1 => ∃ k, TruW K x H1 k ∧ if k = true then tb σ H1 Q else Q x H1
theorem pe_andW (hK : X.K = K') (ha : PE X a ta) (hb : PE X (.BoolOp .And (b :: rest) pos) tb) : PE X (.BoolOp .And (a :: b :: rest) pos) (tAndW K' ta tb) := by
  subst hK
  refine ⟨fun pins s σ H Q I h => ?_⟩
  refine BoolOp_and (thn (ha.run pins s σ H _ I h) fun v s1 ⟨x, H1, I1, r1, k, e, q1⟩ => ?_)
  refine thn (truW_ok pins s1 σ H1 x v (fun c H2 => c = k ∧ H2 = H1) I1 r1 ⟨k, e, rfl, rfl⟩) fun c s2 ⟨H2, I2, e1, e2⟩ => ?_
  subst e2 e1
  cases c with
  | true => exact hb.run pins s2 σ H2 Q I2 q1
  | false => exact ⟨x, H2, I2, r1, q1⟩
theorem op_catAK (hK : X.K = K') : OpR X (binaryOp .Add) (rCatA K') := by
  subst hK
  exact op_catA
end
end KA
namespace KA
open PySem PySem.Spec PyProof.Rows L2
/-- a comprehension over a list that leaves places out; what it asks may make new things -/
theorem lc_someX {K : PySem.W.Frag} {a : Addr} {xs : List V} {H : Hp} {D : Addr} (hD : H D = none) (hS : SqL K H a xs) (hl : xs.length ≤ 10000) (p : Nat → Bool) (f : Nat → V)
    {g : TG} {tt : TT} {te : TE} {vs : List Nat} {σ : L2.St} {Qd : Hp → Prop}
    (turn : ∀ (i : Nat) (x : V) (H2 : Hp) (R : V → Hp → Prop) (C : Hp → Prop), xs[i]? = some x → Same H H2 → (p i = true → ∀ H3, Same H2 H3 → R (f i) H3) → (p i = false → ∀ H3, Same H2 H3 → C H3) → g x (wipe σ vs) H2 fun σ2 H2 => wipe σ2 vs = wipe σ vs ∧ tt σ2 H2 fun b H3 => if b = true then te σ2 H3 R else C H3)
    (fin : ∀ H', Same H H' → H' D = some (.lst (((List.range xs.length).filter p).map f)) → Qd H') :
    ∃ W : Nat → Nat → Hp → Prop, (∃ m, W 0 m (upd H D (.lst []))) ∧ ∀ i m H, W i m H →
      ((Itl K a).stop i H ∧ Qd H) ∨ ((Itl K a).go i H ∧ ∃ Nx : Hp → Prop, (∀ H', Nx H' → ∃ m', m' < m ∧ W (i + 1) m' H') ∧ ∀ x H', (Itl K a).yld i H x H' → g x (wipe σ vs) H' fun σ2 H2 => wipe σ2 vs = wipe σ vs ∧ tt σ2 H2 fun b H3 =>
        if b = true then te σ2 H3 fun y H4 => ∃ acc, H4 D = some (.lst acc) ∧ acc.length < sizeLine ∧ Nx (upd H4 D (.lst (acc ++ [y]))) else Nx H3) := by
  refine lc_list (K := K) (a := a) (xs := xs) (fun i H' => Same H H' ∧ H' D = some (.lst (((List.range i).filter p).map f))) ⟨same_upd hD, upd_same⟩ (fun i H' _ h => h.1.seq hS) ?_ ?_
  · rintro i x H2 hi ⟨s2, e2⟩
    have hil : i < xs.length := (List.getElem?_eq_some_iff.mp hi).1
    refine turn i x H2 _ _ hi s2 (fun hp H3 s3 => ?_) (fun hp H3 s3 => ?_)
    · refine ⟨_, s3 _ _ e2, ?_, fun b o h => ?_, ?_⟩
      · rw [List.length_map]
        refine Nat.lt_of_le_of_lt (List.length_filter_le _ _) ?_
        rw [List.length_range]
        exact Nat.lt_of_lt_of_le (show i < 10000 by omega) (by decide)
      · rw [upd_ne (ne_of_none h hD)]
        exact s3 _ _ (s2 _ _ h)
      · rw [upd_same, List.range_succ, List.filter_append, List.map_append, List.filter_cons_of_pos hp]
        rfl
    · refine ⟨s2.trans s3, ?_⟩
      rw [s3 _ _ e2, List.range_succ, List.filter_append, List.map_append, List.filter_cons_of_neg (by rw [hp]; exact Bool.false_ne_true)]
      show _ = some (HO.lst (_ ++ []))
      rw [List.append_nil]
  · rintro H' ⟨s, e⟩
    exact fin H' s e
theorem lc_someR {n : Nat} {H : Hp} {D : Addr} (hD : H D = none) (hl : n ≤ 10000) (p : Nat → Bool) (f : Nat → V)
    {g : TG} {tt : TT} {te : TE} {vs : List Nat} {σ : L2.St} {Qd : Hp → Prop}
    (turn : ∀ (i : Nat) (H2 : Hp) (R : V → Hp → Prop) (C : Hp → Prop), i < n → Same H H2 → (p i = true → ∀ H3, Same H2 H3 → R (f i) H3) → (p i = false → ∀ H3, Same H2 H3 → C H3) → g (.int (0 + i)) (wipe σ vs) H2 fun σ2 H2 => wipe σ2 vs = wipe σ vs ∧ tt σ2 H2 fun b H3 => if b = true then te σ2 H3 R else C H3)
    (fin : ∀ H', Same H H' → H' D = some (.lst (((List.range n).filter p).map f)) → Qd H') :
    ∃ W : Nat → Nat → Hp → Prop, (∃ m, W 0 m (upd H D (.lst []))) ∧ ∀ i m H, W i m H →
      ((Itr 0 n).stop i H ∧ Qd H) ∨ ((Itr 0 n).go i H ∧ ∃ Nx : Hp → Prop, (∀ H', Nx H' → ∃ m', m' < m ∧ W (i + 1) m' H') ∧ ∀ x H', (Itr 0 n).yld i H x H' → g x (wipe σ vs) H' fun σ2 H2 => wipe σ2 vs = wipe σ vs ∧ tt σ2 H2 fun b H3 =>
        if b = true then te σ2 H3 fun y H4 => ∃ acc, H4 D = some (.lst acc) ∧ acc.length < sizeLine ∧ Nx (upd H4 D (.lst (acc ++ [y]))) else Nx H3) := by
  refine lc_range (lo := 0) (n := n) (fun i H' => Same H H' ∧ H' D = some (.lst (((List.range i).filter p).map f))) ⟨same_upd hD, upd_same⟩ ?_ ?_
  · rintro i H2 hil ⟨s2, e2⟩
    refine turn i H2 _ _ hil s2 (fun hp H3 s3 => ?_) (fun hp H3 s3 => ?_)
    · refine ⟨_, s3 _ _ e2, ?_, fun b o h => ?_, ?_⟩
      · rw [List.length_map]
        refine Nat.lt_of_le_of_lt (List.length_filter_le _ _) ?_
        rw [List.length_range]
        exact Nat.lt_of_lt_of_le (show i < 10000 by omega) (by decide)
      · rw [upd_ne (ne_of_none h hD)]
        exact s3 _ _ (s2 _ _ h)
      · rw [upd_same, List.range_succ, List.filter_append, List.map_append, List.filter_cons_of_pos hp]
        rfl
    · refine ⟨s2.trans s3, ?_⟩
      rw [s3 _ _ e2, List.range_succ, List.filter_append, List.map_append, List.filter_cons_of_neg (by rw [hp]; exact Bool.false_ne_true)]
      show _ = some (HO.lst (_ ++ []))
      rw [List.append_nil]
  · rintro H' ⟨s, e⟩
    exact fin H' s e
end KA
namespace KA
open PySem PySem.Spec PyProof.Rows L2
/-- a comprehension over a list whose values may be lists: what is known of them is kept by all but the new list -/
theorem lc_genD {K : PySem.W.Frag} {a : Addr} {xs : List V} {H : Hp} {D : Addr} (hD : H D = none) (hS : SqL K H a xs) (hl : xs.length ≤ 10000) (G : Nat → V → Hp → Prop) (hG : ∀ j v H1 H2, But D H1 H2 → G j v H1 → G j v H2)
    {g : TG} {tt : TT} {te : TE} {vs : List Nat} {σ : L2.St} {Qd : Hp → Prop}
    (turn : ∀ (i : Nat) (x : V) (H2 : Hp) (R : V → Hp → Prop) (C : Hp → Prop), xs[i]? = some x → Same H H2 → (∃ acc, H2 D = some (.lst acc)) → (∀ v H3, Same H2 H3 → G i v H3 → R v H3) → g x (wipe σ vs) H2 fun σ2 H2 => wipe σ2 vs = wipe σ vs ∧ tt σ2 H2 fun b H3 => if b = true then te σ2 H3 R else C H3)
    (fin : ∀ H' acc, Same H H' → H' D = some (.lst acc) → acc.length = xs.length → (∀ j v, acc[j]? = some v → G j v H') → Qd H') :
    ∃ W : Nat → Nat → Hp → Prop, (∃ m, W 0 m (upd H D (.lst []))) ∧ ∀ i m H, W i m H →
      ((Itl K a).stop i H ∧ Qd H) ∨ ((Itl K a).go i H ∧ ∃ Nx : Hp → Prop, (∀ H', Nx H' → ∃ m', m' < m ∧ W (i + 1) m' H') ∧ ∀ x H', (Itl K a).yld i H x H' → g x (wipe σ vs) H' fun σ2 H2 => wipe σ2 vs = wipe σ vs ∧ tt σ2 H2 fun b H3 =>
        if b = true then te σ2 H3 fun y H4 => ∃ acc, H4 D = some (.lst acc) ∧ acc.length < sizeLine ∧ Nx (upd H4 D (.lst (acc ++ [y]))) else Nx H3) := by
  refine lc_list (K := K) (a := a) (xs := xs) (fun i H' => Same H H' ∧ ∃ acc, H' D = some (.lst acc) ∧ acc.length = i ∧ ∀ j v, acc[j]? = some v → G j v H') ⟨same_upd hD, [], upd_same, rfl, fun j v h => by simp at h⟩ (fun i H' _ h => h.1.seq hS) ?_ ?_
  · rintro i x H2 hi ⟨s2, acc, e2, l2, g2⟩
    have hil : i < xs.length := (List.getElem?_eq_some_iff.mp hi).1
    refine turn i x H2 _ _ hi s2 ⟨acc, e2⟩ fun v H3 s3 hv => ?_
    have e3 := s3 _ _ e2
    refine ⟨acc, e3, ?_, fun b o h => ?_, acc ++ [v], upd_same, ?_, fun j w hj => ?_⟩
    · rw [l2]
      exact Nat.lt_of_lt_of_le (show i < 10000 by omega) (by decide)
    · rw [upd_ne (ne_of_none h hD)]
      exact s3 _ _ (s2 _ _ h)
    · rw [List.length_append, l2]
      rfl
    · refine hG j w H3 _ But.at_ ?_
      by_cases h : j < acc.length
      · rw [List.getElem?_append_left h] at hj
        exact hG j w H2 H3 (But.of s3) (g2 j w hj)
      · rw [List.getElem?_append_right (by omega)] at hj
        have : j = i := by
          have := (List.getElem?_eq_some_iff.mp hj).1
          rw [List.length_singleton] at this
          omega
        subst this
        rw [l2, Nat.sub_self] at hj
        have : v = w := Option.some.inj hj
        subst this
        exact hv
  · rintro H' ⟨s, acc, e, l, g⟩
    exact fin H' acc s e l g
end KA
namespace KA
open PySem PySem.Spec PyProof.Rows L2
/-- a comprehension over enumerate(list) that leaves places out; what it asks may make new things -/
theorem lc_enumX {K : PySem.W.Frag} {a : Addr} {xs : List V} {H : Hp} {D : Addr} (hD : H D = none) (hS : SqL K H a xs) (hl : xs.length ≤ 10000) (p : Nat → Bool) (f : Nat → V)
    {g : TG} {tt : TT} {te : TE} {vs : List Nat} {σ : L2.St} {Qd : Hp → Prop}
    (turn : ∀ (i : Nat) (x : V) (T : Addr) (H2 : Hp) (R : V → Hp → Prop) (C : Hp → Prop), xs[i]? = some x → Same H H2 → H2 T = some (.tup [.int (i : Nat), x]) → (p i = true → ∀ H3, Same H2 H3 → R (f i) H3) → (p i = false → ∀ H3, Same H2 H3 → C H3) → g (.ref T) (wipe σ vs) H2 fun σ2 H2 => wipe σ2 vs = wipe σ vs ∧ tt σ2 H2 fun b H3 => if b = true then te σ2 H3 R else C H3)
    (fin : ∀ H', Same H H' → H' D = some (.lst (((List.range xs.length).filter p).map f)) → Qd H') :
    ∃ W : Nat → Nat → Hp → Prop, (∃ m, W 0 m (upd H D (.lst []))) ∧ ∀ i m H, W i m H →
      ((Ite K a).stop i H ∧ Qd H) ∨ ((Ite K a).go i H ∧ ∃ Nx : Hp → Prop, (∀ H', Nx H' → ∃ m', m' < m ∧ W (i + 1) m' H') ∧ ∀ x H', (Ite K a).yld i H x H' → g x (wipe σ vs) H' fun σ2 H2 => wipe σ2 vs = wipe σ vs ∧ tt σ2 H2 fun b H3 =>
        if b = true then te σ2 H3 fun y H4 => ∃ acc, H4 D = some (.lst acc) ∧ acc.length < sizeLine ∧ Nx (upd H4 D (.lst (acc ++ [y]))) else Nx H3) := by
  refine lc_it (walk_enum (K := K) (a := a) (xs := xs)) (fun i H' => Same H H' ∧ H' D = some (.lst (((List.range i).filter p).map f))) ⟨same_upd hD, upd_same⟩ (fun i H' _ h => h.1.seq hS) ?_ ?_
  · rintro i x H1 H2 hi ⟨s1, e1⟩ ⟨T, u, v, rfl, nT, rfl, c1, c2⟩
    have c1 : some (V.int (i : Nat)) = some u := c1
    cases c1
    have sT := same_upd nT (o := .tup [.int (i : Nat), v])
    refine turn i v T _ _ _ c2 (s1.trans sT) upd_same (fun hp H3 s3 => ?_) (fun hp H3 s3 => ?_)
    · refine ⟨_, s3 _ _ (sT _ _ e1), ?_, fun b o h => ?_, ?_⟩
      · rw [List.length_map]
        refine Nat.lt_of_le_of_lt (List.length_filter_le _ _) ?_
        rw [List.length_range]
        exact Nat.lt_of_lt_of_le (show i < 10000 by omega) (by decide)
      · rw [upd_ne (ne_of_none h hD)]
        exact s3 _ _ (sT _ _ (s1 _ _ h))
      · rw [upd_same, List.range_succ, List.filter_append, List.map_append, List.filter_cons_of_pos hp]
        rfl
    · refine ⟨(s1.trans sT).trans s3, ?_⟩
      rw [s3 _ _ (sT _ _ e1), List.range_succ, List.filter_append, List.map_append, List.filter_cons_of_neg (by rw [hp]; exact Bool.false_ne_true)]
      show _ = some (HO.lst (_ ++ []))
      rw [List.append_nil]
  · rintro H' ⟨s, e⟩
    exact fin H' s e
end KA
namespace KA
open PySem PySem.Spec PyProof.Rows L2
theorem cut_full {xs : List V} {lo hi : Option Int} (h : HT.sIx xs.length 0 lo = 0 ∧ HT.sIx xs.length xs.length hi = xs.length) : cutV xs lo hi = xs := by
  unfold cutV
  rw [h.1, h.2, List.drop_zero, Nat.sub_zero, List.take_of_length_le (Nat.le_refl _)]
/-- a part of a tuple, whichever -/
theorem sla_of {K : PySem.W.Frag} {a : Addr} {xs : List V} {lo hi : Option Int} {H : Hp} {Q : VK} (ha : H a = some (.tup xs)) (q : ∀ (H' : Hp) (p : Addr), Same H H' → H' p = some (.tup (cutV xs lo hi)) → Q (.ref p) H') : rSlA K (.ref a) lo hi H Q := by
  refine ⟨a, xs, rfl, .inl (.inl ha), fun h => q H a (Same.refl _) (by rw [cut_full h]; exact ha), fun _ p hp => q _ p (same_upd hp) upd_same⟩
/-- two tuples put together, whichever -/
theorem cata_of {K : PySem.W.Frag} {a b : Addr} {xs ys : List V} {H : Hp} {Q : VK} (ha : H a = some (.tup xs)) (hb : H b = some (.tup ys)) (hl : xs.length + ys.length ≤ sizeLine) (q : ∀ (H' : Hp) (p : Addr), Same H H' → H' p = some (.tup (xs ++ ys)) → Q (.ref p) H') : rCatA K (.ref a) (.ref b) H Q := by
  refine ⟨a, b, xs, ys, rfl, rfl, .inl (.inl ha), .inl (.inl hb), hl, fun h => ?_, fun _ h => ?_, fun _ _ p hp => q _ p (same_upd hp) upd_same⟩
  · subst h
    exact q H b (Same.refl _) hb
  · subst h
    exact q H a (Same.refl _) (by rw [List.append_nil]; exact ha)
/-- .. of a tuple wherever it stands -/
theorem sla_T {K : PySem.W.Frag} {a : Addr} {xs : List V} {lo hi : Option Int} {H : Hp} {Q : VK} (ha : SqT K H a xs) (q : ∀ (H' : Hp) (p : Addr), Same H H' → SqT K H' p (cutV xs lo hi) → Q (.ref p) H') : rSlA K (.ref a) lo hi H Q := by
  refine ⟨a, xs, rfl, ha, fun h => q H a (Same.refl _) (by rw [cut_full h]; exact ha), fun _ p hp => q _ p (same_upd hp) (.inl (.inl upd_same))⟩
theorem cata_T {K : PySem.W.Frag} {a b : Addr} {xs ys : List V} {H : Hp} {Q : VK} (ha : SqT K H a xs) (hb : SqT K H b ys) (hl : xs.length + ys.length ≤ sizeLine) (q : ∀ (H' : Hp) (p : Addr), Same H H' → SqT K H' p (xs ++ ys) → Q (.ref p) H') : rCatA K (.ref a) (.ref b) H Q := by
  refine ⟨a, b, xs, ys, rfl, rfl, ha, hb, hl, fun h => ?_, fun _ h => ?_, fun _ _ p hp => q _ p (same_upd hp) (.inl (.inl upd_same))⟩
  · subst h
    exact q H b (Same.refl _) hb
  · subst h
    exact q H a (Same.refl _) (by rw [List.append_nil]; exact ha)
end KA
namespace KA
open PySem PySem.Spec PyProof.Rows L2
section
variable {X : Cx} {K' : PySem.W.Frag} {o e : Expr} {es : List Expr} {to : TE} {t : TA} {name : Str} {apos cpos : Pos} {T id : String} {r : V → List V → Hp → VK → Prop}
/-! methods and len within a block, the written part by its own name -/
theorem pe_bm0K (hK : X.K = K') (pa : PlainAttrs T) (slot : Slot T name id) (hty : typeOf (.builtin id) = pure (.type "method_descriptor")) (hm : MtR X id r) (ho : PE X o to)
    (hbase : attributeBase o name X.env (eval o X.env) = eval o X.env := by rfl) (hline : (apos.endLine == cpos.line) = true := by rfl) : PE X (.Call (.Attribute o name apos) [] [] cpos) (tBM0 K' T r to) := by
  subst hK
  exact pe_bm0 pa slot hty hm ho hbase hline
theorem pe_bmK (hK : X.K = K') (pa : PlainAttrs T) (slot : Slot T name id) (hty : typeOf (.builtin id) = pure (.type "method_descriptor")) (hm : MtR X id r) (ho : PE X o to) (ha : PA X (e :: es) t)
    (hbase : attributeBase o name X.env (eval o X.env) = eval o X.env := by rfl)
    (hfew : ((backTo cpos (starEach (e :: es) X.env)).all (fun x => !x.1) && (backToKw cpos (keywordEach [] X.env)).all (fun x => x.1.isSome)
      && decide ((e :: es).length + ([] : List Keyword).length + (if ([] : List Keyword).isEmpty then 0 else 1) < 30)) = true := by rfl)
    (hline : (apos.endLine == cpos.line) = true := by rfl) (hs : starEach (e :: es) X.env = (false, eval e X.env) :: starEach es X.env := by rfl) (hplain : (backTo cpos (starEach es X.env)).any (·.1) = false := by rfl) :
    PE X (.Call (.Attribute o name apos) (e :: es) [] cpos) (tBM K' T r to t) := by
  subst hK
  exact pe_bm pa slot hty hm ho ha hbase hfew hline hs hplain
def rLenK (K : PySem.W.Frag) : List V → Hp → VK → Prop := fun xs H Q => ∃ p ys, xs = [.ref p] ∧ (SqL K H p ys ∨ SqT K H p ys) ∧ Q (.int (ys.length : Nat)) H
theorem call_len_seqK (hK : X.K = K') : CallR X (.builtin "len") (rLenK K') := by
  subst hK
  exact call_len_seq
theorem call_list_ofK (hK : X.K = K') : CallR X (.type "list") (fun xs H Q => ∃ p ys, xs = [.ref p] ∧ (SqL K' H p ys ∨ SqT K' H p ys) ∧ ∀ l, H l = none → Q (.ref l) (upd H l (.lst ys))) := by
  subst hK
  exact call_list_of
end
end KA
namespace KA
open PySem PySem.SeqAt
open AutoSeq1 (wpAny_loadPart')
open MeetsSeq MeetsSeq2 MeetsSeq3 SeqRoads2
section
variable {prog : Program} {w : World} {A : Around} {R : Result → Shared → Prop}
/-- a list, read anew at each turn: the item is told equal to x or not -/
def ItI (prog : Program) (w : World) (A : Around) (E : Value → Shared → Prop) (p : Addr) (x : Value) (N : Nat) (J : Nat → Nat → Shared → Prop) (T : Nat → Nat → Bool → Shared → Prop) : Prop :=
  ∀ i c s, J i c s → ∃ (xs : Array Value) (m : Nat), s.heap.get? p = some { cls := .type "list", data := .seq xs m } ∧ xs.size = N ∧
    ∀ (g1 : i < xs.size), wpAny (model prog w) A.in1 (eqBool xs[i] x) (fun r s' => T i c r s') E s
theorem inB (p : Addr) (x : Value) (N : Nat) (J : Nat → Nat → Shared → Prop) (F : Shared → Prop) (hJ : ItI prog w A (fun e s' => R (.error e) s') p x N J (fun i c r s' => (r = false → J (i + 1) c s') ∧ (r = true → F s')))
    (done : ∀ c s, J N c s → R (.ok (.ret (.bool false))) s) (hit : ∀ s, F s → R (.ok (.ret (.bool true))) s) : ∀ (k i c : Nat), N - i = k → i ≤ N → ∀ s, J i c s →
      wpAny (model prog w) A.in1 (Builtin.«list.__contains__.loop» ⟨[.ref p, x, rawInt i], []⟩) (GQ.FinOf prog w A R) (fun e s' => R (.error e) s') s
  | 0, i, c, hk, hi, s, hs => by
    obtain ⟨xs, m, gp, zp, _⟩ := hJ _ _ _ hs
    have iN : i = N := by omega
    have last : R (.ok (.ret (.bool false))) s := done c s (iN ▸ hs)
    have n1 : xs[((i : Nat) : Int).toNat]? = none := by simp; omega
    obtain ⟨hh, gg, dd, kk, oo⟩ := s
    wp_walk using wpAny_loadPart' gp
    rw [n1]
    wp_walk
    exact last
  | k + 1, i, c, hk, hi, s, hs => by
    obtain ⟨xs, m, gp, zp, tn⟩ := hJ _ _ _ hs
    have ip : i < xs.size := by omega
    have tt := tn ip
    have n1 : xs[((i : Nat) : Int).toNat]? = some xs[i] := by simp [ip]
    have up : ((i : Int) + 1) = ((i + 1 : Nat) : Int) := by omega
    have next := fun s2 h2 => inB p x N J F hJ done hit k (i + 1) c (by omega) (by omega) s2 h2
    obtain ⟨hh, gg, dd, kk, oo⟩ := s
    wp_walk using wpAny_loadPart' gp
    rw [n1]
    refine wpAny_bind (wpAny_mono tt (fun r s2 h2 => ?_) fun _ _ x => x)
    cases r with
    | false =>
      have h3 := next s2 (h2.1 rfl)
      obtain ⟨hh2, gg2, dd2, kk2, oo2⟩ := s2
      wp_walk
      rw [up]
      exact ⟨plainId_quiet plain_contains_loop _, codeAny_builtin entry_contains_loop (by rw [Around.under_plainId plain_contains_loop _]; exact h3)⟩
    | true =>
      have h3 := hit s2 (h2.2 rfl)
      obtain ⟨hh2, gg2, dd2, kk2, oo2⟩ := s2
      wp_walk
      exact h3
theorem containsB (p : Addr) (x : Value) (N : Nat) (J : Nat → Nat → Shared → Prop) (F : Shared → Prop) (hJ : ItI prog w A (fun e s' => R (.error e) s') p x N J (fun i c r s' => (r = false → J (i + 1) c s') ∧ (r = true → F s')))
    (done : ∀ c s, J N c s → R (.ok (.ret (.bool false))) s) (hit : ∀ s, F s → R (.ok (.ret (.bool true))) s) {s : Shared} (hs : J 0 0 s) :
      wpAny (model prog w) A.in1 (Builtin.«list.__contains__» ⟨[.ref p, x], []⟩) (GQ.FinOf prog w A R) (fun e s' => R (.error e) s') s := by
  have all := inB p x N J F hJ done hit _ 0 0 rfl (Nat.zero_le _) s hs
  obtain ⟨xs, m, gp, zp, _⟩ := hJ _ _ _ hs
  obtain ⟨hh, gg, dd, kk, oo⟩ := s
  wp_walk using wpAny_loadPart' gp
  exact ⟨plainId_quiet plain_contains_loop _, codeAny_builtin entry_contains_loop (by rw [Around.under_plainId plain_contains_loop _]; exact all)⟩
theorem cntB (p : Addr) (x : Value) (N : Nat) (J : Nat → Nat → Shared → Prop) (hJ : ItI prog w A (fun e s' => R (.error e) s') p x N J (fun i c r s' => J (i + 1) (if r then c + 1 else c) s'))
    (done : ∀ c s, J N c s → R (.ok (.ret (.int (c : Int) s.toks))) { s with toks := s.toks + 1 }) : ∀ (k i c : Nat), N - i = k → i ≤ N → ∀ s, J i c s →
      wpAny (model prog w) A.in1 (Builtin.«list.count.loop» ⟨[.ref p, x, rawInt i, rawInt c], []⟩) (GQ.FinOf prog w A R) (fun e s' => R (.error e) s') s
  | 0, i, c, hk, hi, s, hs => by
    obtain ⟨xs, m, gp, zp, _⟩ := hJ _ _ _ hs
    have iN : i = N := by omega
    have last := done c s (iN ▸ hs)
    have n1 : xs[((i : Nat) : Int).toNat]? = none := by simp; omega
    obtain ⟨hh, gg, dd, kk, oo⟩ := s
    wp_walk using wpAny_loadPart' gp
    rw [n1]
    wp_walk
    exact last
  | k + 1, i, c, hk, hi, s, hs => by
    obtain ⟨xs, m, gp, zp, tn⟩ := hJ _ _ _ hs
    have ip : i < xs.size := by omega
    have tt := tn ip
    have n1 : xs[((i : Nat) : Int).toNat]? = some xs[i] := by simp [ip]
    have up : ((i : Int) + 1) = ((i + 1 : Nat) : Int) := by omega
    have up2 : ((c : Int) + 1) = ((c + 1 : Nat) : Int) := by omega
    have next := fun c' s2 h2 => cntB p x N J hJ done k (i + 1) c' (by omega) (by omega) s2 h2
    obtain ⟨hh, gg, dd, kk, oo⟩ := s
    wp_walk using wpAny_loadPart' gp
    rw [n1]
    refine wpAny_bind (wpAny_mono tt (fun r s2 h2 => ?_) fun _ _ x => x)
    cases r with
    | false =>
      have h3 := next c s2 h2
      obtain ⟨hh2, gg2, dd2, kk2, oo2⟩ := s2
      wp_walk
      simp only [Bool.false_eq_true, if_false]
      rw [up]
      exact ⟨plainId_quiet plain_count_loop _, codeAny_builtin entry_count_loop (by rw [Around.under_plainId plain_count_loop _]; exact h3)⟩
    | true =>
      have h3 := next (c + 1) s2 h2
      obtain ⟨hh2, gg2, dd2, kk2, oo2⟩ := s2
      wp_walk
      simp only [if_true]
      rw [up, up2]
      exact ⟨plainId_quiet plain_count_loop _, codeAny_builtin entry_count_loop (by rw [Around.under_plainId plain_count_loop _]; exact h3)⟩
theorem countB (p : Addr) (x : Value) (N : Nat) (J : Nat → Nat → Shared → Prop) (hJ : ItI prog w A (fun e s' => R (.error e) s') p x N J (fun i c r s' => J (i + 1) (if r then c + 1 else c) s'))
    (done : ∀ c s, J N c s → R (.ok (.ret (.int (c : Int) s.toks))) { s with toks := s.toks + 1 }) {s : Shared} (hs : J 0 0 s) :
      wpAny (model prog w) A.in1 (Builtin.«list.count» ⟨[.ref p, x], []⟩) (GQ.FinOf prog w A R) (fun e s' => R (.error e) s') s := by
  have all := cntB p x N J hJ done _ 0 0 rfl (Nat.zero_le _) s hs
  obtain ⟨xs, m, gp, zp, _⟩ := hJ _ _ _ hs
  obtain ⟨hh, gg, dd, kk, oo⟩ := s
  wp_walk using wpAny_loadPart' gp
  exact ⟨plainId_quiet plain_count_loop _, codeAny_builtin entry_count_loop (by rw [Around.under_plainId plain_count_loop _]; exact all)⟩
theorem idxB (upto : Int) (p : Addr) (x : Value) (N : Nat) (hN : (N : Int) < upto) (J : Nat → Nat → Shared → Prop) (hJ : ItI prog w A (fun e s' => R (.error e) s') p x N J (fun i c r s' => (r = false → J (i + 1) c s') ∧ (r = true → R (.ok (.ret (.int (i : Int) s'.toks))) { s' with toks := s'.toks + 1 })))
    (done : ∀ c s, ¬ J N c s) : ∀ (k i c : Nat), N - i = k → i ≤ N → ∀ s, J i c s →
      wpAny (model prog w) A.in1 (Builtin.«list.index.loop» ⟨[.ref p, x, rawInt i, rawInt upto], []⟩) (GQ.FinOf prog w A R) (fun e s' => R (.error e) s') s
  | 0, i, c, hk, hi, s, hs => by
    have iN : i = N := by omega
    exact absurd (iN ▸ hs) (done c s)
  | k + 1, i, c, hk, hi, s, hs => by
    obtain ⟨xs, m, gp, zp, tn⟩ := hJ _ _ _ hs
    have ip : i < xs.size := by omega
    have tt := tn ip
    have hst : (i : Int) < upto := by omega
    have n1 : (if (i : Int) < upto then xs[((i : Nat) : Int).toNat]? else none) = some xs[i] := by rw [if_pos hst]; simp [ip]
    have up : ((i : Int) + 1) = ((i + 1 : Nat) : Int) := by omega
    have next := fun s2 h2 => idxB upto p x N hN J hJ done k (i + 1) c (by omega) (by omega) s2 h2
    obtain ⟨hh, gg, dd, kk, oo⟩ := s
    wp_walk using wpAny_loadPart' gp
    rw [n1]
    refine wpAny_bind (wpAny_mono tt (fun r s2 h2 => ?_) fun _ _ x => x)
    cases r with
    | false =>
      have h3 := next s2 (h2.1 rfl)
      obtain ⟨hh2, gg2, dd2, kk2, oo2⟩ := s2
      wp_walk
      rw [up]
      exact ⟨plainId_quiet plain_index_loop _, codeAny_builtin entry_index_loop (by rw [Around.under_plainId plain_index_loop _]; exact h3)⟩
    | true =>
      have h3 := h2.2 rfl
      obtain ⟨hh2, gg2, dd2, kk2, oo2⟩ := s2
      wp_walk
      exact h3
theorem indexB (p : Addr) (x : Value) (N : Nat) (hN : (N : Int) < 2 ^ 63 - 1) (J : Nat → Nat → Shared → Prop) (hJ : ItI prog w A (fun e s' => R (.error e) s') p x N J (fun i c r s' => (r = false → J (i + 1) c s') ∧ (r = true → R (.ok (.ret (.int (i : Int) s'.toks))) { s' with toks := s'.toks + 1 })))
    (done : ∀ c s, ¬ J N c s) {s : Shared} (hs : J 0 0 s) :
      wpAny (model prog w) A.in1 (Builtin.«list.index» ⟨[.ref p, x], []⟩) (GQ.FinOf prog w A R) (fun e s' => R (.error e) s') s := by
  have all := idxB (2 ^ 63 - 1) p x N hN J hJ done _ 0 0 rfl (Nat.zero_le _) s hs
  obtain ⟨xs, m, gp, zp, _⟩ := hJ _ _ _ hs
  obtain ⟨hh, gg, dd, kk, oo⟩ := s
  wp_walk using wpAny_loadPart' gp
  have a1 : ((fun i : Int => if i < 0 then max 0 (i + (xs.size : Int)) else i) ((none : Option Int).getD 0)) = ((0 : Nat) : Int) := by simp
  have a2 : ((fun i : Int => if i < 0 then max 0 (i + (xs.size : Int)) else i) ((none : Option Int).getD (2 ^ 63 - 1))) = 2 ^ 63 - 1 := by simp
  rw [a1, a2]
  exact ⟨plainId_quiet plain_index_loop _, codeAny_builtin entry_index_loop (by rw [Around.under_plainId plain_index_loop _]; exact all)⟩
end
end KA
namespace KA
open PySem PySem.Spec PyProof.Rows L2
def anyF (N : Nat) (f : Nat → Bool) : Bool := (List.range N).any f
def cntF (N : Nat) (f : Nat → Bool) : Nat := (List.range N).countP f
theorem anyF_true {N j : Nat} {f : Nat → Bool} (h : j < N) (e : f j = true) : anyF N f = true := by
  unfold anyF
  rw [List.any_eq_true]
  exact ⟨j, List.mem_range.mpr h, e⟩
theorem anyF_false {N : Nat} {f : Nat → Bool} (h : ∀ j, j < N → f j = false) : anyF N f = false := by
  unfold anyF
  rw [List.any_eq_false]
  exact fun j hj => by rw [h j (List.mem_range.mp hj)]; simp
theorem cntF_succ {N : Nat} {f : Nat → Bool} : cntF (N + 1) f = if f N then cntF N f + 1 else cntF N f := by
  unfold cntF
  rw [List.range_succ, List.countP_append]
  cases h : f N <;> simp [h]
section
variable {X : Cx} {n : Nat} {D : BEq2}
/-- each item beside x, and what == tells -/
def ItsB (D : BEq2) (xs : List V) (x : V) (f : Nat → Bool) (H : Hp) : Prop := ∀ (i : Nat) z, xs[i]? = some z → D z x (f i) H
theorem turnI (hD : MonB D) (h : EqB X n D) {A : Around} (sb : Sub X (n + 1) A) {pins : List (Addr × Obj)} {σ : L2.St} {H : Hp} {xs : List V} {x : V} {u : Value} {its : List Value} {f : Nat → Bool} (p : ItsB D xs x f H) (r : Vals xs its) (rx : RelV x u)
    (i : Nat) (h1 : i < its.toArray.size) (s' : Shared) (l : LoopI X pins σ H s') :
    wpAny (model X.prog X.w) A.in1 (eqBool its.toArray[i] u) (fun r s2 => r = f i ∧ LoopI X pins σ H s2) X.xe s' := by
  obtain ⟨H1, I1, e1⟩ := l
  have l1 : i < its.length := by simpa using h1
  have k1 : i < xs.length := by rw [r.length]; exact l1
  obtain ⟨v, hu, ru⟩ := r.get (List.getElem?_eq_getElem k1)
  have g1 : its.toArray[i] = v := by
    rw [List.getElem?_eq_getElem l1] at hu
    simpa using Option.some.inj hu
  rw [g1]
  refine wpAny_mono (h A.in1 pins s' σ H1 _ _ v u _ sb.in1 I1 ru rx (hD _ _ _ _ _ e1 (p i _ (List.getElem?_eq_getElem k1)))) (fun r s2 q => ?_) fun _ _ x => x
  obtain ⟨hr, H2, I2, e2⟩ := q
  exact ⟨hr, H2, I2, e1.trans e2⟩
theorem lookI {pins : List (Addr × Obj)} {σ : L2.St} {H : Hp} {p : Addr} {xs : List V} (hp : H p = some (.lst xs)) (s' : Shared) (z : LoopI X pins σ H s') : ∃ (as : List Value) (m : Nat), Vals xs as ∧ s'.heap.get? p = some { cls := .type "list", data := .seq as.toArray m } ∧ as.toArray.size = xs.length := by
  obtain ⟨H1, I1, e1⟩ := id z
  obtain ⟨_, its, k, r, e⟩ := I1.hok p _ (e1 _ _ hp)
  exact ⟨its, k, r, e, by rw [List.size_toArray, ← r.length]⟩
theorem runIn {A : Around} {Q : Value → Shared → Prop} (hD : MonB D) (h : EqB X n D) (sb : Sub X (n + 1) A) {pins : List (Addr × Obj)} {s : Shared} {σ : L2.St} {H : Hp} {p : Addr} {xs : List V} {x : V} {u : Value} {f : Nat → Bool} (I : L2.Inv X pins σ H s) (rx : RelV x u) (hp : H p = some (.lst xs)) (pr : ItsB D xs x f H)
    (q : ∀ s', LoopI X pins σ H s' → Q (.bool (anyF xs.length f)) s') : wpAny (model X.prog X.w) A (call (.builtin "list.__contains__") [.ref p, u]) Q X.xe s := by
  obtain ⟨as, m, r, e, z1⟩ := lookI hp s ⟨H, I, Ext.rfl'⟩
  refine GQ.call_here PySem.F.slot_list_contains ⟨_, e, rfl⟩ PySem.F.entry_list_contains (PySem.F.args_list_contains_2 _ _) ?_
  refine containsB (R := wants Q X.xe) p u xs.length (fun i _ s' => LoopI X pins σ H s' ∧ ∀ j, j < i → f j = false) (fun s' => LoopI X pins σ H s' ∧ ∃ j, j < xs.length ∧ f j = true) (fun i c s' z => ?_) (fun c s' z => ?_) (fun s' z => ?_) ⟨⟨H, I, Ext.rfl'⟩, fun j hj => absurd hj (Nat.not_lt_zero _)⟩
  · obtain ⟨z, hf⟩ := z
    obtain ⟨as, k, r, e, z1⟩ := lookI hp s' z
    refine ⟨_, k, e, z1, fun g1 => wpAny_mono (turnI hD h sb pr r rx i g1 s' z) (fun r s2 q2 => ?_) fun _ _ x => x⟩
    obtain ⟨rfl, q2⟩ := q2
    refine ⟨fun t => ⟨q2, fun j hj => ?_⟩, fun t => ⟨q2, i, by omega, t⟩⟩
    by_cases hji : j = i
    · rw [hji]; exact t
    · exact hf j (by omega)
  · have := q s' z.1
    rw [anyF_false z.2] at this
    exact this
  · obtain ⟨z, j, hj, e⟩ := z
    have := q s' z
    rw [anyF_true hj e] at this
    exact this
def rInB (neg : Bool) (D : BEq2) : R2 := fun x y H Q => ∃ (p : Addr) (xs : List V) (f : Nat → Bool), y = .ref p ∧ H p = some (.lst xs) ∧ ItsB D xs x f H ∧ ∀ H', Ext H H' → Q (.bl (neg ^^ anyF xs.length f)) H'
theorem op_inB (hD : MonB D) (h : EqB X n D) (hr : Room (n + 1) X.A) : OpR X (compareOp .In) (rInB false D) := by
  intro pins s σ H x y v u Q I rx ry hq
  obtain ⟨p, xs, f, rfl, hp, pr, q⟩ := hq
  cases ry
  obtain ⟨as, m, r, e, z1⟩ := lookI hp s ⟨H, I, Ext.rfl'⟩
  show wpAny (model X.prog X.w) X.A (do return Value.bool (← contains (.ref p) v)) (EP X pins σ Q) X.xe s
  refine wpAny_bind (wpAny_contains_slot ⟨_, e, rfl⟩ PySem.F.slot_list_contains (runIn hD h ⟨hr, rfl⟩ I rx hp pr fun s' z => ?_))
  obtain ⟨H', I', ex⟩ := z
  exact wpAny_truthy_bool (wpAny_pure ⟨.bl _, H', I', rfl, by have := q H' ex; rwa [Bool.false_xor] at this⟩)
theorem op_notInB (hD : MonB D) (h : EqB X n D) (hr : Room (n + 1) X.A) : OpR X (compareOp .NotIn) (rInB true D) := by
  intro pins s σ H x y v u Q I rx ry hq
  obtain ⟨p, xs, f, rfl, hp, pr, q⟩ := hq
  cases ry
  obtain ⟨as, m, r, e, z1⟩ := lookI hp s ⟨H, I, Ext.rfl'⟩
  show wpAny (model X.prog X.w) X.A (do return Value.bool (!(← contains (.ref p) v))) (EP X pins σ Q) X.xe s
  refine wpAny_bind (wpAny_contains_slot ⟨_, e, rfl⟩ PySem.F.slot_list_contains (runIn hD h ⟨hr, rfl⟩ I rx hp pr fun s' z => ?_))
  obtain ⟨H', I', ex⟩ := z
  exact wpAny_truthy_bool (wpAny_pure ⟨.bl _, H', I', rfl, by have := q H' ex; rwa [Bool.true_xor] at this⟩)
/-- l.count(x) by own == -/
def rCountB (D : BEq2) : V → List V → Hp → VK → Prop := fun x xs H Q => ∃ (p : Addr) (ys : List V) (y : V) (f : Nat → Bool), x = .ref p ∧ xs = [y] ∧ H p = some (.lst ys) ∧ ItsB D ys y f H ∧ ∀ H', Ext H H' → Q (.int (cntF ys.length f : Nat)) H'
theorem mt_countB (hD : MonB D) (h : EqB X n D) (hr : Room (n + 1) X.A) : MtR X "list.count" (rCountB D) := by
  intro pins s σ H x xs v us Q I rx rxs hq
  obtain ⟨p, ys, y, f, rfl, rfl, hp, pr, q⟩ := hq
  cases rx
  cases rxs with
  | cons ry rt =>
    rename_i u ut
    cases rt
    obtain ⟨as, m, r, e, z1⟩ := lookI hp s ⟨H, I, Ext.rfl'⟩
    refine GQ.call_here PySem.F.slot_list_count ⟨_, e, rfl⟩ PySem.F.entry_list_count (PySem.F.args_list_count_2 _ _) ?_
    refine countB (R := wants (EP X pins σ Q) X.xe) p u ys.length (fun i c s' => LoopI X pins σ H s' ∧ c = cntF i f) (fun i c s' z => ?_) (fun c s' z => ?_) ⟨⟨H, I, Ext.rfl'⟩, rfl⟩
    · obtain ⟨z, rfl⟩ := z
      obtain ⟨as, k, r, e, z1⟩ := lookI hp s' z
      refine ⟨_, k, e, z1, fun g1 => wpAny_mono (turnI hD h ⟨hr, rfl⟩ pr r ry i g1 s' z) (fun r s2 q2 => ?_) fun _ _ x => x⟩
      obtain ⟨rfl, q2⟩ := q2
      exact ⟨q2, cntF_succ.symm⟩
    · obtain ⟨⟨H', I', ex⟩, rfl⟩ := z
      exact ⟨.int _, H', I'.tok _, ⟨_, rfl⟩, q H' ex⟩
/-- l.index(x) by own ==, where it is found -/
def rIndexB (D : BEq2) : V → List V → Hp → VK → Prop := fun x xs H Q => ∃ (p : Addr) (ys : List V) (y : V) (f : Nat → Bool) (j : Nat), x = .ref p ∧ xs = [y] ∧ H p = some (.lst ys) ∧ ItsB D ys y f H ∧ j < ys.length ∧ f j = true ∧ (∀ m, m < j → f m = false) ∧ ∀ H', Ext H H' → Q (.int (j : Nat)) H'
theorem mt_indexB (hD : MonB D) (h : EqB X n D) (hr : Room (n + 1) X.A) : MtR X "list.index" (rIndexB D) := by
  intro pins s σ H x xs v us Q I rx rxs hq
  obtain ⟨p, ys, y, f, j, rfl, rfl, hp, pr, hj, ej, nj, q⟩ := hq
  cases rx
  cases rxs with
  | cons ry rt =>
    rename_i u ut
    cases rt
    obtain ⟨hz, its, k, r, e⟩ := I.hok p _ hp
    have hsl := sizeLine_eq
    refine GQ.call_here PySem.F.slot_list_index ⟨_, e, rfl⟩ PySem.F.entry_list_index (PySem.F.args_list_index_2 _ _) ?_
    refine indexB (R := wants (EP X pins σ Q) X.xe) p u ys.length (by omega) (fun i c s' => LoopI X pins σ H s' ∧ i ≤ j) (fun i c s' z => ?_) (fun c s' z => by omega) ⟨⟨H, I, Ext.rfl'⟩, Nat.zero_le _⟩
    obtain ⟨z, hi⟩ := z
    obtain ⟨as, k, r, e, z1⟩ := lookI hp s' z
    refine ⟨_, k, e, z1, fun g1 => wpAny_mono (turnI hD h ⟨hr, rfl⟩ pr r ry i g1 s' z) (fun r s2 q2 => ?_) fun _ _ x => x⟩
    obtain ⟨rfl, q2⟩ := q2
    refine ⟨fun t => ⟨q2, ?_⟩, fun t => ?_⟩
    · have : i ≠ j := fun e => by rw [e, ej] at t; cases t
      omega
    · have ij : i = j := by
        by_cases hlt : i < j
        · rw [nj i hlt] at t; cases t
        · omega
      subst ij
      obtain ⟨H', I', ex⟩ := q2
      exact ⟨.int _, H', I'.tok _, ⟨_, rfl⟩, q H' ex⟩
end
end KA
/-! sorted(xs, key = own def or lambda): the keys may be new things -/
namespace KA
open PySem PySem.Spec PyProof.Rows L2
section
variable {X : Cx} {pins : List (Addr × Obj)} {σ : L2.St} {H : Hp} {s : Shared} {A : Around} {a kS : Addr} {e1 : Nat} {E : Value → Shared → Prop} {P : PySem.Fin → Shared → Prop}
/-- a list of ours that was pinned as it stood is written and known from now on -/
theorem trackL {o : Obj} {f : Obj → Obj} {its' : List Value} {n' : Nat} {ys : List V} (I : L2.Inv X ((a, o) :: pins) σ H s) (h0 : X.s_0.heap.objs.size ≤ a) (hp : ∀ p ∈ X.pn ++ pins, p.1 ≠ a) (hf : f o = seqObj "list" its'.toArray n')
    (r : Vals ys its') (hz : ys.length ≤ sizeLine) (t : Nat) : L2.Inv X pins σ (upd H a (.lst ys)) { s with heap := s.heap.update a f, toks := t } := by
  have pa := I.pin (a, o) (List.mem_append_right _ (List.mem_cons_self ..))
  have ha : s.heap.get? a = some o := pa.1
  have hn : H a = none := pa.2.1
  have I0 : L2.Inv X pins σ H s := I.pins_of fun p hq => I.pin p (List.mem_append_right _ (List.mem_cons_of_mem _ hq))
  have e : (s.heap.update a f).get? a = some (seqObj "list" its'.toArray n') := by
    rw [Heap.get?_update_self f ha (by rw [hf] <;> rfl), hf]
  have oth : ∀ b u, b ≠ a → s.heap.get? b = some u → (s.heap.update a f).get? b = some u := fun b u hb q => (Heap.get?_update_other _ _ (Ne.symm hb)).trans q
  have nt : ∀ b u, H b = some u → b ≠ a := fun b u q => ne_of_none q hn
  refine I0.step (g' := s.gens) (d' := s.drawn) (ch := [a]) (fun b hb => ?_) (fun b o' _ _ hb q _ => oth b o' (fun z => hb (by rw [z]; exact List.mem_singleton_self _)) q) (fun b o' _ _ hb q _ => ⟨o'.slots, oth b o' (fun z => hb (by rw [z]; exact List.mem_singleton_self _)) q⟩)
    (fun b o' hb q n => by rw [upd_ne (fun z => hb (by rw [z]; exact List.mem_singleton_self _))]; exact n) (fun b o' hb q => ⟨o', oth b o' (fun z => hb (by rw [z]; exact List.mem_singleton_self _)) q⟩) (fun b xs q => by rw [upd_ne (nt b _ q)]; exact q)
    (fun b o' u q => by rw [upd_ne (nt b _ q)]; exact q) (fun b ps q => ⟨#[], by rw [upd_ne (nt b _ q), q]; simp⟩) (fun m hm => ?_) (fun b u q => ?_) I0.bare
  · obtain rfl := List.mem_singleton.mp hb
    refine ⟨.inr h0, pa.2.2.1, fun x c hc z => ?_, hp⟩
    subst z
    obtain ⟨v, ob, ho, hd⟩ := I0.cell x _ hc
    rw [ha] at ho
    cases ho
    exact pa.2.2.2.2 v hd
  · obtain ⟨ob, es, ep, ho, rest⟩ := hm
    exact ⟨ob, es, ep, oth _ _ (Ne.symm pa.2.2.1) ho, rest⟩
  · by_cases hb : b = a
    · subst hb
      rw [upd_same] at q
      cases q
      exact ⟨hz, its', n', r, e⟩
    · rw [upd_ne hb] at q
      refine (I0.hok b u q).stay (fun d v hd w' => oth d v (fun z => ?_) w') (fun d w' => by rw [upd_ne (nt d _ w')]; exact w') fun d xs w' => by rw [upd_ne (nt d _ w')]; exact w'
      rcases hd with z2 | z2
      · exact hb (z2.symm.trans z)
      · exact nt d _ z2 z
/-- behind the sorting: the store of keys is emptied, the list gets its items -/
theorem tailJ {st : SortSt} {its out : List Value} {ks ys : List V} {n : Nat} (I : L2.Inv X ((a, seqObj "list" #[] e1) :: pins) σ H s) (h0 : X.s_0.heap.objs.size ≤ a) (hp : ∀ p ∈ X.pn ++ pins, p.1 ≠ a) (hk : H kS = some (.lst ks)) (nk : s.heap.get? kS = some (seqObj "list" its.toArray n))
    (hn : its.length ≤ sizeLine) (ro : Vals ys out) (hz : ys.length ≤ sizeLine) (hfl : failedOf st = none) (ho : (arrOf st).map (·.2) = out.toArray)
    (h : ∀ s', L2.Inv X pins σ (upd (upd H kS (.lst [])) a (.lst ys)) s' → P (.done (.ret .none)) s') : wpAny (model X.prog X.w) A (ksk_tail a false e1 (.ref kS) st) P E s := by
  have I1 := I.lstUpd (f := Obj.mapSeq fun _ => (#[] : Array Value)) (its' := []) hk nk (by rfl) .nil (Nat.zero_le _) s.toks
  have na1 := (I1.pin (a, seqObj "list" #[] e1) (List.mem_append_right _ (List.mem_cons_self ..))).1
  have I2 := trackL (f := Obj.mapSeq fun _ => out.toArray) (its' := out) I1 h0 hp (by rfl) ro hz s.toks
  have zo : out.toArray.size ≤ sizeLine + 1 := by rw [List.size_toArray, ← ro.length]; omega
  have zk : its.toArray.size ≤ sizeLine := by rw [List.size_toArray]; exact hn
  have all : wpAny (model X.prog X.w) A (ksk_tail a false e1 (.ref kS) st) (fun f s' => f = .done (.ret .none) ∧ L2.Inv X pins σ (upd (upd H kS (.lst [])) a (.lst ys)) s') E s := by
    unfold ksk_tail
    dsimp only
    rw [ho, hfl]
    refine wpAny_bind (listUpdate_at nk rfl (wpAny_bind (wpAny_letGo (wpAny_bind (seqEpoch_at na1 rfl (wpAny_bind (listUpdate_at na1 rfl ?_ (Nat.zero_le _) (by simpa using zo))))))) zk (Nat.zero_le _))
    simp only [bne_self_eq_false, Bool.false_eq_true, if_false]
    exact wpAny_pure ⟨rfl, I2⟩
  refine wpAny_mono all (fun f s' q => ?_) fun _ _ e => e
  obtain ⟨rfl, J⟩ := q
  exact h s' J
theorem each_dp : ∀ {ks : List V} {kz : List PyData} {us : List Value}, L2.Inv X pins σ H s → DpAll X.K H ks kz → Vals ks us → PySem.W.EachIs (fun v k => ∃ as, Reads s.heap v k as) us kz
  | [], _, _, I, h, r => by
    cases h
    cases r
    exact .nil
  | k :: ks, _, _, I, h, r => by
    cases h with
    | cons h1 h2 =>
      cases r with
      | cons r1 r2 => exact .cons (Dp.reads I _ _ _ h1 r1) (each_dp I h2 r2)
/-- the items by their keys, rising, those of one key in their order -/
noncomputable def srtV (xs : List V) (kz : List PyData) : List V := ((xs.zip kz).mergeSort (PySem.W.dataLe false fun p : V × PyData => p.2)).map Prod.fst
theorem vals_each : ∀ {us : List Value} {bs : List (V × PyData)}, PySem.W.EachIs (fun v (p : V × PyData) => RelV p.1 v) us bs → Vals (bs.map Prod.fst) us
  | _, _, .nil => .nil
  | _, _, .cons h t => .cons h (vals_each t)
theorem each_vals : ∀ {xs : List V} {us : List Value} {kz : List PyData}, Vals xs us → kz.length = xs.length → PySem.W.EachIs (fun v (p : V × PyData) => RelV p.1 v) us (xs.zip kz)
  | _, _, [], .nil, _ => .nil
  | _, _, k :: kz, .cons h t, e => .cons h (each_vals t (by simpa using e))
theorem endJ {vs its : List Value} {xs ks : List V} {kz : List PyData} {n : Nat} (I : L2.Inv X ((a, seqObj "list" #[] e1) :: pins) σ H s) (h0 : X.s_0.heap.objs.size ≤ a) (hp : ∀ p ∈ X.pn ++ pins, p.1 ≠ a) (hk : H kS = some (.lst ks)) (nk : s.heap.get? kS = some (seqObj "list" its.toArray n))
    (rk : Vals ks its) (rv : Vals xs vs) (hd : DpAll X.K H ks kz) (hlen : ks.length = xs.length) (hlz : kz.length = xs.length) (hZ : xs.length ≤ sizeLine) (hal : PySem.W.AllAlike kz) (hsk : PySem.W.Sortable kz) (hu : ∀ d, d ∈ kz → A.units + d.depth < cLine)
    (h : ∀ s', L2.Inv X pins σ (upd (upd H kS (.lst [])) a (.lst (srtV xs kz))) s' → P (.done (.ret .none)) s') : wpAny (model X.prog X.w) A (ksk_end a false vs.toArray e1 (.ref kS) its.toArray) P E s := by
  have hE := each_dp I hd rk
  have S := PySem.W.SortsAt.data (prog := X.prog) (w := X.w) (A := A) (s := s) hE hal hsk hu
  obtain ⟨kd, h1, h2⟩ := S.kind
  have lv : vs.length = xs.length := rv.length.symm
  have li : its.length = xs.length := rk.length.symm.trans hlen
  have hK : PyProof.Rows.KeysOf (PySem.W.dataKind s.heap kz) (its.toArray.zip vs.toArray) := PySem.W.keysOf_zip (by simpa using S.keys)
  have ms : (xs.zip kz).map (fun p : V × PyData => p.2) = kz := List.map_snd_zip (by omega)
  have ko : PySem.W.KeyedOut false ((xs.zip kz).map fun p : V × PyData => p.2) vs (PySem.W.sortVals (PySem.W.dataKind s.heap kz) false its vs) := by
    rw [ms]
    exact ⟨s.heap, its, hal, rfl, hE⟩
  have ro : Vals (srtV xs kz) (PySem.W.sortVals (PySem.W.dataKind s.heap kz) false its vs) := vals_each (PySem.W.keyedOut_each _ ko (each_vals rv hlz))
  have lo : (srtV xs kz).length ≤ sizeLine := by
    rw [ro.length, PySem.W.sortVals_length false (by omega), lv]
    exact hZ
  have fin : ∀ st' : SortSt, (arrOf st').Perm (its.toArray.zip vs.toArray) → SortedToK (PySem.W.dataKind s.heap kz) (arrOf st') (its.toArray.zip vs.toArray).size → Stable (PySem.W.dataKind s.heap kz) (arrOf st') (its.toArray.zip vs.toArray) →
      (arrOf st').map (·.2) = (PySem.W.sortVals (PySem.W.dataKind s.heap kz) false its vs).toArray := fun st' p1 p2 p3 => by
    have e := PySem.W.sort_out (rev := false) (keys := its.toArray) (items := vs.toArray) (xs := arrOf st') hK p1 p2 p3
    rw [if_neg Bool.false_ne_true] at e
    rw [← Array.toArray_toList (xs := (arrOf st').map _), e]
  have zs : (its.toArray.zip vs.toArray).size = xs.length := by
    rw [Array.size_zip, List.size_toArray, List.size_toArray, li, lv, Nat.min_self]
  unfold ksk_end
  dsimp only
  rw [if_neg Bool.false_ne_true]
  by_cases l2 : vs.toArray.size < 2
  · rw [if_pos l2, if_pos l2]
    refine wpAny_bind (wpAny_pure ?_)
    rw [StateT.run_pure]
    refine wpAny_bind (wpAny_pure (tailJ (st := SortSt.mk' general' (its.toArray.zip vs.toArray) #[] 7 none) I h0 hp hk nk (by omega) ro lo rfl (fin _ (Array.Perm.refl _) (fun i j hij hj => ?_) (Stable.refl _)) h))
    rw [zs] at hj
    rw [List.size_toArray] at l2
    obtain rfl : i = j := by omega
    exact KeyOrd.kle_refl _
  · rw [if_neg l2, if_neg l2]
    rw [List.size_toArray] at l2
    refine wpAny_bind (h2 (by omega) _ (wpAny_bind (wpAny_mono (PyProof.Rows.H.wpS_sortRunsSt (κ := PySem.W.dataKind s.heap kz) (kd := kd) (a₀ := its.toArray.zip vs.toArray) (st := SortSt.mk' kd (its.toArray.zip vs.toArray) #[] 7 none)
      (Q := fun _ st' => failedOf st' = none ∧ (arrOf st').map (·.2) = (PySem.W.sortVals (PySem.W.dataKind s.heap kz) false its vs).toArray) h1 hK ⟨Array.Perm.refl _, rfl, rfl⟩ rfl (Stable.refl _) (by omega) fun st' p1 p2 p3 p4 => ⟨p2, fin st' p1 p3 p4⟩) (fun r s' q => ?_) fun _ _ e => e)))
    obtain ⟨⟨⟩, st'⟩ := r
    obtain ⟨rfl, q1, q2⟩ := q
    exact tailJ I h0 hp hk nk (by omega) ro lo q1 q2 h
/-- what a key is: a whole number, a truth, a text, or a tuple of these -/
inductive KF : V → PyData → Prop
  | int (i : Int) : KF (.int i) (.int i)
  | bl (b : Bool) : KF (.bl b) (.bool b)
  | str (x : Str) : KF (.str x) (.str x)
inductive KFs : List V → List PyData → Prop
  | nil : KFs [] []
  | cons {v : V} {d : PyData} {vs : List V} {ds : List PyData} : KF v d → KFs vs ds → KFs (v :: vs) (d :: ds)
inductive KD (K : PySem.W.Frag) (H : Hp) : V → PyData → Prop
  | flat {v : V} {d : PyData} : KF v d → KD K H v d
  | tup {t : Addr} {xs : List V} {ds : List PyData} : SqT K H t xs → KFs xs ds → KD K H (.ref t) (.tuple ds)
  | deep {t t' : Addr} {xs ys : List V} {ds es : List PyData} : SqT K H t (.ref t' :: ys) → SqT K H t' xs → KFs xs ds → KFs ys es → KD K H (.ref t) (.tuple (.tuple ds :: es))
theorem KF.dp {K : PySem.W.Frag} {H : Hp} {v : V} {d : PyData} (h : KF v d) : Dp K H v d := by
  cases h
  · exact .int _
  · exact .bl _
  · exact .str _
theorem KFs.dp {K : PySem.W.Frag} {H : Hp} : ∀ {vs : List V} {ds : List PyData}, KFs vs ds → DpAll K H vs ds
  | _, _, .nil => .nil
  | _, _, .cons h t => .cons h.dp t.dp
theorem KD.dp {K : PySem.W.Frag} {H : Hp} {v : V} {d : PyData} (h : KD K H v d) : Dp K H v d := by
  cases h with
  | flat h => exact h.dp
  | tup h1 h2 => exact .tup h1 h2.dp
  | deep h1 h2 h3 h4 => exact .tup h1 (.cons (.tup h2 h3.dp) h4.dp)
inductive KDs (K : PySem.W.Frag) (H : Hp) : List V → List PyData → Prop
  | nil : KDs K H [] []
  | cons {v : V} {d : PyData} {vs : List V} {ds : List PyData} : KD K H v d → KDs K H vs ds → KDs K H (v :: vs) (d :: ds)
theorem KDs.dp {K : PySem.W.Frag} {H : Hp} : ∀ {vs : List V} {ds : List PyData}, KDs K H vs ds → DpAll K H vs ds
  | _, _, .nil => .nil
  | _, _, .cons h t => .cons h.dp t.dp
theorem KDs.snoc {K : PySem.W.Frag} {H : Hp} : ∀ {vs : List V} {ds : List PyData} {v : V} {d : PyData}, KDs K H vs ds → KD K H v d → KDs K H (vs ++ [v]) (ds ++ [d])
  | _, _, _, _, .nil, h => .cons h .nil
  | _, _, _, _, .cons k t, h => .cons k (t.snoc h)
theorem KDs.len {K : PySem.W.Frag} {H : Hp} : ∀ {vs : List V} {ds : List PyData}, KDs K H vs ds → vs.length = ds.length
  | _, _, .nil => rfl
  | _, _, .cons _ t => congrArg Nat.succ t.len
theorem sqT_nl {K : PySem.W.Frag} {H H' : Hp} {t : Addr} {xs : List V} (n : NL H H') (h : SqT K H t xs) : SqT K H' t xs := by
  rcases h with (h | ⟨o, h⟩) | h
  · exact .inl (.inl (n _ _ (fun _ z => by cases z) h))
  · exact .inl (.inr ⟨o, n _ _ (fun _ z => by cases z) h⟩)
  · exact .inr h
theorem KD.nl {K : PySem.W.Frag} {H H' : Hp} {v : V} {d : PyData} (n : NL H H') (h : KD K H v d) : KD K H' v d := by
  cases h with
  | flat h => exact .flat h
  | tup h1 h2 => exact .tup (sqT_nl n h1) h2
  | deep h1 h2 h3 h4 => exact .deep (sqT_nl n h1) (sqT_nl n h2) h3 h4
theorem KDs.nl {K : PySem.W.Frag} {H H' : Hp} (n : NL H H') : ∀ {vs : List V} {ds : List PyData}, KDs K H vs ds → KDs K H' vs ds
  | _, _, .nil => .nil
  | _, _, .cons h t => .cons (h.nl n) (t.nl n)
/-- f(x) tells the key that D says of x, and only makes things -/
def KeyB (X : Cx) (n : Nat) (f : Value) (D : V → PyData → Hp → Prop) : Prop :=
  ∀ (A : Around) (pins : List (Addr × Obj)) (s : Shared) (σ : L2.St) (H : Hp) (x : V) (u : Value) (k : PyData), Sub X n A → L2.Inv X pins σ H s → RelV x u → D x k H →
    wpAny (model X.prog X.w) A (call f [u]) (fun r s' => ∃ z H', L2.Inv X pins σ H' s' ∧ Ext H H' ∧ RelV z r ∧ KD X.K H' z k) (fun _ _ => False) s
theorem nl_lst {H : Hp} {p : Addr} {xs ys : List V} (h : H p = some (.lst xs)) : NL H (upd H p (.lst ys)) := fun b o n q => by
  rw [upd_ne]
  · exact q
  · rintro rfl
    rw [h] at q
    exact n xs (Option.some.inj q).symm
theorem restJ {H0 : Hp} {f : Value} {m : Nat} {D : V → PyData → Hp → Prop} {vs : List Value} {xs : List V} {kz : List PyData} (kb : KeyB X m f D) (sb : Sub X m A) (I : L2.Inv X ((a, seqObj "list" #[] e1) :: pins) σ H s) (h0 : X.s_0.heap.objs.size ≤ a) (hp : ∀ p ∈ X.pn ++ pins, p.1 ≠ a)
    (x0 : Ext H0 H) (n0 : H0 kS = none) (hk : H kS = some (.lst [])) (rv : Vals xs vs) (hlz : kz.length = xs.length) (hZ : xs.length < sizeLine) (hal : PySem.W.AllAlike kz) (hsk : PySem.W.Sortable kz) (hu : ∀ d, d ∈ kz → A.units + d.depth < cLine)
    (mon : ∀ x k H H', Ext H H' → D x k H → D x k H') (hD : ∀ (i : Nat) x k, xs[i]? = some x → kz[i]? = some k → D x k H0)
    (h : ∀ s' H', Ext H0 (upd H' kS (.lst [])) → H' a = none → L2.Inv X pins σ (upd (upd H' kS (.lst [])) a (.lst (srtV xs kz))) s' → P (.done (.ret .none)) s') : wpAny (model X.prog X.w) A (ksk_rest a f false vs.toArray e1 (.ref kS)) P E s := by
  have lv : vs.length = xs.length := rv.length.symm
  unfold ksk_rest
  refine wpAny_bind (wpAny_rule ?_)
  rw [List.forIn_toArray]
  refine wpAny_bind (ksk_fold (fun i s' => ∃ H' ks, L2.Inv X ((a, seqObj "list" #[] e1) :: pins) σ H' s' ∧ Ext H0 H' ∧ H' kS = some (.lst ks) ∧ KDs X.K H' ks (kz.take i)) vs 0 s ⟨H, [], I, x0, hk, by rw [List.take_zero]; exact .nil⟩ (fun j u s' hu' hJ => ?_) fun s' hJ => ?_)
  · obtain ⟨H', ks, I', x', hk', hd⟩ := hJ
    rw [Nat.zero_add] at hd ⊢
    have hj : j < xs.length := by
      have := (List.getElem?_eq_some_iff.mp hu').1
      omega
    have hx : xs[j]? = some xs[j] := List.getElem?_eq_getElem hj
    have hkj : kz[j]? = some kz[j] := List.getElem?_eq_getElem (by omega)
    have rx : RelV xs[j] u := by
      have := rv.get hx
      obtain ⟨u', q1, q2⟩ := this
      rw [hu'] at q1
      cases q1
      exact q2
    have hlk : ks.length = j := by
      have := hd.len
      rw [List.length_take] at this
      omega
    refine wpAny_bind (wpAny_attempt (wpAny_mono (kb A _ s' σ H' xs[j] u kz[j] sb I' rx (mon _ _ _ _ x' (hD j _ _ hx hkj))) (fun r s2 q => ?_) fun _ _ z => z.elim))
    obtain ⟨z, H2, I2, x2, rz, hz⟩ := q
    dsimp only
    have hk2 := x2 _ _ hk'
    obtain ⟨zz, its, n, ri, li, nk⟩ := I2.lstM hk2
    have ef : Obj.mapSeq (·.push r) (seqObj "list" its.toArray n) = seqObj "list" (its ++ [r]).toArray (if (its.toArray.push r).size == its.toArray.size then n else n + 1) := by
      rw [← List.push_toArray]
      rfl
    have I3 := I2.lstUpd (f := Obj.mapSeq (·.push r)) (its' := its ++ [r]) (ys := ks ++ [z]) hk2 nk ef (ri.append (.cons rz .nil)) (by rw [List.length_append, List.length_singleton]; omega) s2.toks
    have ex : Ext H0 (upd H2 kS (.lst (ks ++ [z]))) := fun b o q => by
      rw [upd_ne (ne_of_none q n0)]
      exact x2 _ _ (x' _ _ q)
    have tk : kz.take (j + 1) = kz.take j ++ [kz[j]] := by
      rw [List.take_add_one, hkj]
      rfl
    refine wpAny_bind (listUpdate_at nk rfl (wpAny_pure ⟨rfl, _, ks ++ [z], I3, ex, upd_same, ?_⟩) (by rw [List.size_toArray]; omega) (by rw [Array.size_push, List.size_toArray]; omega))
    rw [tk]
    exact ((hd.nl (NL.of x2)).nl (nl_lst hk2)).snoc (hz.nl (nl_lst hk2))
  · obtain ⟨H', ks, I', x', hk', hd⟩ := hJ
    rw [show kz.take (0 + vs.length) = kz from List.take_of_length_le (by omega)] at hd
    obtain ⟨zz, its, n, ri, li, nk⟩ := I'.lstM hk'
    have hlk := hd.len
    refine wpAny_bind (listItems_at nk rfl (endJ I' h0 hp hk' nk ri rv hd.dp (by omega) hlz (by omega) hal hsk hu fun s2 J => h s2 H' (fun b o q => ?_) (I'.pin _ (List.mem_append_right _ (List.mem_cons_self ..))).2.1 J))
    rw [upd_ne (ne_of_none q n0)]
    exact x' _ _ q
/-- sorted(l, key = f) -/
theorem sortedJ {f : Addr} {l : Addr} {m : Nat} {D : V → PyData → Hp → Prop} {xs : List V} {kz : List PyData} {Q : VK} (kb : KeyB X m (.ref f) D) (hr : Room (m + 2) X.A) (mon : ∀ x k H H', Ext H H' → D x k H → D x k H') (I : L2.Inv X pins σ H s) (hl : SqL X.K H l xs) (hZ : xs.length < sizeLine)
    (hlz : kz.length = xs.length) (hal : PySem.W.AllAlike kz) (hsk : PySem.W.Sortable kz) (hdep : ∀ d, d ∈ kz → d.depth ≤ 8) (hD : ∀ (i : Nat) x k, xs[i]? = some x → kz[i]? = some k → D x k H)
    (q : ∀ (H' : Hp) (p : Addr), Ext H H' → H' p = some (.lst (srtV xs kz)) → H p = none → Q (.ref p) H') : wpAny (model X.prog X.w) X.A (call (.builtin "sorted") [.ref l] [(Str.ofString "key", .ref f)]) (EP X pins σ Q) X.xe s := by
  obtain ⟨vs, rv, pl, _⟩ := I.list hl
  have lv : vs.length = xs.length := rv.length.symm
  have sb : Sub X m X.A.in1.in1 := Sub.in1 (Sub.in1 ⟨hr, rfl⟩)
  refine PySem.W.sorted_of_sort pl.isList (by omega) (ksk_s1 _ _) (fun _ => ksk_l1 _ _) fun E' => ?_
  rw [ksk_t1]
  have na := PySem.W.copyHeap_at s.heap vs
  have hlt : @LT.lt Nat _ X.env.locals s.heap.objs.size := I.lt
  have above : @LE.le Nat _ X.s_0.heap.objs.size X.env.locals := I.ok.above
  generalize ea : s.heap.objs.size + 1 = a at na ⊢
  have ga : @Eq Nat (s.heap.objs.size + 1) a := ea
  obtain ⟨e1, na1⟩ : ∃ e1, ((PySem.W.copyHeap s.heap vs).update a (Obj.mapSeq fun _ => (#[] : Array Value))).get? a = some (seqObj "list" #[] e1) := ⟨_, get?_update_seq na fun _ => #[]⟩
  have kp : ∀ b u, s.heap.get? b = some u → ((PySem.W.copyHeap s.heap vs).update a (Obj.mapSeq fun _ => (#[] : Array Value))).get? b = some u := fun b u e => by
    have : @LT.lt Nat _ b s.heap.objs.size := Heap.lt_size e
    exact (Heap.get?_update_other _ _ (Nat.ne_of_gt (show @LT.lt Nat _ b a by omega))).trans (PySem.W.copyHeap_old e)
  have sz : ((PySem.W.copyHeap s.heap vs).update a (Obj.mapSeq fun _ => (#[] : Array Value))).objs.size = (PySem.W.copyHeap s.heap vs).objs.size := Heap.size_update ..
  have big : a < (PySem.W.copyHeap s.heap vs).objs.size := Heap.lt_size na
  generalize eh : (PySem.W.copyHeap s.heap vs).update a (Obj.mapSeq fun _ => (#[] : Array Value)) = h1 at na1 kp sz
  generalize ek : (h1.push (seqObj "tuple" vs.toArray 0)).objs.size = kS
  have sk : kS = h1.objs.size + 1 := by rw [← ek, size_push']
  have nk : ((h1.push (seqObj "tuple" vs.toArray 0)).push (seqObj "list" #[] 0)).get? kS = some (seqObj "list" #[] 0) := by
    rw [← ek]
    exact Heap.get?_push_size _ rfl
  have kp2 : ∀ b u, h1.get? b = some u → ((h1.push (seqObj "tuple" vs.toArray 0)).push (seqObj "list" #[] 0)).get? b = some u := fun b u e => Heap.get?_push_of_some _ (Heap.get?_push_of_some _ e)
  have hkn : H kS = none := I.hok.fresh (by omega)
  have I1 := I.laid (t' := s.toks) (a := kS) (o := .lst []) (fun b u e => kp2 b u (kp b u e)) (by omega) ⟨Nat.zero_le _, [], 0, .nil, nk⟩
  have pa : ∀ p ∈ X.pn ++ pins, p.1 ≠ a := fun p hp z => by
    have : @LT.lt Nat _ p.1 s.heap.objs.size := Heap.lt_size (I.pin p hp).1
    rw [z] at this
    omega
  have I2 : L2.Inv X ((a, seqObj "list" #[] e1) :: pins) σ (upd H kS (.lst [])) { s with heap := (h1.push (seqObj "tuple" vs.toArray 0)).push (seqObj "list" #[] 0), toks := s.toks } := I1.pins_of fun p hp => by
    rcases List.mem_cons.mp hp with rfl | hp
    · refine ⟨kp2 _ _ na1, ?_, Nat.ne_of_gt (show @LT.lt Nat _ X.env.locals a by omega), fun z => ?_, fun v z => by cases z⟩
      · rw [upd_ne (show a ≠ kS by omega)]
        exact I.hok.fresh (by show _ ≤ a; omega)
      · exact I.nofs (show s.heap.objs.size ≤ a by omega) z
    · exact I1.pin p (List.mem_append_right _ hp)
  have ru := sb.room.units
  have fin : wpAny (model X.prog X.w) X.A.in1.in1 (ksk_rest a (.ref f) false vs.toArray e1 (.ref kS)) (fun g s' => g = .done (.ret .none) ∧ EP X pins σ Q (.ref a) s') E' { s with heap := (h1.push (seqObj "tuple" vs.toArray 0)).push (seqObj "list" #[] 0), toks := s.toks } :=
    restJ (H0 := H) kb sb I2 (by omega) pa (Ext.upd hkn) hkn upd_same rv hlz hZ hal hsk (fun d hd => by have := hdep d hd; omega) mon hD fun s' H' x hn J => ⟨rfl, .ref a, _, J, rfl, q _ a (fun b o e => ?_) upd_same (I.hok.fresh (by omega))⟩
  · unfold ksk_tree
    refine wpAny_bind (listItems_at na rfl (wpAny_bind (listUpdate_at na rfl ?_ (by rw [List.size_toArray]; omega) (Nat.zero_le _))))
    show wpAny _ _ _ _ _ { s with heap := (PySem.W.copyHeap s.heap vs).update a (Obj.mapSeq fun _ => (#[] : Array Value)) }
    rw [eh]
    refine wpAny_bind (seqEpoch_at na1 rfl (wpAny_bind (wpAny_newTuple (wpAny_bind (wpAny_newList (wpAny_holding ?_) (Nat.zero_le _))) (by show vs.length ≤ _; omega))))
    show wpAny _ _ (ksk_rest a (.ref f) false vs.toArray e1 (.ref (h1.push (seqObj "tuple" vs.toArray 0)).objs.size)) _ _ _
    rw [ek]
    exact fin
  · have : b ≠ a := ne_of_none (x b o e) (by rw [upd_ne (show a ≠ kS by omega)]; exact hn)
    rw [upd_ne this]
    exact x b o e
end
end KA
/-! sorted(xs, key = a builtin function that is asked where nothing is handled): sorted(xs, key = min) -/
namespace KA
open PySem PySem.Spec PyProof.Rows L2
section
variable {X : Cx} {pins : List (Addr × Obj)} {σ : L2.St} {H : Hp} {s : Shared} {A : Around} {a kS : Addr} {e1 : Nat} {E : Value → Shared → Prop} {P : PySem.Fin → Shared → Prop}
def KeyH (X : Cx) (n : Nat) (f : Value) (D : V → PyData → Hp → Prop) : Prop :=
  ∀ (A : Around) (pins : List (Addr × Obj)) (s : Shared) (σ : L2.St) (H : Hp) (x : V) (u : Value) (k : PyData), Sub X n A → A.handled = none → L2.Inv X pins σ H s → RelV x u → D x k H →
    wpAny (model X.prog X.w) A (call f [u]) (fun r s' => ∃ z H', L2.Inv X pins σ H' s' ∧ Ext H H' ∧ RelV z r ∧ KD X.K H' z k) (fun _ _ => False) s
theorem restB {H0 : Hp} {f : Value} {m : Nat} {D : V → PyData → Hp → Prop} {vs : List Value} {xs : List V} {kz : List PyData} (kb : KeyH X m f D) (sb : Sub X m A) (hh : A.handled = none) (I : L2.Inv X ((a, seqObj "list" #[] e1) :: pins) σ H s) (h0 : X.s_0.heap.objs.size ≤ a) (hp : ∀ p ∈ X.pn ++ pins, p.1 ≠ a)
    (x0 : Ext H0 H) (n0 : H0 kS = none) (hk : H kS = some (.lst [])) (rv : Vals xs vs) (hlz : kz.length = xs.length) (hZ : xs.length < sizeLine) (hal : PySem.W.AllAlike kz) (hsk : PySem.W.Sortable kz) (hu : ∀ d, d ∈ kz → A.units + d.depth < cLine)
    (mon : ∀ x k H H', Ext H H' → D x k H → D x k H') (hD : ∀ (i : Nat) x k, xs[i]? = some x → kz[i]? = some k → D x k H0)
    (h : ∀ s' H', Ext H0 (upd H' kS (.lst [])) → H' a = none → L2.Inv X pins σ (upd (upd H' kS (.lst [])) a (.lst (srtV xs kz))) s' → P (.done (.ret .none)) s') : wpAny (model X.prog X.w) A (ksk_rest a f false vs.toArray e1 (.ref kS)) P E s := by
  have lv : vs.length = xs.length := rv.length.symm
  unfold ksk_rest
  refine wpAny_bind (wpAny_rule ?_)
  rw [List.forIn_toArray]
  refine wpAny_bind (ksk_fold (fun i s' => ∃ H' ks, L2.Inv X ((a, seqObj "list" #[] e1) :: pins) σ H' s' ∧ Ext H0 H' ∧ H' kS = some (.lst ks) ∧ KDs X.K H' ks (kz.take i)) vs 0 s ⟨H, [], I, x0, hk, by rw [List.take_zero]; exact .nil⟩ (fun j u s' hu' hJ => ?_) fun s' hJ => ?_)
  · obtain ⟨H', ks, I', x', hk', hd⟩ := hJ
    rw [Nat.zero_add] at hd ⊢
    have hj : j < xs.length := by
      have := (List.getElem?_eq_some_iff.mp hu').1
      omega
    have hx : xs[j]? = some xs[j] := List.getElem?_eq_getElem hj
    have hkj : kz[j]? = some kz[j] := List.getElem?_eq_getElem (by omega)
    have rx : RelV xs[j] u := by
      have := rv.get hx
      obtain ⟨u', q1, q2⟩ := this
      rw [hu'] at q1
      cases q1
      exact q2
    have hlk : ks.length = j := by
      have := hd.len
      rw [List.length_take] at this
      omega
    refine wpAny_bind (wpAny_attempt (wpAny_mono (kb A _ s' σ H' xs[j] u kz[j] sb hh I' rx (mon _ _ _ _ x' (hD j _ _ hx hkj))) (fun r s2 q => ?_) fun _ _ z => z.elim))
    obtain ⟨z, H2, I2, x2, rz, hz⟩ := q
    dsimp only
    have hk2 := x2 _ _ hk'
    obtain ⟨zz, its, n, ri, li, nk⟩ := I2.lstM hk2
    have ef : Obj.mapSeq (·.push r) (seqObj "list" its.toArray n) = seqObj "list" (its ++ [r]).toArray (if (its.toArray.push r).size == its.toArray.size then n else n + 1) := by
      rw [← List.push_toArray]
      rfl
    have I3 := I2.lstUpd (f := Obj.mapSeq (·.push r)) (its' := its ++ [r]) (ys := ks ++ [z]) hk2 nk ef (ri.append (.cons rz .nil)) (by rw [List.length_append, List.length_singleton]; omega) s2.toks
    have ex : Ext H0 (upd H2 kS (.lst (ks ++ [z]))) := fun b o q => by
      rw [upd_ne (ne_of_none q n0)]
      exact x2 _ _ (x' _ _ q)
    have tk : kz.take (j + 1) = kz.take j ++ [kz[j]] := by
      rw [List.take_add_one, hkj]
      rfl
    refine wpAny_bind (listUpdate_at nk rfl (wpAny_pure ⟨rfl, _, ks ++ [z], I3, ex, upd_same, ?_⟩) (by rw [List.size_toArray]; omega) (by rw [Array.size_push, List.size_toArray]; omega))
    rw [tk]
    exact ((hd.nl (NL.of x2)).nl (nl_lst hk2)).snoc (hz.nl (nl_lst hk2))
  · obtain ⟨H', ks, I', x', hk', hd⟩ := hJ
    rw [show kz.take (0 + vs.length) = kz from List.take_of_length_le (by omega)] at hd
    obtain ⟨zz, its, n, ri, li, nk⟩ := I'.lstM hk'
    have hlk := hd.len
    refine wpAny_bind (listItems_at nk rfl (endJ I' h0 hp hk' nk ri rv hd.dp (by omega) hlz (by omega) hal hsk hu fun s2 J => h s2 H' (fun b o q => ?_) (I'.pin _ (List.mem_append_right _ (List.mem_cons_self ..))).2.1 J))
    rw [upd_ne (ne_of_none q n0)]
    exact x' _ _ q
/-- sorted(l, key = f) -/
theorem sortedB {i : String} {l : Addr} {m : Nat} {D : V → PyData → Hp → Prop} {xs : List V} {kz : List PyData} {Q : VK} (kb : KeyH X m (.builtin i) D) (hc : X.calm = true) (hr : Room (m + 2) X.A) (mon : ∀ x k H H', Ext H H' → D x k H → D x k H') (I : L2.Inv X pins σ H s) (hl : SqL X.K H l xs) (hZ : xs.length < sizeLine)
    (hlz : kz.length = xs.length) (hal : PySem.W.AllAlike kz) (hsk : PySem.W.Sortable kz) (hdep : ∀ d, d ∈ kz → d.depth ≤ 8) (hD : ∀ (i : Nat) x k, xs[i]? = some x → kz[i]? = some k → D x k H)
    (q : ∀ (H' : Hp) (p : Addr), Ext H H' → H' p = some (.lst (srtV xs kz)) → H p = none → Q (.ref p) H') : wpAny (model X.prog X.w) X.A (call (.builtin "sorted") [.ref l] [(Str.ofString "key", .builtin i)]) (EP X pins σ Q) X.xe s := by
  obtain ⟨vs, rv, pl, _⟩ := I.list hl
  have lv : vs.length = xs.length := rv.length.symm
  have sb : Sub X m X.A.in1.in1 := Sub.in1 (Sub.in1 ⟨hr, rfl⟩)
  refine PySem.W.sorted_of_sort pl.isList (by omega) (ksk_s1 _ _) (fun _ => ksk_l1 _ _) fun E' => ?_
  rw [ksk_t4]
  have na := PySem.W.copyHeap_at s.heap vs
  have hlt : @LT.lt Nat _ X.env.locals s.heap.objs.size := I.lt
  have above : @LE.le Nat _ X.s_0.heap.objs.size X.env.locals := I.ok.above
  generalize ea : s.heap.objs.size + 1 = a at na ⊢
  have ga : @Eq Nat (s.heap.objs.size + 1) a := ea
  obtain ⟨e1, na1⟩ : ∃ e1, ((PySem.W.copyHeap s.heap vs).update a (Obj.mapSeq fun _ => (#[] : Array Value))).get? a = some (seqObj "list" #[] e1) := ⟨_, get?_update_seq na fun _ => #[]⟩
  have kp : ∀ b u, s.heap.get? b = some u → ((PySem.W.copyHeap s.heap vs).update a (Obj.mapSeq fun _ => (#[] : Array Value))).get? b = some u := fun b u e => by
    have : @LT.lt Nat _ b s.heap.objs.size := Heap.lt_size e
    exact (Heap.get?_update_other _ _ (Nat.ne_of_gt (show @LT.lt Nat _ b a by omega))).trans (PySem.W.copyHeap_old e)
  have sz : ((PySem.W.copyHeap s.heap vs).update a (Obj.mapSeq fun _ => (#[] : Array Value))).objs.size = (PySem.W.copyHeap s.heap vs).objs.size := Heap.size_update ..
  have big : a < (PySem.W.copyHeap s.heap vs).objs.size := Heap.lt_size na
  generalize eh : (PySem.W.copyHeap s.heap vs).update a (Obj.mapSeq fun _ => (#[] : Array Value)) = h1 at na1 kp sz
  generalize ek : (h1.push (seqObj "tuple" vs.toArray 0)).objs.size = kS
  have sk : kS = h1.objs.size + 1 := by rw [← ek, size_push']
  have nk : ((h1.push (seqObj "tuple" vs.toArray 0)).push (seqObj "list" #[] 0)).get? kS = some (seqObj "list" #[] 0) := by
    rw [← ek]
    exact Heap.get?_push_size _ rfl
  have kp2 : ∀ b u, h1.get? b = some u → ((h1.push (seqObj "tuple" vs.toArray 0)).push (seqObj "list" #[] 0)).get? b = some u := fun b u e => Heap.get?_push_of_some _ (Heap.get?_push_of_some _ e)
  have hkn : H kS = none := I.hok.fresh (by omega)
  have I1 := I.laid (t' := s.toks) (a := kS) (o := .lst []) (fun b u e => kp2 b u (kp b u e)) (by omega) ⟨Nat.zero_le _, [], 0, .nil, nk⟩
  have pa : ∀ p ∈ X.pn ++ pins, p.1 ≠ a := fun p hp z => by
    have : @LT.lt Nat _ p.1 s.heap.objs.size := Heap.lt_size (I.pin p hp).1
    rw [z] at this
    omega
  have I2 : L2.Inv X ((a, seqObj "list" #[] e1) :: pins) σ (upd H kS (.lst [])) { s with heap := (h1.push (seqObj "tuple" vs.toArray 0)).push (seqObj "list" #[] 0), toks := s.toks } := I1.pins_of fun p hp => by
    rcases List.mem_cons.mp hp with rfl | hp
    · refine ⟨kp2 _ _ na1, ?_, Nat.ne_of_gt (show @LT.lt Nat _ X.env.locals a by omega), fun z => ?_, fun v z => by cases z⟩
      · rw [upd_ne (show a ≠ kS by omega)]
        exact I.hok.fresh (by show _ ≤ a; omega)
      · exact I.nofs (show s.heap.objs.size ≤ a by omega) z
    · exact I1.pin p (List.mem_append_right _ hp)
  have ru := sb.room.units
  have fin : wpAny (model X.prog X.w) X.A.in1.in1 (ksk_rest a (.builtin i) false vs.toArray e1 (.ref kS)) (fun g s' => g = .done (.ret .none) ∧ EP X pins σ Q (.ref a) s') E' { s with heap := (h1.push (seqObj "tuple" vs.toArray 0)).push (seqObj "list" #[] 0), toks := s.toks } :=
    restB (H0 := H) kb sb (I.ok.hd hc) I2 (by omega) pa (Ext.upd hkn) hkn upd_same rv hlz hZ hal hsk (fun d hd => by have := hdep d hd; omega) mon hD fun s' H' x hn J => ⟨rfl, .ref a, _, J, rfl, q _ a (fun b o e => ?_) upd_same (I.hok.fresh (by omega))⟩
  · unfold ksk_tree
    refine wpAny_bind (listItems_at na rfl (wpAny_bind (listUpdate_at na rfl ?_ (by rw [List.size_toArray]; omega) (Nat.zero_le _))))
    show wpAny _ _ _ _ _ { s with heap := (PySem.W.copyHeap s.heap vs).update a (Obj.mapSeq fun _ => (#[] : Array Value)) }
    rw [eh]
    refine wpAny_bind (seqEpoch_at na1 rfl (wpAny_bind (wpAny_newTuple (wpAny_bind (wpAny_newList (wpAny_holding ?_) (Nat.zero_le _))) (by show vs.length ≤ _; omega))))
    show wpAny _ _ (ksk_rest a (.builtin i) false vs.toArray e1 (.ref (h1.push (seqObj "tuple" vs.toArray 0)).objs.size)) _ _ _
    rw [ek]
    exact fin
  · have : b ≠ a := ne_of_none (x b o e) (by rw [upd_ne (show a ≠ kS by omega)]; exact hn)
    rw [upd_ne this]
    exact x b o e
/-- a list of whole numbers, and its least -/
def DMin (K : PySem.W.Frag) : V → PyData → Hp → Prop := fun x k H => ∃ (p : Addr) (ns : List Int) (m : Int), x = .ref p ∧ SqL K H p (ns.map V.int) ∧ m ∈ ns ∧ (∀ y ∈ ns, m ≤ y) ∧ k = .int m
theorem keyMin : KeyH X 0 (.builtin "min") (DMin X.K) := fun A pins s σ H x u k sb hh I rx d => by
  obtain ⟨p, ns, m, rfl, hs, hm, hle, rfl⟩ := d
  cases rx
  obtain ⟨its, rv, hl, _⟩ := I.list hs
  have hne : 0 < ns.length := List.length_pos_of_mem hm
  refine min_raw hh hl.isList rv.ints hne fun h' tk m' t' hk h1 h2 => ⟨.int m', H, I.kept hk, fun _ _ e => e, ⟨_, rfl⟩, ?_⟩
  have e : m' = m := by
    have a := hle m' h1
    have b := h2 m hm
    omega
  rw [e]
  exact .flat (.int m)
theorem dmin_mon {K : PySem.W.Frag} : ∀ x k H H', Ext H H' → DMin K x k H → DMin K x k H' := fun x k H H' e ⟨p, ns, m, h1, h2, h3⟩ => ⟨p, ns, m, h1, Same.seq e h2, h3⟩
/-- sorted(l, key = min), l a list of lists of whole numbers, none without one -/
def rSortMin (K : PySem.W.Frag) : List V → List V → Hp → VK → Prop := fun vs zs H Q => ∃ (l : Addr) (xs : List V) (kz : List PyData), vs = [.ref l] ∧ SqL K H l xs ∧ xs.length < sizeLine ∧ kz.length = xs.length ∧ (∀ d ∈ kz, ∃ m, d = .int m) ∧
  (∀ (i : Nat) x k, xs[i]? = some x → kz[i]? = some k → DMin K x k H) ∧ ∀ (H' : Hp) (p : Addr), Ext H H' → H' p = some (.lst (srtV xs kz)) → H p = none → Q (.ref p) H'
theorem pe_sortMin {p p2 kpos pos : Pos} {e : Expr} {ta : TA} {nm : Option Str} (hc : X.calm = true) (hr : Room 2 X.A) (hg : Gl X "sorted") (hm : X.mg "sorted" = none) (hg2 : Gl X "min") (hm2 : X.mg "min" = none) (ha : PA X [e] ta)
    (he : backTo pos (starEach [e] X.env) = (false, eval e X.env) :: backTo pos (starEach [] X.env) := by rfl) (hpl : (backTo pos (starEach [e] X.env)).any (·.1) = false := by rfl)
    (hall : (backToKw pos (keywordEach [⟨nm, .Name "min" p2, kpos⟩] X.env)).all (·.1.isSome) = true := by rfl) (hnone : (backToKw pos (keywordEach [⟨nm, .Name "min" p2, kpos⟩] X.env)).any (·.1.isNone) = false := by rfl) (hks : (backToKw pos (keywordEach [⟨nm, .Name "min" p2, kpos⟩] X.env)).filterMap (·.1) = [Str.ofString "key"] := by rfl) :
    PE X (.Call (.Name "sorted" p) [e] [⟨nm, .Name "min" p2, kpos⟩] pos) (fun σ H Q => ta σ H fun vs H1 => rSortMin X.K vs [] H1 Q) := by
  refine ⟨fun pins s σ H Q I h => ?_⟩
  refine wpAny_Call_Name_kw (ld_blt (u := .builtin "sorted") I hg hm (by decide +kernel) ?_)
  refine PyProof.Rows.callWith_kw (thn (ha.run pos pins s σ H _ I h) fun us s1 ⟨vs, H1, I1, r1, q1⟩ => ?_) he hpl hall hnone
  show wpAny _ _ (evalAll ((do let v ← eval (.Name "min" p2) X.env; standAt pos; pure v) :: [])) _ _ s1
  refine wpAny_evalAll_cons (wpAny_bind (ld_blt (u := .builtin "min") I1 hg2 hm2 (by decide +kernel) (wpAny_bind (wpAny_standAt (wpAny_pure (wpAny_evalAll_nil ?_))))))
  rw [hks]
  obtain ⟨l, xs, kz, rfl, hl, hZ, hlz, hk, hD, q⟩ := q1
  obtain rfl := Vals.ref1 r1
  refine sortedB (i := "min") keyMin hc hr dmin_mon I1 hl hZ hlz (fun d hd d' hd' => ?_) (.inr fun d hd => ?_) (fun d hd => ?_) hD q
  · obtain ⟨m, rfl⟩ := hk d hd
    obtain ⟨m', rfl⟩ := hk d' hd'
    rfl
  · obtain ⟨m, rfl⟩ := hk d hd
    exact ⟨(fun e => by cases e), fun xs e => by cases e⟩
  · obtain ⟨m, rfl⟩ := hk d hd
    exact Nat.zero_le _
end
end KA
/-! a lambda with a parameter as a value; sorted by a def or by a lambda -/
namespace KA
open PySem PySem.Spec PyProof.Rows L2 LamX
section
variable {X : Cx} {pins : List (Addr × Obj)} {σ : L2.St} {H : Hp} {s : Shared}
/-- the lambda at f -/
def LamO (f : Addr) (q : Str) (params : Arguments) (body : Expr) (scope : Scope) (c' : Addr) : HO := .ext fun h => ∃ pm ctv, h.get? f = some (PySem.W.kla_obj "<lambda>" q params body scope [] pm c' ctv)
def tLamV (T : List (Addr × Str)) (q : Str) (params : Arguments) (body : Expr) (scope : Scope) : TE := fun σ H Q => Tabs T H ∧ ∀ (H1 : Hp) (f c' : Addr), ExtN H H1 → Tabs T H1 → H1 f = some (LamO f q params body scope c') → H1 c' = some (CodeO c' q) → Q (.ref f) H1
theorem clo_nil {cells : List (Str × Addr)} : ∀ {ns : List (Str × NameKind)} {acc : List (Str × Addr)}, (∀ y ∈ ns, y.2 ≠ .free) → cloFrom cells ns acc = acc
  | [], acc, _ => rfl
  | (n, k) :: ns, acc, h => by
    have hk : k ≠ .free := h _ (List.mem_cons_self ..)
    have := clo_nil (cells := cells) (ns := ns) (acc := acc) fun y hy => h y (List.mem_cons_of_mem _ hy)
    unfold cloFrom
    first
      | (rw [if_neg (by simpa using hk)]; exact this)
      | (simp [hk]; exact this)
theorem pe_lam1 {T : List (Addr × Str)} {c P : Addr} {params : Arguments} {body : Expr} {scope : Scope} {pos : Pos} (TB : TabB X.base X.mg c P) (hcode : X.env.code = .ref c) (hmT : (P, X.env.qual ++ "<lambda>") ∈ T) (hu : ∀ p ∈ T, p.1 = P → p.2 = X.env.qual ++ "<lambda>")
    (hdef : defaultsOf params X.env = ([], [])) (nofree : ∀ y ∈ scope.names, y.2 ≠ .free) : PE X (.Lambda params body scope pos) (tLamV T (X.env.qual ++ "<lambda>") params body scope) := by
  refine ⟨fun pins s σ H Q I h => ?_⟩
  obtain ⟨hT, h⟩ := h
  obtain ⟨ps, hP, tok, among⟩ := hT _ hmT
  have bP : s.heap.BuiltinsAt X.mg P := TB.bm.keeps I.bk
  have hP' : s.heap.get? P = some { cls := .none, data := .fields ps } := I.hok P _ hP
  have cl : closureFor scope X.env = pure [] := by
    have := closure_ok (env := X.env) (scope := scope) fun y hy e => absurd e (nofree y hy)
    rw [clo_nil nofree] at this
    exact this
  have lam : ∀ {H1 : Hp} {s' : Shared} {c' : Addr} {pm ctv : Value} {tk : Nat}, L2.Inv X pins σ H1 s' → ExtN H H1 → Tabs T H1 → H1 c' = some (CodeO c' (X.env.qual ++ "<lambda>")) →
      EP X pins σ Q (.ref s'.heap.objs.size) { s' with heap := s'.heap.push (PySem.W.kla_obj "<lambda>" (X.env.qual ++ "<lambda>") params body scope [] pm c' ctv), toks := tk } := fun {H1 s' c' pm ctv tk} J eN T1 hc => by
    have kp : ∀ b u, s'.heap.get? b = some u → (s'.heap.push (PySem.W.kla_obj "<lambda>" (X.env.qual ++ "<lambda>") params body scope [] pm c' ctv)).get? b = some u := fun b u e => Heap.get?_push_of_some _ e
    have at_ : (s'.heap.push (PySem.W.kla_obj "<lambda>" (X.env.qual ++ "<lambda>") params body scope [] pm c' ctv)).get? s'.heap.objs.size = some (PySem.W.kla_obj "<lambda>" (X.env.qual ++ "<lambda>") params body scope [] pm c' ctv) := Heap.get?_push_size _ rfl
    have hn : H1 s'.heap.objs.size = none := J.hok.fresh (Nat.le_refl _)
    have ex : Ext H1 (upd H1 s'.heap.objs.size (LamO s'.heap.objs.size (X.env.qual ++ "<lambda>") params body scope c')) := Ext.upd hn
    have J2 := J.laid (t' := tk) (a := s'.heap.objs.size) (o := LamO s'.heap.objs.size (X.env.qual ++ "<lambda>") params body scope c') kp (Nat.le_refl _) ⟨⟨pm, ctv, at_⟩, ⟨_, at_⟩, fun h1 h2 ⟨pm, ctv, e⟩ st => ⟨pm, ctv, st _ e⟩⟩
    exact ⟨.ref _, _, J2, rfl, h _ _ c' (eN.trans (ExtN.of ex)) (T1.ext ex) upd_same (ex _ _ hc)⟩
  refine PySem.W.kla_eval hdef ?_
  cases hc : codeAmong pos ps.toList with
  | some cv =>
    obtain ⟨c', rfl, hco⟩ := among pos cv hc
    refine PySem.W.kla_makeFunctionHit (mg := X.mg) (c := c) (P := P) (ps := ps) cl I.ok.glob (I.mod.glob.keeps I.bk) hcode (TB.code.keeps I.bk) hP' tok hc bP fun ctv h' tk hx hsz => ?_
    exact lam (s' := { s with heap := h', toks := tk }) (I.kept hx) (ExtN.refl H) hT hco
  | none =>
    refine PySem.W.kla_makeFunction (mg := X.mg) (c := c) (P := P) (ps := ps) cl I.ok.glob (I.mod.glob.keeps I.bk) hcode (TB.code.keeps I.bk) hP' tok hc TB.gP bP fun c' ctv h' tk hx hge hlt hrec htb => ?_
    obtain ⟨c2, oc, vs, t, e2, hoc, hd, hv⟩ := hrec
    cases e2
    have nC : H c' = none := I.hok.fresh hge
    have J := inv_table (t' := tk) (more := #[rawInt pos.line, rawInt pos.col, .ref c']) (h' := h') I hP hx htb hge ⟨oc, vs, t, hoc, hd, hv⟩
    have eN : ExtN H (upd (upd H P (.tbl (ps ++ #[rawInt pos.line, rawInt pos.col, .ref c']))) c' (CodeO c' (X.env.qual ++ "<lambda>"))) := fun b o e n => by
      have nP : b ≠ P := fun z => by
        rw [z, hP] at e
        exact n ps (Option.some.inj e).symm
      rw [upd_ne (ne_of_none e nC), upd_ne nP]
      exact e
    have toL : (ps ++ #[rawInt pos.line, rawInt pos.col, .ref c']).toList = ps.toList ++ [rawInt pos.line, rawInt pos.col, .ref c'] := by simp
    refine lam (s' := { s with heap := h', toks := tk }) J eN (fun p hp => ?_) upd_same
    by_cases hb : p.1 = P
    · rw [hu p hp hb, hb]
      refine ⟨_, by rw [upd_ne (ne_of_none hP nC), upd_same], by rw [toL]; exact PySem.TriplesOk_snoc _ _ _ _ tok, fun p' cv hcv => ?_⟩
      rw [toL] at hcv
      rcases among_app _ tok hcv with z | z
      · obtain ⟨c0, q1, q2⟩ := among p' cv z
        exact ⟨c0, q1, eN _ _ q2 codeO_ne⟩
      · exact ⟨c', z, upd_same⟩
    · obtain ⟨ps', a1, a2, a3⟩ := hT p hp
      refine ⟨ps', by rw [upd_ne (ne_of_none a1 nC), upd_ne hb]; exact a1, a2, fun p' cv hcv => ?_⟩
      obtain ⟨c0, q1, q2⟩ := a3 p' cv hcv
      exact ⟨c0, q1, eN _ _ q2 codeO_ne⟩
theorem env_sub {n : Nat} {A : Around} (sb : Sub X n A) (I : L2.Inv X pins σ H s) : Env0 X.prog X.w X.K X.mg X.base A X.stack s H := by
  have e := I.env0
  exact ⟨by rw [sb.fr]; exact e.frames, e.mod, e.bs, e.bsz, e.funs, e.frf, e.hok, e.bare⟩
/-- an own def as a key -/
theorem keyB_fn {n : Nat} {f : Addr} {fd : FuncData} {x : Str} {sp : Sp} {D : V → PyData → Hp → Prop} (F : FnOk X.prog X.w X.K X.mg X.base CX0 n f fd [x] sp) (hb : Binds X.K fd [x] []) (imp : ∀ y k H, D y k H → sp [y] H (fun z H' => Ext H H' ∧ KD X.K H' z k) E0) : KeyB X n (.ref f) D := by
  intro A pins s σ H y u k sb I ry d
  refine wpAny_call (codeAny_mono (F.run A X.stack s H ⟨[u], []⟩ [u] [y] _ E0 sb.room (env_sub sb I) (by
    have := hb s [u] I.kIn rfl
    simpa using this) (.cons ry .nil) (imp y k H d)) fun r s' hq => ?_)
  cases r with
  | error e => exact (show False from hq).elim
  | ok fl =>
    cases fl with
    | ret z =>
      obtain ⟨z, H', I', rz, ex, kd⟩ := I.after hq
      exact ⟨z, H', I', ex, rz, kd⟩
    | next => exact False.elim hq
    | brk => exact False.elim hq
    | cont => exact False.elim hq
/-- a lambda with one parameter and nothing captured as a key -/
theorem keyB_lam {n : Nat} {f c' : Addr} {q : Str} {params : Arguments} {body : Expr} {scope : Scope} {N : List Str} {a : Str} {tb : TE} {D : V → PyData → Hp → Prop} (S : FnScope N [a] scope)
    (hbind : ∀ (pm cv ctv u : Value), bindArgs (PySem.W.kla_fn "<lambda>" q params body scope [] pm cv ctv) ⟨[u], []⟩ = pure [(a, u)])
    (hbody : ∀ (A : Around) (outer : List Env) (s : Shared) (H : Hp) (cdv : Value), Room n (A.deeper (envOfC q scope s.heap.objs.size f cdv)) → PE (cxOf CX0 X.prog X.w X.K X.mg X.base N q scope f cdv A outer s H E0).nox body tb)
    (imp : ∀ y k H, D y k H → tb (L2.start N [y]) H fun z H' => Ext H H' ∧ KD X.K H' z k) : KeyB X (n + 1) (.ref f) fun y k H => H f = some (LamO f q params body scope c') ∧ H c' = some (CodeO c' q) ∧ D y k H := by
  intro A pins s σ H y u k sb I ry d
  obtain ⟨hf, hc, d⟩ := d
  obtain ⟨⟨pm, ctv, of1⟩, _, _⟩ := I.hok f _ hf
  obtain ⟨⟨oc, vs, t, hoc, hdc, hvc⟩, _, _⟩ := I.hok c' _ hc
  have e0 := env_sub sb I
  have lim : s.heap.NoLimit := e0.mod.nolimit.keeps fun b o e => (e0.bs b o e).1
  have hkind : ∀ y ∈ [a].zip [u], scope.names.lookup y.1 = some .local ∨ (scope.names.lookup y.1 = some .cell ∧ ((cellsFrom (s.heap.objs.size + 1) scope.names []).lookup y.1).isSome = true) := fun ⟨nm, v⟩ hy => by
    rcases S.par nm (List.of_mem_zip hy).1 with z | z
    · exact .inl z
    · exact .inr ⟨z, PySem.W.cellsFrom_some _ _ _ (.inl z)⟩
  have rc : codeAny (model X.prog X.w) A (.call (.ref f) ⟨[u], []⟩) (CR CX0 X.stack X.prog X.w H s (fun z H' => Ext H H' ∧ KD X.K H' z k) E0) s := by
    refine PySem.W.kla_callFunE sb.room.depth of1 rfl S.co S.gen rfl ⟨c', oc, vs, t, rfl, hoc, hdc, hvc⟩ ?_
    rw [hbind]
    refine wpAny_pure (wpAny_newFunctionEnv_cells S.kind hkind fun env he s1 x => ?_)
    subst he
    refine ⟨lim.keeps x.toInCall.keep, ?_⟩
    have J : L2.Inv (cxOf CX0 X.prog X.w X.K X.mg X.base N q scope f (.ref c') A X.stack s H E0) [] (L2.start N [y]) H s1 := inv_start (us := [u]) S sb.room.hd e0 rfl (.cons ry .nil) x
    refine PySem.W.kla_codeExpr (wpAny_mono ((hbody A X.stack s H (.ref c') (sb.room.deeper _)).nox.run [] _ _ H _ J (imp y k H d)) (fun v s' hq => ?_) fun e s' hq => hq)
    obtain ⟨w', H', J', rv, z⟩ := hq
    exact ⟨w', H', J'.os, J'.bare, J'.base, J'.hok, rv, z⟩
  refine wpAny_call (codeAny_mono rc fun r s' hq => ?_)
  cases r with
  | error e => exact (show False from hq).elim
  | ok fl =>
    cases fl with
    | ret z =>
      obtain ⟨z, H', I', rz, ex, kd⟩ := I.after hq
      exact ⟨z, H', I', ex, rz, kd⟩
    | next => exact False.elim hq
    | brk => exact False.elim hq
    | cont => exact False.elim hq
/-- sorted(l, key = f), f told by what D says of it -/
def rSortG (K : PySem.W.Frag) (D : Addr → V → PyData → Hp → Prop) : List V → List V → Hp → VK → Prop := fun vs zs H Q => ∃ (l f : Addr) (xs : List V) (kz : List PyData), vs = [.ref l] ∧ zs = [.ref f] ∧ SqL K H l xs ∧ xs.length < sizeLine ∧ kz.length = xs.length ∧ PySem.W.AllAlike kz ∧ PySem.W.Sortable kz ∧
  (∀ d, d ∈ kz → d.depth ≤ 8) ∧ (∀ (i : Nat) x k, xs[i]? = some x → kz[i]? = some k → D f x k H) ∧ ∀ (H' : Hp) (p : Addr), Ext H H' → H' p = some (.lst (srtV xs kz)) → H p = none → Q (.ref p) H'
theorem call_sortG {m : Nat} {D : Addr → V → PyData → Hp → Prop} (kb : ∀ f, KeyB X m (.ref f) (D f)) (mon : ∀ f x k H H', Ext H H' → D f x k H → D f x k H') (hr : Room (m + 2) X.A) : CallRK X (.builtin "sorted") [Str.ofString "key"] (rSortG X.K D) := by
  intro pins s σ H vs zs us ws Q I r rz h
  obtain ⟨l, f, xs, kz, rfl, rfl, hl, hZ, hlz, hal, hsk, hdp, hD, q⟩ := h
  obtain rfl := Vals.ref1 r
  obtain rfl := Vals.ref1 rz
  exact sortedJ (kb f) hr (mon f) I hl hZ hlz hal hsk hdp hD q
/-- the key is the def at A -/
def DFn (A : Addr) (D : V → PyData → Hp → Prop) : Addr → V → PyData → Hp → Prop := fun f y k H => f = A ∧ D y k H
theorem kbFn {n : Nat} {f : Addr} {fd : FuncData} {x : Str} {sp : Sp} {D : V → PyData → Hp → Prop} (F : FnOk X.prog X.w X.K X.mg X.base CX0 n f fd [x] sp) (hb : Binds X.K fd [x] []) (imp : ∀ y k H, D y k H → sp [y] H (fun z H' => Ext H H' ∧ KD X.K H' z k) E0) : ∀ g, KeyB X n (.ref g) (DFn f D g) := fun g A pins s σ H y u k sb I ry d => by
  obtain ⟨rfl, d⟩ := d
  exact keyB_fn F hb imp A pins s σ H y u k sb I ry d
theorem monFn {A : Addr} {D : V → PyData → Hp → Prop} (mon : ∀ x k H H', Ext H H' → D x k H → D x k H') : ∀ f x k H H', Ext H H' → DFn A D f x k H → DFn A D f x k H' := fun f x k H H' e d => ⟨d.1, mon x k H H' e d.2⟩
/-- the key is a lambda -/
def DLam (q : Str) (params : Arguments) (body : Expr) (scope : Scope) (D : V → PyData → Hp → Prop) : Addr → V → PyData → Hp → Prop := fun f y k H => ∃ c', H f = some (LamO f q params body scope c') ∧ H c' = some (CodeO c' q) ∧ D y k H
theorem kbLam {n : Nat} {q : Str} {params : Arguments} {body : Expr} {scope : Scope} {N : List Str} {a : Str} {tb : TE} {D : V → PyData → Hp → Prop} (S : FnScope N [a] scope)
    (hbind : ∀ (pm cv ctv u : Value), bindArgs (PySem.W.kla_fn "<lambda>" q params body scope [] pm cv ctv) ⟨[u], []⟩ = pure [(a, u)])
    (hbody : ∀ (f : Addr) (A : Around) (outer : List Env) (s : Shared) (H : Hp) (cdv : Value), Room n (A.deeper (envOfC q scope s.heap.objs.size f cdv)) → PE (cxOf CX0 X.prog X.w X.K X.mg X.base N q scope f cdv A outer s H E0).nox body tb)
    (imp : ∀ y k H, D y k H → tb (L2.start N [y]) H fun z H' => Ext H H' ∧ KD X.K H' z k) : ∀ g, KeyB X (n + 1) (.ref g) (DLam q params body scope D g) := fun g A pins s σ H y u k sb I ry d => by
  obtain ⟨c', d⟩ := d
  exact keyB_lam (c' := c') S hbind (hbody g) imp A pins s σ H y u k sb I ry d
theorem monLam {q : Str} {params : Arguments} {body : Expr} {scope : Scope} {D : V → PyData → Hp → Prop} (mon : ∀ x k H H', Ext H H' → D x k H → D x k H') : ∀ f x k H H', Ext H H' → DLam q params body scope D f x k H → DLam q params body scope D f x k H' := fun f x k H H' e d => by
  obtain ⟨c', h1, h2, h3⟩ := d
  exact ⟨c', e _ _ h1, e _ _ h2, mon x k H H' e h3⟩
/-- sorted(e, key = lambda a: body) -/
theorem pe_sortLam {T : List (Addr × Str)} {c P : Addr} {n : Nat} {params : Arguments} {body e : Expr} {scope : Scope} {N : List Str} {a : Str} {ta : TA} {tb : TE} {D : V → PyData → Hp → Prop} {p lpos kpos pos : Pos} (hg : Gl X "sorted") (hm : X.mg "sorted" = none) (he : PA X [e] ta)
    (TB : TabB X.base X.mg c P) (hcode : X.env.code = .ref c) (hmT : (P, X.env.qual ++ "<lambda>") ∈ T) (hu : ∀ p ∈ T, p.1 = P → p.2 = X.env.qual ++ "<lambda>") (S : FnScope N [a] scope)
    (hbody : ∀ (f : Addr) (A : Around) (outer : List Env) (s : Shared) (H : Hp) (cdv : Value), Room n (A.deeper (envOfC (X.env.qual ++ "<lambda>") scope s.heap.objs.size f cdv)) → PE (cxOf CX0 X.prog X.w X.K X.mg X.base N (X.env.qual ++ "<lambda>") scope f cdv A outer s H E0).nox body tb)
    (imp : ∀ y k H, D y k H → tb (L2.start N [y]) H fun z H' => Ext H H' ∧ KD X.K H' z k) (mon : ∀ x k H H', Ext H H' → D x k H → D x k H') (hr : Room (n + 3) X.A)
    (hdef : defaultsOf params X.env = ([], []) := by rfl) (hbind : ∀ (pm cv ctv u : Value), bindArgs (PySem.W.kla_fn "<lambda>" (X.env.qual ++ "<lambda>") params body scope [] pm cv ctv) ⟨[u], []⟩ = pure [(a, u)] := by intros; rfl)
    (h1 : backTo pos (starEach [e] X.env) = (false, eval e X.env) :: backTo pos (starEach [] X.env) := by rfl) (h2 : (backTo pos (starEach [e] X.env)).any (·.1) = false := by rfl) :
    PE X (.Call (.Name "sorted" p) [e] [⟨some "key", .Lambda params body scope lpos, kpos⟩] pos) (tCKw (rSortG X.K (DLam (X.env.qual ++ "<lambda>") params body scope D)) ta (tCons (tLamV T (X.env.qual ++ "<lambda>") params body scope) tNil)) :=
  pe_callBK (call_sortG (kbLam S hbind hbody imp) (monLam mon) hr) hg hm (by decide +kernel) he (pk_cons (pe_lam1 TB hcode hmT hu hdef S.nofree) pk_nil) (by decide) (by decide) h1 h2
end
/-- a def whose code object is known -/
theorem okC {P : Program} {w : World} {K : PySem.W.Frag} {mg : Str → Option Value} {base : Heap} {x qual : Str} {st : Stmt} {f : Addr} {fd : FuncData} {N ps : List Str} {k : Nat} {sp : Sp} {cv : Value} (F : Fun K x qual st f fd) (hc : fd.code = cv) (S : FnScope N ps (defScope st)) (len : ∀ vs H Q E, sp vs H Q E → vs.length = ps.length)
    (hbody : ∀ (A : Around) (outer : List Env) (s : Shared) (H : Hp) (vs : List V) (Q : VK) (E : XK), Room k (A.deeper (envOfC qual (defScope st) s.heap.objs.size f cv)) → sp vs H Q E →
      ∃ t, PSs (cxOf CX0 P w K mg base N qual (defScope st) f cv A outer s H E).nox (defBody st) t ∧ t { nx := fun _ H' => Q .non H', rt := Q } (L2.start N vs) H) : FnOk P w K mg base CX0 (k + 1) f fd ps sp := by
  obtain ⟨oc, od, kV, doc, pm, an, cdv, ct, osl, rfl, lk, hcd⟩ := F.ex
  cases hc
  refine fn_of lk hcd S len fun A outer s H vs Q E hr hsp => ?_
  obtain ⟨t, h, q⟩ := hbody A outer s H vs Q E hr hsp
  exact ⟨t, h.nox, q⟩
/-- the end of a law whose program makes lambdas -/
theorem walk_tab {l : PySem.W.OpenLaw} {n k : Nat} {q : Program} {loose : List Str} {XP : (Str → Option Value) → Heap → Prop} {YP : World → Heap → Prop} {d : DefRec} {K : Params → PySem.W.Frag} {x : Str}
    (hn : l.most = some n) (hn2 : n ≤ sizeLine) (hdf : d.params.defaults = []) (hr : Room k callerA) (hY : ∀ (w : World) (h : Heap), YP w h → (K w.params).In h)
    (F : ∀ (w : World) (mg : Str → Option Value) (fa : Addr) (h : Heap), (K w.params).In h → h.Ns mainGlobals mg → mg d.name = some (.ref fa) →
      (∀ (y : Str) (c P : Addr), ((recsOf q).find? fun e => e.name == y).isSome = true → PySem.W.tabIn (K w.params) y = some (c, P) → PySem.W.CodeHd h c P ∧ h.get? P = some { cls := .none, data := .fields #[] }) → LawAtS l w (K w.params) CX0 k n x mg fa h) :
    PySem.W.WalkO q loose XP YP l.row.toRowW d [] (fun f vs => PySem.call f vs) := by
  refine Att.attach_callB hn hdf fun w s₀ s₁ mg mb fa o pm cd doc a vs ns G Y ho hd hcd hmg hobj hints hlen hbits hg => ?_
  have KX := hY w _ Y
  obtain ⟨fd, cs, sp, hT, nT, C, hb, hsp, hF⟩ := F w mg fa _ KX G.T.g hmg fun y c P hr ht => by
    obtain ⟨dr, e⟩ := Option.isSome_iff_exists.mp hr
    exact PySem.W.tab_of G.T KX e ht
  exact law_callTs KX G.T.g G.T.b G.T.builtins G.T.nolimit hg hT nT C G.T.bmain hobj hints (Nat.le_trans hlen hn2) hr hF hb (fun H hH hS => hsp H a ns hlen hbits hH hS) fun H e s' z => z
end KA
namespace KA
open PySem PySem.Spec PyProof.Rows L2
section
variable {prog : Program} {w : World} {A : Around} {E : Value → Shared → Prop} {s : Shared}
theorem back_adjust (n : Nat) : Builtin.Slice.sliceAdjust none none (-1) (n : Int) = ((n : Int) - 1, -1) := rfl
theorem back_places (n : Nat) : Builtin.Slice.slicePlaces ((n : Int) - 1) (-1) (-1) = n := by
  unfold Builtin.Slice.slicePlaces
  rw [if_neg (by decide)]
  by_cases h : n = 0
  · subst h; rfl
  · rw [if_pos (by omega)]
    have e : ((n : Int) - 1 - -1 - 1) / (- -1) = (n : Int) - 1 := by
      rw [show (- -1 : Int) = 1 from rfl, Int.ediv_one]
      omega
    rw [e]
    omega
theorem back_pick (xs : Array Value) : ((List.range xs.size).filterMap fun (k : Nat) => xs[(((xs.size : Nat) : Int) - 1 + (k : Int) * (-1)).toNat]?).toArray = xs.toList.reverse.toArray := by
  congr 1
  have key : ∀ n, n ≤ xs.size → ((List.range n).filterMap fun (k : Nat) => xs[(((xs.size : Nat) : Int) - 1 + (k : Int) * (-1)).toNat]?) = xs.toList.reverse.take n := by
    intro n
    induction n with
    | zero => intro _; rfl
    | succ n ih =>
      intro hn
      have e : (((xs.size : Nat) : Int) - 1 + (n : Int) * (-1)).toNat = xs.size - 1 - n := by omega
      have e2 : xs.toList.reverse[n]? = some (xs[xs.size - 1 - n]'(by omega)) := by
        rw [List.getElem?_reverse (by rw [Array.length_toList]; omega)]
        simp
      rw [List.range_succ, List.filterMap_append, ih (by omega), List.take_add_one, e2, List.filterMap_cons, e, Array.getElem?_eq_getElem (by omega)]
      rfl
  rw [key xs.size (Nat.le_refl _), List.take_of_length_le (by rw [List.length_reverse, Array.length_toList]; exact Nat.le_refl _)]
theorem back_applied {sl : Addr} {vk : Value} {n : Nat} {Q : Int × Int × Nat → Shared → Prop} {vl vu : Value} (hs : s.heap.IsSliceOf sl vl vu vk) (pl : IsPart vl none) (pu : IsPart vu none) (pk : IsPart vk (some (-1)))
    (h : Q ((n : Int) - 1, -1, n) s) : wpAny (model prog w) A (Builtin.Slice.sliceApplied (.ref sl) (pure (n : Int))) Q E s := by
  obtain ⟨os, hos, hcs, hds⟩ := id hs
  unfold Builtin.Slice.sliceApplied Builtin.Slice.sliceFields
  refine wpAny_bind (wpAny_bind (wpAny_field hos hds (x := vl) rfl (wpAny_bind (wpAny_field hos hds (x := vu) rfl (wpAny_bind (wpAny_field hos hds (x := vk) rfl (wpAny_pure ?_)))))))
  refine wpAny_bind (HT.slicePart_ pk ?_)
  show wpAny _ _ (if ((-1 : Int) == 0) = true then _ else _) _ _ s
  rw [if_neg (by decide)]
  refine wpAny_bind (HT.slicePart_ pl (wpAny_bind (HT.slicePart_ pu (wpAny_bind (wpAny_pure ?_)))))
  show wpAny _ _ (match Builtin.Slice.sliceAdjust none none (-1) (n : Int) with | (lo, hi) => pure (lo, (-1 : Int), Builtin.Slice.slicePlaces lo hi (-1))) _ _ s
  rw [back_adjust]
  show wpAny _ _ (pure ((n : Int) - 1, (-1 : Int), Builtin.Slice.slicePlaces ((n : Int) - 1) (-1) (-1))) _ _ s
  rw [back_places]
  exact wpAny_pure h
/-- t[::-1] of a tuple -/
theorem back_tuple {t sl : Addr} {items : Array Value} {vl vu vk : Value} {Q : Value → Shared → Prop} (ht : IsTup s.heap t items) (hs : s.heap.IsSliceOf sl vl vu vk) (pl : IsPart vl none) (pu : IsPart vu none) (pk : IsPart vk (some (-1)))
    (h : Q (.ref s.heap.objs.size) { s with heap := s.heap.push { cls := .type "tuple", data := .seq items.toList.reverse.toArray } }) (hsz : items.size ≤ sizeLine) : wpAny (model prog w) A (getItem (.ref t) (.ref sl)) Q E s := by
  have hok : sizeOk (.seq items.toList.reverse.toArray) := by
    show items.toList.reverse.toArray.size ≤ sizeLine
    rw [List.size_toArray, List.length_reverse, Array.length_toList]
    exact hsz
  obtain ⟨os, hos, hcs, hds⟩ := id hs
  have hTs : s.TypeIs (.ref sl) "slice" := ⟨os, hos, hcs⟩
  unfold getItem
  try with_reducible refine wpAny_holding ?_
  first | refine wpAny_bind (wpAny_pure ?_) | skip
  refine wpAny_bind (wpAny_sequenceKey ht.typeIs (by decide) ?_)
  refine wpAny_bind (wpAny_callSpecial?_slot (name := Str.ofString "__getitem__") ht.typeIs PyProof.Rows.slot_tuple_getitem
    (wpAny_call_entry PyProof.Rows.slot_tuple_getitem ht.typeIs PyProof.Rows.entry_tuple_getitem ?_ (PyProof.Rows.args_tuple_getitem _ _)))
  show wpAny _ _ (Builtin.Tuple.tupleItemsOf (.ref t) >>= _) _ _ s
  refine wpAny_bind (PyProof.Rows.tupleItemsOf_ ht (wpAny_bind (wpAny_typeOf hTs ?_)))
  rw [if_pos (by decide)]
  refine wpAny_bind (back_applied (n := items.size) hs pl pu pk ?_)
  have hno : ¬ ((((items.size : Nat) : Int) - 1 == 0 && (-1 : Int) == 1 && items.size == items.size) = true) := by
    intro q
    rw [Bool.and_eq_true, Bool.and_eq_true] at q
    exact absurd q.1.2 (by decide)
  show wpAny _ _ (if (((items.size : Nat) : Int) - 1 == 0 && (-1 : Int) == 1 && items.size == items.size) = true then _ else _) _ _ s
  rw [if_neg hno, back_pick]
  first
    | exact wpAny_bind (m := Builtin.Tuple.tupleExact _) (wpAny_newObj_type (wpAny_pure ⟨_, rfl, wpAny_pure h⟩) hok)
    | exact wpAny_bind (m := Builtin.Tuple.tupleExact _) (wpAny_newObj_type (wpAny_bind (wpAny_pure (wpAny_pure ⟨_, rfl, wpAny_pure h⟩))) hok)
    | exact wpAny_bind (wpAny_bind (m := Builtin.Tuple.tupleExact _) (wpAny_newObj_type (wpAny_pure (wpAny_pure ⟨_, rfl, wpAny_pure h⟩)) hok))
    | exact wpAny_bind (wpAny_bind (m := Builtin.Tuple.tupleExact _) (wpAny_newObj_type (wpAny_pure ⟨_, rfl, wpAny_pure h⟩) hok))
end
section
variable {X : Cx}
def tRevT (K : PySem.W.Frag) (te : TE) : TE := fun σ H Q => te σ H fun x H1 => ∃ a xs, x = .ref a ∧ SqT K H1 a xs ∧ ∀ p, H1 p = none → Q (.ref p) (upd H1 p (.tup xs.reverse))
theorem pe_revT {e : Expr} {te : TE} {k : Nat} {p1 p2 p3 pos : Pos} (he : PE X e te) : PE X (.Subscript e (.Slice none none (some (.UnaryOp .USub (.Constant (.int 1) k p1) p2)) p3) pos) (tRevT X.K te) := by
  refine ⟨fun pins s σ H Q I h => ?_⟩
  refine Subscript_ (thn (he.run pins s σ H _ I h) fun v s1 ⟨x, H1, I1, r1, q1⟩ => ?_)
  obtain ⟨a, xs, ex, hx, q⟩ := q1
  subst ex
  cases r1
  have part : PO X (some (.UnaryOp .USub (.Constant (.int 1) k p1) p2)) (tPart (tUn (rU fun i => .int (-i)) (tC (.int 1)))) := po_some (pe_un un_neg pe_int)
  refine wpAny_Slice (thn (po_none.run pins s1 σ H1 (fun o Hx => o = none ∧ Hx = H1) I1 ⟨rfl, rfl⟩) fun vl s2 ⟨l, H2, I2, pl, el, e2⟩ => ?_)
  subst el e2
  refine thn (po_none.run pins s2 σ H2 (fun o Hx => o = none ∧ Hx = H2) I2 ⟨rfl, rfl⟩) fun vu s3 ⟨u, H3, I3, pu, eu, e3⟩ => ?_
  subst eu e3
  refine thn (part.run pins s3 σ H3 (fun o Hx => o = some (-1) ∧ Hx = H3) I3 ⟨1, rfl, -1, rfl, rfl, rfl⟩) fun vs s4 ⟨o, H4, I4, ps, eo, e4⟩ => ?_
  subst eo e4
  have J : L2.Inv X pins σ H4 { s4 with heap := s4.heap.push { cls := .type "slice", data := .fields #[vl, vu, vs] } } := I4.kept (t' := s4.toks) fun b ob q => Heap.get?_push_of_some _ q
  obtain ⟨its, r, ht, hz⟩ := J.tuple hx
  have hlen := r.length
  show wpAny (model X.prog X.w) X.A (subscriptTail e (.Slice none none (some (.UnaryOp .USub (.Constant (.int 1) k p1) p2)) p3) (.ref a) (.ref s4.heap.objs.size)) (EP X pins σ Q) X.xe { s4 with heap := s4.heap.push { cls := .type "slice", data := .fields #[vl, vu, vs] } }
  refine tail_any (ops := [.ref a, .ref s4.heap.objs.size]) ht.typeIs (PyProof.Rows.slot_tuple_getitem.lookup) ?_ (by with_unfolding_all rfl)
  refine back_tuple ht (Heap.IsSliceOf.new _ vl vu vs) pl pu ps ?_ (by rw [List.size_toArray]; omega)
  refine ⟨.ref _, _, J.laid (t' := s4.toks) (o := .tup xs.reverse) (fun b ob q => Heap.get?_push_of_some _ q) (Nat.le_refl _) ?_, rfl, q _ (J.hok.fresh (Nat.le_refl _))⟩
  exact ⟨by rw [List.length_reverse]; exact hz, _, r.reverse, IsTup.new _ _⟩
end
end KA
namespace KA
open PySem PySem.Spec PyProof.Rows L2
section
variable {X : Cx}
/-- a text once, or not at all -/
theorem op_mul01 : OpR X (binaryOp .Mult) (fun x y H Q => ∃ (z : Str) (b : Bool), x = .str z ∧ y = .int (if b then 1 else 0) ∧ z.length ≤ sizeLine ∧ Q (.str (if b then z else Str.empty)) H) := by
  intro pins s σ H x y v u Q I rx ry h
  obtain ⟨z, b, rfl, rfl, hz, q⟩ := h
  obtain ⟨t, rfl⟩ := rx
  obtain ⟨t', rfl⟩ := ry
  cases b with
  | true =>
    refine PySem.P.mul_str (by decide) (fun _ h => by simp at h) (fun _ h => by simp at h) ?_
    rw [if_neg (by decide), if_pos (by simp)]
    exact ⟨.str z, H, I, ⟨_, rfl⟩, q⟩
  | false =>
    refine PySem.P.mul_str (by decide) (fun h _ => absurd (by decide) h) (fun h _ => absurd (by decide) h) ?_
    rw [if_pos (by decide)]
    exact ⟨by decide +kernel, ⟨.str Str.empty, H, I.tok _, ⟨_, rfl⟩, q⟩⟩
end
end KA
namespace KA
open PySem PySem.Spec PyProof.Rows L2
section
variable {X : Cx}
/-- a sign many times, from none on -/
theorem op_mulN : OpR X (binaryOp .Mult) (fun x y H Q => ∃ (z : Str) (k : Int), x = .str z ∧ y = .int k ∧ 0 ≤ k ∧ k ≤ 100000 ∧ (∃ c, z.cps = #[c]) ∧ Q (.str (timesS z k.toNat)) H) := by
  intro pins s σ H x y v u Q I rx ry h
  obtain ⟨z, k, rfl, rfl, h0, h3, hc, q⟩ := h
  by_cases h2 : 2 ≤ k
  · exact op_mulS pins s σ H _ _ v u Q I rx ry ⟨z, k, rfl, rfl, h2, h3, hc, q⟩
  · have hz : z.length = 1 := by
      obtain ⟨c, hc⟩ := hc
      show z.cps.size = 1
      rw [hc]
      rfl
    have hl : z.length ≤ sizeLine := by
      rw [hz]
      decide
    by_cases h1 : k = 1
    · subst h1
      refine op_mul01 pins s σ H _ _ v u Q I rx ry ⟨z, true, rfl, rfl, hl, ?_⟩
      have e : timesS z (1 : Int).toNat = z := by
        obtain ⟨c, hc⟩ := hc
        refine TL.ext_tl ?_
        show (timesS z 1).cps.toList = z.cps.toList
        rw [times_list hc, hc]
        rfl
      rw [e] at q
      exact q
    · have : k = 0 := by omega
      subst this
      exact op_mul01 pins s σ H _ _ v u Q I rx ry ⟨z, false, rfl, rfl, hl, q⟩
end
end KA
/-! pairs in a row: the most pairs of unlike things, by taking neighbours, and by trying all -/
namespace KMat
variable {α : Type} {P : α → α → Bool}
def flat (L : List (α × α)) : List α := L.flatMap fun p => [p.1, p.2]
theorem flat_app (L M : List (α × α)) : flat (L ++ M) = flat L ++ flat M := List.flatMap_append
theorem flat_cons (p : α × α) (L : List (α × α)) : flat (p :: L) = p.1 :: p.2 :: flat L := rfl
structure Mt (P : α → α → Bool) (S : α → Prop) (L : List (α × α)) : Prop where
  ok : ∀ p ∈ L, P p.1 p.2 = true
  nd : (flat L).Nodup
  sub : ∀ r ∈ flat L, S r
theorem Mt.mono {S S' : α → Prop} {L : List (α × α)} (h : Mt P S L) (k : ∀ r ∈ flat L, S' r) : Mt P S' L := ⟨h.ok, h.nd, k⟩
theorem mt_nil {S : α → Prop} : Mt P S [] := Mt.mk (fun _ h => nomatch h) List.nodup_nil (fun _ h => nomatch h)
theorem Mt.cons {S : α → Prop} {L : List (α × α)} {a b : α} (h : Mt P S L) (hp : P a b = true) (ha : S a) (hb : S b) (n1 : a ∉ flat L) (n2 : b ∉ flat L) (n : a ≠ b) : Mt P S ((a, b) :: L) := by
  refine ⟨fun p hq => ?_, ?_, fun r hr => ?_⟩
  · rcases List.mem_cons.mp hq with rfl | hq
    · exact hp
    · exact h.ok p hq
  · rw [flat_cons, List.nodup_cons, List.nodup_cons]
    refine ⟨fun hm => ?_, n2, h.nd⟩
    rcases List.mem_cons.mp hm with e | hm
    · exact n e
    · exact n1 hm
  · rw [flat_cons] at hr
    rcases List.mem_cons.mp hr with rfl | hr
    · exact ha
    · rcases List.mem_cons.mp hr with rfl | hr
      · exact hb
      · exact h.sub r hr
/-- the pair of v is taken out -/
theorem Mt.rem (sym : ∀ a b, P a b = P b a) {S : α → Prop} {L : List (α × α)} (h : Mt P S L) {v : α} (hv : v ∈ flat L) :
    ∃ (L' : List (α × α)) (u : α), L.length = L'.length + 1 ∧ P v u = true ∧ u ∈ flat L ∧ u ≠ v ∧ v ∉ flat L' ∧ u ∉ flat L' ∧ (∀ r ∈ flat L', r ∈ flat L) ∧ Mt P S L' := by
  obtain ⟨p, hp, hvp⟩ := List.mem_flatMap.mp hv
  obtain ⟨L1, L2, rfl⟩ := List.append_of_mem hp
  have pm : (flat (L1 ++ p :: L2)).Perm (p.1 :: p.2 :: flat (L1 ++ L2)) := by
    rw [flat_app, flat_cons, flat_app]
    exact (List.perm_middle (a := p.1)).trans ((List.perm_middle (a := p.2)).cons p.1)
  have nd := pm.nodup_iff.mp h.nd
  rw [List.nodup_cons, List.nodup_cons] at nd
  obtain ⟨n1, n2, n3⟩ := nd
  have n12 : p.1 ≠ p.2 := fun e => n1 (by rw [e]; exact List.mem_cons_self ..)
  have n1' : p.1 ∉ flat (L1 ++ L2) := fun hm => n1 (List.mem_cons_of_mem _ hm)
  have hs : ∀ r ∈ flat (L1 ++ L2), r ∈ flat (L1 ++ p :: L2) := fun r hr => pm.mem_iff.mpr (List.mem_cons_of_mem _ (List.mem_cons_of_mem _ hr))
  have m1 : p.1 ∈ flat (L1 ++ p :: L2) := pm.mem_iff.mpr (List.mem_cons_self ..)
  have m2 : p.2 ∈ flat (L1 ++ p :: L2) := pm.mem_iff.mpr (List.mem_cons_of_mem _ (List.mem_cons_self ..))
  have hM : Mt P S (L1 ++ L2) := ⟨fun q hq => h.ok q (by
    rcases List.mem_append.mp hq with hq | hq
    · exact List.mem_append_left _ hq
    · exact List.mem_append_right _ (List.mem_cons_of_mem _ hq)), n3, fun r hr => h.sub r (hs r hr)⟩
  have hl : (L1 ++ p :: L2).length = (L1 ++ L2).length + 1 := by
    rw [List.length_append, List.length_append, List.length_cons]
    omega
  have hvp : v ∈ [p.1, p.2] := hvp
  simp only [List.mem_cons, List.not_mem_nil, or_false] at hvp
  rcases hvp with rfl | rfl
  · exact ⟨L1 ++ L2, p.2, hl, h.ok p hp, m2, n12.symm, n1', n2, hs, hM⟩
  · exact ⟨L1 ++ L2, p.1, hl, by rw [sym]; exact h.ok p hp, m1, n12, n2, n1', hs, hM⟩
/-- neighbours taken -/
def gp (P : α → α → Bool) : List α → List (α × α)
  | [] => []
  | [_] => []
  | x :: y :: t => if P x y then (x, y) :: gp P t else gp P (y :: t)
theorem gp_yes {x y : α} {t : List α} (h : P x y = true) : gp P (x :: y :: t) = (x, y) :: gp P t := if_pos h
theorem gp_no {x y : α} {t : List α} (h : ¬ P x y = true) : gp P (x :: y :: t) = gp P (y :: t) := if_neg h
theorem gp_sub : ∀ (s : List α), ∀ r ∈ flat (gp P s), r ∈ s
  | [], r, h => by cases h
  | [_], r, h => by cases h
  | x :: y :: t, r, h => by
    by_cases c : P x y = true
    · rw [gp_yes c, flat_cons] at h
      rcases List.mem_cons.mp h with rfl | h
      · exact List.mem_cons_self ..
      · rcases List.mem_cons.mp h with rfl | h
        · exact List.mem_cons_of_mem _ (List.mem_cons_self ..)
        · exact List.mem_cons_of_mem _ (List.mem_cons_of_mem _ (gp_sub t r h))
    · rw [gp_no c] at h
      exact List.mem_cons_of_mem _ (gp_sub (y :: t) r h)
theorem gp_mt : ∀ (s : List α), s.Nodup → Mt P (· ∈ s) (gp P s)
  | [], _ => mt_nil
  | [_], _ => mt_nil
  | x :: y :: t, nd => by
    rw [List.nodup_cons] at nd
    obtain ⟨n1, n2⟩ := nd
    by_cases c : P x y = true
    · rw [gp_yes c]
      rw [List.nodup_cons] at n2
      have ih := gp_mt t n2.2
      refine Mt.cons (ih.mono fun r hr => List.mem_cons_of_mem _ (List.mem_cons_of_mem _ (gp_sub t r hr))) c (List.mem_cons_self ..) (List.mem_cons_of_mem _ (List.mem_cons_self ..)) (fun h => ?_) (fun h => ?_) fun e => ?_
      · exact n1 (List.mem_cons_of_mem _ (gp_sub t _ h))
      · exact n2.1 (gp_sub t _ h)
      · exact n1 (by rw [e]; exact List.mem_cons_self ..)
    · rw [gp_no c]
      exact (gp_mt (y :: t) n2).mono fun r hr => List.mem_cons_of_mem _ (gp_sub _ r hr)
/-- no more pairs than neighbours give -/
theorem gp_max (sym : ∀ a b, P a b = P b a) {le : α → α → Prop} (ax1 : ∀ x y z, le x y → le y z → P x z = true → P x y = true) (ax2 : ∀ x y z w, le x y → le y z → le y w → P x z = true → P y w = true → P z w = true) :
    ∀ (s : List α), s.Pairwise le → ∀ L, Mt P (· ∈ s) L → L.length ≤ (gp P s).length
  | [], _, L, h => by
    cases L with
    | nil => exact Nat.zero_le _
    | cons p L => exact absurd (h.sub p.1 (by rw [flat_cons]; exact List.mem_cons_self ..)) (List.not_mem_nil)
  | [x], _, L, h => by
    cases L with
    | nil => exact Nat.zero_le _
    | cons p L =>
      have h1 := h.sub p.1 (by rw [flat_cons]; exact List.mem_cons_self ..)
      have h2 := h.sub p.2 (by rw [flat_cons]; exact List.mem_cons_of_mem _ (List.mem_cons_self ..))
      rw [List.mem_singleton] at h1 h2
      have nd := h.nd
      rw [flat_cons, List.nodup_cons] at nd
      exact absurd (by rw [h1, h2]; exact List.mem_cons_self ..) nd.1
  | x :: y :: t, so, L, h => by
    rw [List.pairwise_cons] at so
    obtain ⟨s1, s2⟩ := so
    have s2' := s2
    rw [List.pairwise_cons] at s2
    obtain ⟨s3, s4⟩ := s2
    have lxy := s1 y (List.mem_cons_self ..)
    have tail : ∀ {M : List (α × α)}, Mt P (· ∈ x :: y :: t) M → x ∉ flat M → y ∉ flat M → Mt P (· ∈ t) M := fun hM nx ny => hM.mono fun r hr => by
      rcases List.mem_cons.mp (hM.sub r hr) with rfl | hm
      · exact absurd hr nx
      · rcases List.mem_cons.mp hm with rfl | hm
        · exact absurd hr ny
        · exact hm
    have inT : ∀ {u : α}, u ∈ x :: y :: t → u ≠ x → u ≠ y → u ∈ t := fun hu n1 n2 => by
      rcases List.mem_cons.mp hu with e | hm
      · exact absurd e n1
      · rcases List.mem_cons.mp hm with e | hm
        · exact absurd e n2
        · exact hm
    by_cases c : P x y = true
    · rw [gp_yes c, List.length_cons]
      have ih := gp_max sym ax1 ax2 t s4
      by_cases hx : x ∈ flat L
      · obtain ⟨L1, u, l1, pu, hu, nux, nx1, nu1, sub1, M1⟩ := h.rem sym hx
        by_cases hy : y ∈ flat L1
        · obtain ⟨L2, w, l2, pw, hw, nwy, ny2, nw2, sub2, M2⟩ := M1.rem sym hy
          have nuy : u ≠ y := fun e => nu1 (by rw [e]; exact hy)
          have nwx : w ≠ x := fun e => nx1 (by rw [← e]; exact hw)
          have nuw : u ≠ w := fun e => nu1 (by rw [e]; exact hw)
          have ut := inT (h.sub u hu) nux nuy
          have wt := inT (M1.sub w hw) nwx nwy
          have M3 : Mt P (· ∈ t) ((u, w) :: L2) := (tail M2 (fun e => nx1 (sub2 _ e)) ny2).cons (ax2 x y u w lxy (s3 u ut) (s3 w wt) pu pw) ut wt (fun e => nu1 (sub2 _ e)) nw2 nuw
          have := ih _ M3
          rw [List.length_cons] at this
          omega
        · have := ih _ (tail M1 nx1 hy)
          omega
      · by_cases hy : y ∈ flat L
        · obtain ⟨L1, w, l1, pw, hw, nwy, ny1, nw1, sub1, M1⟩ := h.rem sym hy
          have := ih _ (tail M1 (fun e => hx (sub1 _ e)) ny1)
          omega
        · have := ih _ (tail h hx hy)
          omega
    · rw [gp_no c]
      have hx : x ∉ flat L := fun hx => by
        obtain ⟨L1, u, l1, pu, hu, nux, nx1, nu1, sub1, M1⟩ := h.rem sym hx
        rcases List.mem_cons.mp (h.sub u hu) with e | hm
        · exact nux e
        · rcases List.mem_cons.mp hm with rfl | hm
          · exact c pu
          · exact c (ax1 x y u lxy (s3 u hm) pu)
      exact gp_max sym ax1 ax2 (y :: t) s2' L (h.mono fun r hr => by
        rcases List.mem_cons.mp (h.sub r hr) with rfl | hm
        · exact absurd hr hx
        · exact hm)
/-- chains: rows of neighbours that pair -/
def chA (P : α → α → Bool) : List α → α → List α → List (List α)
  | c, _, [] => [c]
  | c, a, r :: t => if P a r then chA P (c ++ [r]) r t else c :: chA P [r] r t
def ch (P : α → α → Bool) : List α → List (List α)
  | [] => []
  | x :: t => chA P [x] x t
def prs : List α → List (α × α)
  | x :: y :: t => (x, y) :: prs t
  | _ => []
theorem prs_snoc : ∀ (c : List α) (a r : α), (c.length % 2 = 0 → prs (c ++ [a] ++ [r]) = prs (c ++ [a]) ++ [(a, r)]) ∧ (c.length % 2 = 1 → prs (c ++ [a] ++ [r]) = prs (c ++ [a]))
  | [], a, r => ⟨fun _ => rfl, fun h => by cases h⟩
  | [x], a, r => ⟨(fun h => by cases h), fun _ => rfl⟩
  | x :: y :: t, a, r => by
    obtain ⟨h1, h2⟩ := prs_snoc t a r
    refine ⟨fun h => ?_, fun h => ?_⟩
    · show (x, y) :: prs (t ++ [a] ++ [r]) = (x, y) :: (prs (t ++ [a]) ++ [(a, r)])
      rw [h1 (by rw [List.length_cons, List.length_cons] at h; omega)]
    · show (x, y) :: prs (t ++ [a] ++ [r]) = (x, y) :: prs (t ++ [a])
      rw [h2 (by rw [List.length_cons, List.length_cons] at h; omega)]
theorem chA_prs : ∀ (t : List α) (c : List α) (a : α), (chA P (c ++ [a]) a t).flatMap prs = prs (c ++ [a]) ++ (if c.length % 2 = 0 then gp P (a :: t) else gp P t)
  | [], c, a => by
    show prs (c ++ [a]) ++ [] = _
    split <;> rfl
  | r :: t, c, a => by
    by_cases p : P a r = true
    · have e : chA P (c ++ [a]) a (r :: t) = chA P (c ++ [a] ++ [r]) r t := if_pos p
      rw [e, chA_prs t (c ++ [a]) r]
      obtain ⟨h1, h2⟩ := prs_snoc c a r
      by_cases ev : c.length % 2 = 0
      · rw [h1 ev, if_pos ev, if_neg (by rw [List.length_append, List.length_singleton]; omega), gp_yes p, List.append_assoc]
        rfl
      · rw [h2 (by omega), if_neg ev, if_pos (by rw [List.length_append, List.length_singleton]; omega)]
    · have e : chA P (c ++ [a]) a (r :: t) = (c ++ [a]) :: chA P ([] ++ [r]) r t := if_neg p
      rw [e, List.flatMap_cons, chA_prs t [] r]
      have e2 : prs ([] ++ [r]) ++ (if ([] : List α).length % 2 = 0 then gp P (r :: t) else gp P t) = gp P (r :: t) := rfl
      rw [e2]
      split
      · rw [gp_no p]
      · rfl
theorem ch_prs (s : List α) : (ch P s).flatMap prs = gp P s := by
  cases s with
  | nil => rfl
  | cons x t =>
    show (chA P ([] ++ [x]) x t).flatMap prs = _
    rw [chA_prs t [] x]
    rfl
/-! subsets by bits -/
theorem bit_off {n f : Nat} (h : n.testBit f = true) (i : Nat) : (n - 2 ^ f).testBit i = (n.testBit i && !decide (i = f)) := by
  have e := Nat.div_add_mod n (2 ^ f)
  have hb : n % 2 ^ f < 2 ^ f := Nat.mod_lt _ (Nat.two_pow_pos f)
  have hq : (n / 2 ^ f) % 2 = 1 := by
    rw [Nat.testBit_eq_decide_div_mod_eq] at h
    exact of_decide_eq_true h
  generalize n % 2 ^ f = b at e hb
  generalize n / 2 ^ f = a at e hq
  obtain ⟨q, rfl⟩ : ∃ q, a = 2 * q + 1 := ⟨a / 2, by omega⟩
  have e2 : n - 2 ^ f = 2 ^ f * (2 * q) + b := by
    rw [← e, Nat.mul_add, Nat.mul_one]
    omega
  rw [e2, ← e, Nat.testBit_two_pow_mul_add _ hb, Nat.testBit_two_pow_mul_add _ hb]
  by_cases c : i < f
  · rw [if_pos c, if_pos c, decide_eq_false (by omega)]
    simp
  · rw [if_neg c, if_neg c]
    by_cases c2 : i = f
    · subst c2
      rw [Nat.sub_self, decide_eq_true rfl]
      simp
    · rw [decide_eq_false c2]
      obtain ⟨j, hj⟩ : ∃ j, i - f = j + 1 := ⟨i - f - 1, by omega⟩
      rw [hj, Nat.testBit_succ, Nat.testBit_succ]
      have : (2 * q + 1) / 2 = q := by omega
      have h2 : 2 * q / 2 = q := by omega
      rw [this, h2]
      simp
theorem bit_le {n f : Nat} (h : n.testBit f = true) : 2 ^ f ≤ n := Nat.ge_two_pow_of_testBit h
end KMat
/-! a lambda without parameters, handed to an own def that calls it -/
namespace KA
open PySem PySem.Spec PyProof.Rows L2 LamX
section
variable {X : Cx}
theorem pe_lamF {T : List (Addr × Str)} {TT : (XK → Hp → VK → Prop) → Hp → VK → Prop} {x a : Str} {g c P : Addr} {k : Nat} {st : Stmt} {fd : FuncData} {Ng : List Str} {params : Arguments} {body : Expr} {scope : Scope} {t : XK → TE} {p lpos pos : Pos}
    (hg : Gl X x) (hm : X.mg x = some (.ref g)) (F : Fun X.K x x st g fd) (hb : L2.Binds X.K fd [a] []) (Sg : FnScope Ng [a] (defScope st)) (hNg : Ng[0]? = some a) (hva : Vis (defScope st) a)
    (hG : ∀ cdv, GivesTo X Ng x (defScope st) g cdv (defBody st) a (X.env.qual ++ "<lambda>") TT)
    (TB : TabB X.base X.mg c P) (hcode : X.env.code = .ref c) (hmT : (P, X.env.qual ++ "<lambda>") ∈ T) (hu : ∀ p ∈ T, p.1 = P → p.2 = X.env.qual ++ "<lambda>") (hr : Room (k + 2) X.A) (L : LamS X.env.scope scope) (hdef : defaultsOf params X.env = ([], []))
    (hbind : ∀ (q : Str) (cl : List (Str × Addr)) (pm cv ctv : Value), bindArgs (PySem.W.kla_fn "<lambda>" q params body scope cl pm cv ctv) ⟨[], []⟩ = pure [])
    (hbody : ∀ (A : Around) (outer : List Env) (s : Shared) (H : Hp) (E : XK) (f c' : Addr), Room k (A.deeper (lamEnv X scope s.heap.objs.size f c')) → PE (lamCx X A outer s H E scope f c') body (t E))
    (hdb : (x == ("__debug__" : Str)) = false := by decide) (hd : (a == ("__debug__" : Str)) = false := by decide) (hcd : (a == ("__classdict__" : Str)) = false := by decide) :
    PE X (.Call (.Name x p) [.Lambda params body scope lpos] [] pos) (tLam T TT t) := by
  obtain ⟨oc, od, kV, doc, pm, an, cdv, ct, osl, rfl, lk, hc⟩ := F.ex
  exact pe_lamcall hg hm F.kp lk hc hb Sg hNg hva (hG cdv) TB hcode hmT hu hr L hdef hbind hbody hdb hd hcd
theorem pi_listK {K' : PySem.W.Frag} {tg e : Expr} {t : TE} (hK : X.K = K') (h : PE X e t) : PI X tg e (iList K' t) := by
  subst hK
  exact pi_list h
end
end KA
/-! loops of any body over a list or a tuple that stays: comprehensions with two clauses, comprehensions of dicts -/
namespace KA
open PySem PySem.Spec PyProof.Rows L2
theorem pi_tupK {X : Cx} {K' : PySem.W.Frag} {tg e : Expr} {t : TE} (hK : X.K = K') (h : PE X e t) : PI X tg e (iTup K' t) := hK ▸ pi_tup h
theorem call_isiB {X : Cx} {K' : PySem.W.Frag} (hK : X.K = K') : CallR X (.builtin "isinstance") (rIsi K') := hK ▸ call_isi
theorem itl_loop {K : PySem.W.Frag} {a : Addr} {xs : List V} {H1 : Hp} {B : V → Hp → (Hp → Prop) → Prop} {Qd : Hp → Prop} (Pv : Nat → Hp → Prop) (h0 : Pv 0 H1) (hl : ∀ i H, i ≤ xs.length → Pv i H → SqL K H a xs)
    (hs : ∀ i x H, xs[i]? = some x → Pv i H → B x H (Pv (i + 1))) (hd : ∀ H, Pv xs.length H → Qd H) :
    ∃ W : Nat → Nat → Hp → Prop, (∃ m, W 0 m H1) ∧ ∀ i m H, W i m H →
      ((Itl K a).stop i H ∧ Qd H) ∨ ((Itl K a).go i H ∧ ∃ Nx : Hp → Prop, (∀ H', Nx H' → ∃ m', m' < m ∧ W (i + 1) m' H') ∧ ∀ x H', (Itl K a).yld i H x H' → B x H' Nx) := by
  refine ⟨fun i m H => m = xs.length - i ∧ i ≤ xs.length ∧ Pv i H, ⟨xs.length, by simp, Nat.zero_le _, h0⟩, ?_⟩
  rintro i m H ⟨rfl, hi, p⟩
  have q := hl i H hi p
  by_cases hlt : i < xs.length
  · refine .inr ⟨⟨xs, xs[i], q, by simp [hlt]⟩, Pv (i + 1), fun H' p' => ⟨xs.length - (i + 1), by omega, rfl, hlt, p'⟩, fun x H' y => ?_⟩
    obtain ⟨e, y⟩ := y
    subst e
    exact hs i x _ (y xs q) p
  · have e : i = xs.length := by omega
    subst e
    exact .inl ⟨⟨xs, q, Nat.le_refl _⟩, hd H p⟩
theorem itt_loop {K : PySem.W.Frag} {a : Addr} {xs : List V} {H1 : Hp} {B : V → Hp → (Hp → Prop) → Prop} {Qd : Hp → Prop} (Pv : Nat → Hp → Prop) (h0 : Pv 0 H1) (hl : ∀ i H, i ≤ xs.length → Pv i H → SqT K H a xs)
    (hs : ∀ i x H, xs[i]? = some x → Pv i H → B x H (Pv (i + 1))) (hd : ∀ H, Pv xs.length H → Qd H) :
    ∃ W : Nat → Nat → Hp → Prop, (∃ m, W 0 m H1) ∧ ∀ i m H, W i m H →
      ((Itt K a).stop i H ∧ Qd H) ∨ ((Itt K a).go i H ∧ ∃ Nx : Hp → Prop, (∀ H', Nx H' → ∃ m', m' < m ∧ W (i + 1) m' H') ∧ ∀ x H', (Itt K a).yld i H x H' → B x H' Nx) := by
  refine ⟨fun i m H => m = xs.length - i ∧ i ≤ xs.length ∧ Pv i H, ⟨xs.length, by simp, Nat.zero_le _, h0⟩, ?_⟩
  rintro i m H ⟨rfl, hi, p⟩
  have q := hl i H hi p
  by_cases hlt : i < xs.length
  · refine .inr ⟨⟨xs, xs[i], q, by simp [hlt]⟩, Pv (i + 1), fun H' p' => ⟨xs.length - (i + 1), by omega, rfl, hlt, p'⟩, fun x H' y => ?_⟩
    obtain ⟨e, y⟩ := y
    subst e
    exact hs i x _ (y xs q) p
  · have e : i = xs.length := by omega
    subst e
    exact .inl ⟨⟨xs, q, Nat.le_refl _⟩, hd H p⟩
end KA
/-! y = {k: v for ..}, y a local name -/
namespace KA
open PySem PySem.Spec PyProof.Rows L2
section
variable {X : Cx}
theorem ps_setDc {i : Nat} {y : Str} {py : Pos} {kx vx tg iter : Expr} {ifs : List Expr} {scope : Scope} {own : List (Str × Nat)} {pos spos : Pos} {wi : TI} {g : TG} {tt : TT} {tk tv : TE} (hc : X.calm = true) (hN : X.N.Nodup) (hy : X.N[i]? = some y) (hyl : X.env.scope.names.lookup y = some .local)
    (hsw : swapsWith (.DictComp kx vx [⟨tg, iter, ifs, 0⟩] scope pos) (some (.Name y py)) spos.line X.env = pure true) (hi : PI X tg iter wi) (ok : BlkOk X.N X.env.scope scope own)
    (hg : ∀ s H C cl fp, PG (X.blk s H scope (compEnvC scope cl C X.env) fp) tg g) (ht : ∀ s H C cl fp, PTs (X.blk s H scope (compEnvC scope cl C X.env) fp) ifs tt)
    (hk : ∀ s H C cl fp, PE (X.blk s H scope (compEnvC scope cl C X.env) fp) kx tk) (he : ∀ s H C cl fp, PE (X.blk s H scope (compEnvC scope cl C X.env) fp) vx tv)
    (hs : ∀ x, foldedSetIterable iter X.env x = pure x := by intro _; rfl) :
    PS X (.Assign [.Name y py] (.DictComp kx vx [⟨tg, iter, ifs, 0⟩] scope pos) spos) (tAsg (tDc wi g tt tk tv (own.map (·.2))) (gName i)) := by
  refine ⟨fun pins s σ H D I h => ?_⟩
  rw [exec_Assign_Name_used _ _ _ _ hsw]
  refine wpAny_bind (wpAny_standAt (wpAny_bind ?_))
  show wpAny _ X.A (do let _ ← comprehension (.DictComp kx vx [⟨tg, iter, ifs, 0⟩] scope pos) scope X.env (firstIterPos [⟨tg, iter, ifs, 0⟩] pos) newDict false (eval iter X.env) (some (assign (.Name y py) X.env))) _ _ s
  refine wpAny_bind (thn (dc_core (Q := fun x H1 => gName i x σ H1 D.nx) (Qf := fun _ s' => SP X pins D .next s') hc hN I hi ok hg ht hk he hs h fun L C s' m H' I' q hn f => ?_) fun _ s' hq => wpAny_pure (wpAny_pure hq))
  show wpAny _ _ (assign (.Name y py) X.env (.ref L)) _ _ _
  obtain ⟨f0, f1, f2, f3, f4, f5⟩ := f
  refine wpAny_assign_Name (store_ok2 (v := V.ref L) I' hN hy (.inl hyl) rfl (fun s2 I2 ⟨a, sb, ha⟩ => ?_) (.inr hyl))
  have haC : C ≠ a := by
    rcases ha with z | z
    · rw [z]
      exact f1
    · exact fun e => f4 y a z e.symm
  exact ⟨m, hn.sameBut sb haC, fun h3 sb3 => ⟨_, H', I2.turned (t' := s2.toks) (fun b o hb e => (sb3.2 b hb).trans e) f0 f1 f3 f4 f5, q⟩⟩
theorem swd_true {kx vx : Expr} {gs : List Comprehension} {scope : Scope} {pos py : Pos} {y : Str} {l : Nat} {env : Env} (hk : env.scope.kind = .function) (hy : env.scope.names.lookup y = some .local) (hl : (py.line == pos.line) = true)
    (ha : (scope.names.any fun (n, k) => n == y && (k == .local || k == .cell)) = false) : swapsWith (.DictComp kx vx gs scope pos) (some (.Name y py)) l env = pure true := by
  have ky : env.kindOf y = some .local := hy
  have hb : env.blockKind = .function := by
    unfold Env.blockKind
    rw [hk]
    rfl
  unfold swapsWith
  simp only [hb, ky, ha, Expr.pos, hl]
  rfl
end
end KA
namespace KA
open PySem PySem.Spec PyProof.Rows L2
/-! d.update(e), both plain dicts -/
section
variable {X : Cx} {pins : List (Addr × Obj)} {σ : L2.St} {H : Hp} {s : Shared} {a b : Addr} {kvs more : List (Key × V)} {A : Around} {E : Value → Shared → Prop}
theorem d_update {Q : Value → Shared → Prop} (I : Inv X pins σ H s) (e : H a = some (.dK kvs)) (e2 : H b = some (.dK more)) (ne : a ≠ b) (hz : kvs.length + more.length ≤ sizeLine)
    (h : ∀ s', Inv X pins σ (upd H a (.dK (mergeK kvs more))) s' → Q .none s') : wpAny (model X.prog X.w) A (call (.builtin "dict.update") [.ref a, .ref b]) Q E s := by
  obtain ⟨z, hd, vs, rel, dd⟩ := dk_of I.hok e
  obtain ⟨z2, hd2, vs2, rel2, dd2⟩ := dk_of I.hok e2
  refine call_meetsIn PySem.F.slot_dict_update dd.typeIs PySem.F.entry_dict_update (PySem.F.args_dict_update_2 _ _) (meets_dict_update (mixKind X.prog X.w) a b ne hd2) ⟨vs, vs2, dd, dd2, by rw [← rel.length, ← rel2.length]; exact hz, fun h' dd' _ hs => h _ ?_⟩
  have he : ∃ q, h'.get? a = some q := let ⟨q, _, _, hq, _⟩ := dd'; ⟨q, hq⟩
  exact d_write (t' := s.toks) I (by rw [e]; exact True.intro) hs he (dk_new (Nat.le_trans (length_mergeK more kvs) hz) hd (KV.merge rel2 rel) dd')
end
def tDUpd (td ty : TE) : TE := fun σ H Q => td σ H fun x H1 => ∃ a, x = .ref a ∧ IsD H1 a ∧ ty σ H1 fun y H2 => ∃ b kvs more, y = .ref b ∧ H2 a = some (.dK kvs) ∧ H2 b = some (.dK more) ∧ a ≠ b ∧ kvs.length + more.length ≤ sizeLine ∧ Q .non (upd H2 a (.dK (mergeK kvs more)))
section
variable {X : Cx} {o e f : Expr} {apos cpos : Pos} {td ty tx : TE}
theorem pe_dupd (ho : PE X o td) (he : PE X e ty) (m : M1 X o "update" apos e cpos) : PE X (.Call (.Attribute o "update" apos) [e] [] cpos) (tDUpd td ty) := by
  refine ⟨fun pins s σ H Q I h => ?_⟩
  refine wpAny_Call_method m.base m.few m.line PySem.F.plainAttrs_dict PySem.F.slot_dict_update PySem.F.type_dict_update (thn (ho.run pins s σ H _ I h) fun u s1 ⟨x, H1, I1, rx, a, ex, d, q1⟩ => ?_)
  subst ex
  obtain rfl : u = Value.ref a := rx
  obtain ⟨t1, t2, _⟩ := isD_at I1 d
  refine ⟨t1, t2, ?_⟩
  rw [m.trees]
  refine Calls.callWith_builtin rfl (Calls.evalArgs_plain (Calls.spliced_cons (thn (he.run pins s1 σ H1 _ I1 q1) fun iv s2 ⟨y, H2, I2, ry, b, kvs, more, ey, ea, eb, ne, hz, q2⟩ => Calls.spliced_nil ?_)))
  subst ey
  obtain rfl : iv = Value.ref b := ry
  exact d_update I2 ea eb ne hz fun s3 I3 => ⟨.non, _, I3, rfl, q2⟩
end
/-! len(set(xs)) of whole numbers, some perhaps alike -/
def lenF (ns : List Int) : Nat := (firstMet (fun i => ns.getD i 0) ns.length).length
theorem lenF_le (ns : List Int) : lenF ns ≤ ns.length := firstMet_length_le _ _
theorem firstMet_full (val : Nat → Int) : ∀ i, (firstMet val i).length = i → ∀ j k, j < k → k < i → val j ≠ val k
  | 0, _ => fun j k _ h => absurd h (Nat.not_lt_zero _)
  | i + 1, h => by
    have hle := firstMet_length_le val i
    rw [firstMet_succ] at h
    unfold step_dedup at h
    by_cases c : (firstMet val i).any (· == val i) = true
    · rw [if_pos c] at h
      omega
    · rw [if_neg c, List.length_append, List.length_singleton] at h
      intro j k hjk hk
      rcases Nat.lt_or_ge k i with hk2 | hk2
      · exact firstMet_full val i (by omega) j k hjk hk2
      · have ek : k = i := by omega
        subst ek
        intro e
        refine c ?_
        rw [firstMet_any, List.any_eq_true]
        exact ⟨val j, List.mem_map.mpr ⟨j, List.mem_range.mpr hjk, rfl⟩, by rw [e]; exact beq_self_eq_true _⟩
theorem lenF_iff (ns : List Int) : lenF ns = ns.length ↔ ns.Nodup := by
  constructor
  · intro h
    refine List.pairwise_iff_getElem.mpr fun i j hi hj hij => ?_
    have := firstMet_full _ _ h i j hij hj
    rw [List.getD_eq_getElem?_getD, List.getD_eq_getElem?_getD, List.getElem?_eq_getElem hi, List.getElem?_eq_getElem hj] at this
    exact this
  · intro h
    unfold lenF
    rw [RZ.firstMet_nodup h ns.length (Nat.le_refl _), List.take_length]
def tLenSetD (K : PySem.W.Frag) (ta : TE) : TE := fun σ H Q => ta σ H fun x H1 => ∃ (l : Addr) (ns : List Int), x = .ref l ∧ SqL K H1 l (ns.map V.int) ∧ ns.length ≤ 4000 ∧ Q (.int (lenF ns : Nat)) H1
theorem pe_lenSetD {X : Cx} {a : Expr} {ta : TE} {p p2 q pos : Pos} (hg : Gl X "len") (hm : X.mg "len" = none) (hg2 : Gl X "set") (hm2 : X.mg "set" = none) (ha : PE X a ta) (hc : X.calm = true := by rfl)
    (na : starEach [a] X.env = (false, eval a X.env) :: starEach [] X.env := by rfl) : PE X (.Call (.Name "len" p) [.Call (.Name "set" p2) [a] [] q] [] pos) (tLenSetD X.K ta) := by
  refine ⟨fun pins s σ H Q I h => ?_⟩
  refine Call_ (ld_blt I hg hm boot_len ?_)
  refine PyProof.Rows.callWith_builtin1 (PyProof.Rows.args_cons ?_ rfl) rfl rfl
  refine Call_ (ld_blt I hg2 hm2 boot_set ?_)
  refine PyProof.Rows.callWith_type1 (PyProof.Rows.args_cons (thn (ha.run pins s σ H _ I h) fun v s1 ⟨x, H1, I1, r1, q1⟩ => PyProof.Rows.args_nil ?_) na) na rfl
  obtain ⟨l, ns, rfl, hq, hl, q1⟩ := q1
  cases r1
  obtain ⟨its, r, pl, hz⟩ := I1.list hq
  have hlen : its.toArray.size = ns.length := by rw [List.size_toArray, ← r.length, List.length_map]
  refine call_set_list (I1.ok.hd hc) pl.isList (by simpa using RZ.intsAre_vals r) (by rw [hlen]; unfold scanBound; omega) fun h' tk hS hk => ?_
  refine PyProof.Rows.args_nil ?_
  rw [hlen] at hS
  obtain ⟨o, es, ep, t, ho, hex, hd, _, _, _, hf, hn⟩ := hS
  have hle := lenF_le ns
  have I2 : Inv X pins σ H1 { s1 with heap := h', toks := tk } := I1.kept fun b o e => hk b o (Heap.lt_size e) e
  exact call_len_set ho hex hd hf (by rw [hn] <;> (have : (firstMet (fun i => ns.getD i 0) ns.length).length = lenF ns := rfl) <;> omega) ⟨.int (lenF ns : Nat), H1, I2.tok _, ⟨_, by rw [hn]; rfl⟩, q1⟩
end KA
namespace KA
open PySem PySem.Spec PyProof.Rows L2
/-! enumerate over a tuple -/
theorem meets_enumT {v : Value} {o1 : Obj} {P1 : Heap → Prop} (Bg : Begins v o1 P1) :
    Meets (Builtin.«enumerate.__new__» ⟨[.type "enumerate", v], []⟩) (fun _ R s0 => P1 s0.heap ∧
      R (.ok (.ret (.ref (s0.heap.push o1).objs.size))) { s0 with heap := (s0.heap.push o1).push { cls := .type "enumerate", data := .fields #[.none, .bool false, .ref s0.heap.objs.size, rawInt 0, .none, .none] } }) :=
  .of_wp fun prog w A R s0 hyp => by
    obtain ⟨hp, gg, dd, tk, os⟩ := s0
    obtain ⟨hb, fin⟩ := hyp
    have hsub := sub_enumerate
    have go : ∀ {A' : Around} {E : Value → Shared → Prop} {Q : Value → Shared → Prop}, Q (.ref hp.objs.size) ⟨hp.push o1, gg, dd, tk, os⟩ → wpAny (model prog w) A' (pyIter v) Q E ⟨hp, gg, dd, tk, os⟩ := fun z => Bg.iter prog w _ _ ⟨hp, gg, dd, tk, os⟩ _ hb z
    wp_walk using go
    refine wpAny_stack_any fun _ => wpAny_pure ?_
    split
    · rename_i c _ _ _ _ _
      cases (c == Value.type "enumerate") <;> (wp_walk using go; exact ⟨_, rfl, fin⟩)
    · wp_walk using go
      exact ⟨_, rfl, fin⟩
section
variable {prog : Program} {w : World} {A : Around} {E : Value → Shared → Prop} {s : Shared}
theorem call_enumT {v : Value} {o1 : Obj} {P1 : Heap → Prop} {Q : Value → Shared → Prop} (Bg : Begins v o1 P1) (hb : P1 s.heap)
    (fin : ∀ g, IsEnum g (s.heap.objs.size + 1) s.heap.objs.size 0 .none → g.get? s.heap.objs.size = some o1 → (∀ b ob, s.heap.get? b = some ob → g.get? b = some ob) → Q (.ref (s.heap.objs.size + 1)) { s with heap := g }) :
    wpAny (model prog w) A (call (.type "enumerate") [v]) Q E s := by
  refine callType_new F.called_enumerate (by decide) (F.typeCall_enumerate_1 _) (F.newCall_enumerate_1 _) (fun ob => F.args_object_init_2 ob _) F.entry_enumerate_new (meets_enumT Bg) ⟨hb, ?_⟩
  have sz1 : (s.heap.push o1).objs.size = s.heap.objs.size + 1 := Heap.size_push ..
  show _ ∧ _
  rw [sz1]
  have isE : IsEnum ((s.heap.push o1).push { cls := .type "enumerate", data := .fields #[.none, .bool false, .ref s.heap.objs.size, rawInt 0, .none, .none] }) (s.heap.objs.size + 1) s.heap.objs.size 0 .none := by
    have z := Heap.get?_push_size (s.heap.push o1) (o := { cls := .type "enumerate", data := .fields #[.none, .bool false, .ref s.heap.objs.size, rawInt 0, .none, .none] }) rfl
    rwa [sz1] at z
  exact ⟨⟨_, isE, rfl⟩, fin _ isE (Heap.get?_push_of_some _ (Heap.get?_push_size _ Bg.free)) fun b ob z => Heap.get?_push_of_some _ (Heap.get?_push_of_some _ z)⟩
theorem enumT_end {en it a : Addr} {i : Nat} {its : List Value} {old : Value} {Q : Option Value → Shared → Prop} (nh : A.handled = none) (isE : IsEnum s.heap en it i old) (isT : s.heap.IsTupleIter it a i) (tp : s.heap.IsTuple a its.toArray) (le : its.length ≤ i)
    (fin : ∀ g, Heap.ExtBut it s.heap g → Q none { s with heap := g }) : wpAny (model prog w) A (pyNext (.ref en)) Q E s := by
  have ty : s.TypeIs (.ref en) "enumerate" := ⟨_, isE, rfl⟩
  unfold pyNext
  refine wpAny_bind (wpAny_attempt (wpAny_callSpecial?_slot (name := Str.ofString "__next__") ty F.slot_enumerate_next (wpAny_call_entry F.slot_enumerate_next ty F.entry_enumerate_next ?_ (F.args_enumerate_next_1 _))))
  show wpAny _ _ (field (.ref en) 2 >>= _) _ _ _
  refine wpAny_bind (wpAny_field isE rfl (x := .ref it) rfl (wpAny_bind (wpAny_nextOf_tuple_end nh isT tp (by simp; omega) fun g z eb ⟨o, ho, co⟩ => ?_)))
  exact wpAny_bind (wpAny_isInstance (T := "StopIteration") (b := true) ⟨o, ho, co⟩ isSubtype_stop (wpAny_pure (fin _ eb)))
end
/-- the tuple at a, each item in a new pair -/
def IteT (K : PySem.W.Frag) (a : Addr) : It :=
  ⟨fun i H => ∃ (xs : List V) (x : V), SqT K H a xs ∧ xs[i]? = some x, fun i H v G => ∃ T x, v = .ref T ∧ H T = none ∧ G = upd H T (.tup [.int (i : Nat), x]) ∧ ∀ xs, SqT K H a xs → xs[i]? = some x, fun i H => ∃ xs : List V, SqT K H a xs ∧ xs.length ≤ i⟩
theorem tup_no_iter {h : Heap} {a it : Addr} {i : Nat} {b : Addr} {its : Array Value} (hi : h.IsTupleIter it b i) (ht : h.IsTuple a its) : a ≠ it := fun e => by
  obtain ⟨o, h1, c1, _⟩ := hi
  obtain ⟨o', h2, c2, _⟩ := ht
  rw [e] at h2
  rw [Option.some.inj (h1.symm.trans h2)] at c1
  exact absurd (c1.symm.trans c2) (by decide)
theorem tup_no_enum {h : Heap} {a en it : Addr} {i : Int} {old : Value} {its : Array Value} (hi : IsEnum h en it i old) (ht : h.IsTuple a its) : en ≠ a := fun e => by
  obtain ⟨o', h2, c2, _⟩ := ht
  have h1 : h.get? en = _ := hi
  rw [← e] at h2
  rw [← Option.some.inj (h1.symm.trans h2)] at c2
  exact absurd (show Value.type "enumerate" = Value.type "tuple" from c2) (by decide)
theorem turn_enumT {P : Program} {w : World} {K : PySem.W.Frag} {elts : List Expr} {kk : Nat} {tp : Pos} (a en it : Addr) :
    Turn P w K (.Tuple elts kk tp) (IteT K a) [en, it] en (fun i h => (∃ old, IsEnum h en it ((i : Nat) : Int) old) ∧ h.IsTupleIter it a i ∧ en ≠ it) where
  mem := by simp
  obj := fun i h st b hb => by
    obtain ⟨⟨old, isE⟩, ⟨o, ho, _, dt⟩, _⟩ := st
    rcases (show b = en ∨ b = it by simpa using hb) with rfl | rfl
    · exact ⟨_, isE, fun v z => nomatch z⟩
    · exact ⟨o, ho, fun v z => by rw [dt] at z; cases z⟩
  keep := fun i h g st k => by
    obtain ⟨⟨old, isE⟩, isT, ne⟩ := st
    exact ⟨⟨old, k en (by simp) _ isE⟩, isT.at fun o z => k it (by simp) o z, ne⟩
  item := by
    intro X eP ew eK cm i pins s σ H E I fp st go
    subst eP ew eK
    obtain ⟨⟨old, isE⟩, isT, ne⟩ := st
    obtain ⟨xs, x, sq, hx⟩ := go
    obtain ⟨its, rv, tp', hz⟩ := I.tuple sq
    have tp' : s.heap.IsTuple a its.toArray := tp'
    obtain ⟨u, hu, ru⟩ := rv.get hx
    have lte : en < s.heap.objs.size := Heap.lt_size isE
    have lti : it < s.heap.objs.size := by
      obtain ⟨_, z, _⟩ := isT
      exact Heap.lt_size z
    have dr := Draws.tuple (prog := X.prog) (w := X.w) (A := X.A.in1) (show X.A.in1.handled = none from I.ok.hd cm) it a (tup_no_iter isT tp') its.toArray
    have iLt : i < its.toArray.size := by
      have := (List.getElem?_eq_some_iff.mp hu).1
      simpa using this
    refine wpAny_pyNext_enum_itemD dr isE ⟨isT, tp'⟩ iLt ne (by simp [ne, tup_no_enum isE tp']) fun y g tk py isO st' newT szg kp => ?_
    have ey : y = u := by
      have py : its.toArray[i]? = some y := py
      have : its[i]? = some y := by simpa using py
      exact Option.some.inj (this.symm.trans hu)
    subst ey
    refine ⟨_, rfl, wpAny_letOwnedTupleGo_enum (s := { s with heap := g, toks := tk + 1 }) isO fun g2 isE2 sb => ?_⟩
    have newT2 : g2.get? s.heap.objs.size = some { cls := .type "tuple", data := .seq #[.int i tk, y] } := (sb.2 _ (Nat.ne_of_gt lte)).trans newT
    have okT : ObjOk X.prog X.w (upd H s.heap.objs.size (.tup [.int (i : Nat), x])) g2 s.heap.objs.size (.tup [.int (i : Nat), x]) :=
      ⟨by show 2 ≤ sizeLine; decide, [.int i tk, y], .cons ⟨_, rfl⟩ (.cons ru .nil), ⟨_, newT2, rfl, _, rfl⟩⟩
    have J : Inv X pins σ (upd H s.heap.objs.size (.tup [.int (i : Nat), x])) { s with heap := g2, toks := tk + 1 } :=
      I.turnedNew (ch := [en, it]) (fun b ob nb z => (sb.2 b (fun q => nb (by simp [q]))).trans (kp b ob (fun q => nb (by simp [q])) (fun q => nb (by simp [q])) z)) fp (Nat.le_refl _) okT
    refine ⟨.ref s.heap.objs.size, _, J, rfl, ⟨_, x, rfl, I.hok.fresh (Nat.le_refl _), rfl, fun ys hy => by rw [I.tuple_inj hy sq]; exact hx⟩, ⟨⟨y, ?_⟩, st'.1.at fun o z => (sb.2 it (Ne.symm ne)).trans z, ne⟩, fun b hb => ?_⟩
    · rw [show ((i + 1 : Nat) : Int) = (i : Int) + 1 by omega]
      exact isE2
    · have ltb : b < s.heap.objs.size := by
        rcases (show b = en ∨ b = it by simpa using hb) with q | q
        · rw [q]; exact lte
        · rw [q]; exact lti
      rw [upd_ne (Nat.ne_of_lt ltb)]
      exact (fp b hb).1
  done := by
    intro X eP ew eK cm i pins s σ H E I fp st go
    subst eP ew eK
    obtain ⟨⟨old, isE⟩, isT, ne⟩ := st
    obtain ⟨xs, sq, hx⟩ := go
    obtain ⟨its, rv, tp', hz⟩ := I.tuple sq
    have tp' : s.heap.IsTuple a its.toArray := tp'
    obtain ⟨f0, f1, f2, f3, f4, f5⟩ := fp it (by simp)
    have ll := rv.length
    exact enumT_end (I.ok.hd cm) isE isT tp' (by omega) fun g eb => ⟨rfl, I.turned (t' := s.toks) (fun b o nb z => eb b o nb z) f0 f1 f3 f4 f5⟩
  self := fun A i s Q E st fin => by
    obtain ⟨⟨_, isE⟩, _⟩ := st
    exact wpAny_pyIter_enum isE fin
def iEnumT (K : PySem.W.Frag) (ta : TA) : TI := fun σ H R => ta σ H fun vs G => ∃ a xs, vs = [.ref a] ∧ SqT K G a xs ∧ R (IteT K a) G
theorem pi_enumT {X : Cx} {e : Expr} {ta : TA} {p pos tp : Pos} {elts : List Expr} {kk : Nat} (gl : Gl X "enumerate") (mn : X.mg "enumerate" = none) (ha : PA X [e] ta) (st : starEach [e] X.env = [(false, eval e X.env)] := by rfl) :
    PI X (.Tuple elts kk tp) (.Call (.Name "enumerate" p) [e] [] pos) (iEnumT X.K ta) := by
  refine ⟨fun pins s σ H R I h => ?_⟩
  refine Call_ (ld_blt I gl mn boot_enumerate (PyProof.Rows.callWith_type1 (thn (ha.run pos pins s σ H _ I h) fun us s1 ⟨vs, H1, I1, r1, a, xs, ex, sq, q⟩ => ?_) st rfl))
  subst ex
  obtain ⟨u, rfl, r⟩ : ∃ u, us = [u] ∧ RelV (.ref a) u := by
    cases r1 with
    | cons r rr => cases rr; exact ⟨_, rfl, r⟩
  cases r
  obtain ⟨its, rv, tp', hz⟩ := I1.tuple sq
  refine call_enumT (begins_tuple a its.toArray) tp' fun g isE isT kp => wpAny_pyIter_enum isE ?_
  have I2 : Inv X pins σ H1 { s1 with heap := g } := I1.kept (t' := s1.toks) kp
  refine ⟨s1.heap.objs.size + 1, [s1.heap.objs.size + 1, s1.heap.objs.size], _, _, H1, rfl, I2, turn_enumT a (s1.heap.objs.size + 1) s1.heap.objs.size, ⟨⟨.none, isE⟩, ⟨_, isT, rfl, rfl⟩, Nat.succ_ne_self _⟩, fun b hb => ?_, q⟩
  have le : s1.heap.objs.size ≤ b := by
    rcases (show b = s1.heap.objs.size + 1 ∨ b = s1.heap.objs.size by simpa using hb) with z | z
    · rw [z]; exact Nat.le_add_right _ _
    · rw [z]; exact Nat.le_refl _
  exact I1.fpOk le (I1.hok.fresh le)
/-- a comprehension over enumerate(tuple) that leaves places out; the heap stays but for the pairs -/
theorem lc_enumT {K : PySem.W.Frag} {a : Addr} {xs : List V} {H : Hp} {D : Addr} (hD : H D = none) (hS : H a = some (.tup xs)) (hl : xs.length ≤ 10000) (p : Nat → Bool) (f : Nat → V)
    {g : TG} {tt : TT} {te : TE} {vs : List Nat} {σ : L2.St} {Qd : Hp → Prop}
    (turn : ∀ (i : Nat) (x : V) (T : Addr) (H2 : Hp) (R : V → Hp → Prop) (C : Hp → Prop), xs[i]? = some x → Same H H2 → H2 T = some (.tup [.int (i : Nat), x]) → (p i = true → R (f i) H2) → (p i = false → C H2) → g (.ref T) (wipe σ vs) H2 fun σ2 H3 => wipe σ2 vs = wipe σ vs ∧ tt σ2 H3 fun b H4 => if b = true then te σ2 H4 R else C H4)
    (fin : ∀ H', Same H H' → H' D = some (.lst (((List.range xs.length).filter p).map f)) → Qd H') :
    ∃ W : Nat → Nat → Hp → Prop, (∃ m, W 0 m (upd H D (.lst []))) ∧ ∀ i m H, W i m H →
      ((IteT K a).stop i H ∧ Qd H) ∨ ((IteT K a).go i H ∧ ∃ Nx : Hp → Prop, (∀ H', Nx H' → ∃ m', m' < m ∧ W (i + 1) m' H') ∧ ∀ x H', (IteT K a).yld i H x H' → g x (wipe σ vs) H' fun σ2 H2 => wipe σ2 vs = wipe σ vs ∧ tt σ2 H2 fun b H3 =>
        if b = true then te σ2 H3 fun y H4 => ∃ acc, H4 D = some (.lst acc) ∧ acc.length < sizeLine ∧ Nx (upd H4 D (.lst (acc ++ [y]))) else Nx H3) := by
  refine ⟨fun i m H' => i ≤ xs.length ∧ m = xs.length - i ∧ Same H H' ∧ H' D = some (.lst (((List.range i).filter p).map f)), ⟨_, Nat.zero_le _, rfl, same_upd hD, upd_same⟩, ?_⟩
  rintro i m H1 ⟨hi, rfl, s1, e1⟩
  have ea := s1 _ _ hS
  by_cases he : i = xs.length
  · subst he
    exact .inl ⟨⟨xs, .inl (.inl ea), Nat.le_refl _⟩, fin H1 s1 e1⟩
  have hlt : i < xs.length := by omega
  refine .inr ⟨⟨xs, xs[i], .inl (.inl ea), List.getElem?_eq_getElem hlt⟩, fun H' => Same H H' ∧ H' D = some (.lst (((List.range (i + 1)).filter p).map f)), fun H' ⟨z1, z2⟩ => ⟨xs.length - (i + 1), by omega, by omega, rfl, z1, z2⟩, ?_⟩
  rintro _ _ ⟨T, x, rfl, hT, rfl, hx⟩
  have nT := ne_of_none e1 hT
  have z := same_upd hT (o := .tup [.int (i : Nat), x])
  have s2 := s1.trans z
  have e2 := z _ _ e1
  refine turn i x T _ _ _ (hx xs (.inl (.inl ea))) s2 upd_same (fun hp => ?_) (fun hp => ?_)
  · refine ⟨_, e2, ?_, fun b o h => ?_, ?_⟩
    · rw [List.length_map]
      refine Nat.lt_of_le_of_lt (List.length_filter_le _ _) ?_
      rw [List.length_range]
      exact Nat.lt_of_lt_of_le (show i < 10000 by omega) (by decide)
    · rw [upd_ne (ne_of_none h hD)]
      exact s2 _ _ h
    · rw [upd_same, List.range_succ, List.filter_append, List.map_append, List.filter_cons_of_pos hp]
      rfl
  · refine ⟨s2, ?_⟩
    rw [e2, List.range_succ, List.filter_append, List.map_append, List.filter_cons_of_neg (by rw [hp]; exact Bool.false_ne_true)]
    show _ = some (HO.lst (_ ++ []))
    rw [List.append_nil]
end KA
namespace KA
open PySem PySem.Spec PyProof.Rows L2
/-- [.. for x in a tuple] -/
theorem lc_genT {K : PySem.W.Frag} {a : Addr} {xs : List V} {H : Hp} {D : Addr} (hD : H D = none) (hS : H a = some (.tup xs)) (hl : xs.length ≤ 10000) (G : Nat → V → Hp → Prop) (hG : ∀ j v H1 H2, NL H1 H2 → G j v H1 → G j v H2)
    {g : TG} {tt : TT} {te : TE} {vs : List Nat} {σ : L2.St} {Qd : Hp → Prop}
    (turn : ∀ (i : Nat) (x : V) (H2 : Hp) (R : V → Hp → Prop) (C : Hp → Prop), xs[i]? = some x → Same H H2 → (∀ v H3, Same H2 H3 → G i v H3 → R v H3) → g x (wipe σ vs) H2 fun σ2 H2 => wipe σ2 vs = wipe σ vs ∧ tt σ2 H2 fun b H3 => if b = true then te σ2 H3 R else C H3)
    (fin : ∀ H' acc, Same H H' → H' D = some (.lst acc) → acc.length = xs.length → (∀ j v, acc[j]? = some v → G j v H') → Qd H') :
    ∃ W : Nat → Nat → Hp → Prop, (∃ m, W 0 m (upd H D (.lst []))) ∧ ∀ i m H, W i m H →
      ((Itt K a).stop i H ∧ Qd H) ∨ ((Itt K a).go i H ∧ ∃ Nx : Hp → Prop, (∀ H', Nx H' → ∃ m', m' < m ∧ W (i + 1) m' H') ∧ ∀ x H', (Itt K a).yld i H x H' → g x (wipe σ vs) H' fun σ2 H2 => wipe σ2 vs = wipe σ vs ∧ tt σ2 H2 fun b H3 =>
        if b = true then te σ2 H3 fun y H4 => ∃ acc, H4 D = some (.lst acc) ∧ acc.length < sizeLine ∧ Nx (upd H4 D (.lst (acc ++ [y]))) else Nx H3) := by
  refine lc_tup (K := K) (a := a) (xs := xs) (fun i H' => Same H H' ∧ ∃ acc, H' D = some (.lst acc) ∧ acc.length = i ∧ ∀ j v, acc[j]? = some v → G j v H') ⟨same_upd hD, [], upd_same, rfl, fun j v h => by simp at h⟩ (fun i H' _ h => .inl (.inl (h.1 _ _ hS))) ?_ ?_
  · rintro i x H2 hi ⟨s2, acc, e2, l2, g2⟩
    have hil : i < xs.length := (List.getElem?_eq_some_iff.mp hi).1
    refine turn i x H2 _ _ hi s2 fun v H3 s3 hv => ?_
    have e3 := s3 _ _ e2
    refine ⟨acc, e3, ?_, fun b o h => ?_, acc ++ [v], upd_same, ?_, fun j w hj => ?_⟩
    · rw [l2]
      exact Nat.lt_of_lt_of_le (show i < 10000 by omega) (by decide)
    · rw [upd_ne (ne_of_none h hD)]
      exact s3 _ _ (s2 _ _ h)
    · rw [List.length_append, l2]
      rfl
    · refine hG j w H3 _ (NL.at_ e3) ?_
      by_cases h : j < acc.length
      · rw [List.getElem?_append_left h] at hj
        exact hG j w H2 H3 (NL.of s3) (g2 j w hj)
      · rw [List.getElem?_append_right (by omega)] at hj
        have : j = i := by
          have := (List.getElem?_eq_some_iff.mp hj).1
          rw [List.length_singleton] at this
          omega
        subst this
        rw [l2, Nat.sub_self] at hj
        have : v = w := Option.some.inj hj
        subst this
        exact hv
  · rintro H' ⟨s, acc, e, l, g⟩
    exact fin H' acc s e l g
theorem op_notIn_seqK {X : Cx} {K' : PySem.W.Frag} (hK : X.K = K') : OpR X (compareOp .NotIn) (rIn K' true) := by
  subst hK
  exact op_notIn_seq
end KA
/-! data within a tuple that is shown; what data is, as the heap grows -/
namespace KA
open PySem PySem.Spec PyProof.Rows L2
theorem sqt_same {K : PySem.W.Frag} {H H' : Hp} {a : Addr} {xs : List V} (e : Same H H') (h : SqT K H a xs) : SqT K H' a xs := by
  rcases h with (h | ⟨o, h⟩) | h
  · exact .inl (.inl (e _ _ h))
  · exact .inl (.inr ⟨o, e _ _ h⟩)
  · exact .inr h
mutual
theorem dp_same {K : PySem.W.Frag} {H H' : Hp} (s : Same H H') : ∀ (d : PyData) (v : V), Dp K H v d → Dp K H' v d
  | .none, _, h => by cases h; exact .non
  | .bool b, _, h => by cases h; exact .bl b
  | .int i, _, h => by cases h; exact .int i
  | .str x, _, h => by cases h; exact .str x
  | .list ds, _, h => by
    cases h with
    | lst hs ha => exact .lst (s.seq hs) (dpAll_same s ds _ ha)
  | .tuple ds, _, h => by
    cases h with
    | tup hs ha => exact .tup (sqt_same s hs) (dpAll_same s ds _ ha)
  | .dict _, _, h => by cases h
theorem dpAll_same {K : PySem.W.Frag} {H H' : Hp} (s : Same H H') : ∀ (ds : List PyData) (vs : List V), DpAll K H vs ds → DpAll K H' vs ds
  | [], _, h => by cases h; exact .nil
  | d :: ds, _, h => by
    cases h with
    | cons h1 h2 => exact .cons (dp_same s d _ h1) (dpAll_same s ds _ h2)
end
theorem depth_le {ds : List PyData} {d : PyData} (h : d ∈ ds) : d.depth ≤ PyData.depthAll ds := by
  induction ds with
  | nil => cases h
  | cons e ds ih =>
    simp only [PyData.depthAll]
    rcases List.mem_cons.mp h with rfl | h
    · exact Nat.le_max_left _ _
    · exact Nat.le_trans (ih h) (Nat.le_max_right _ _)
theorem reads_item {h0 : Heap} : ∀ {us : List Value} {ds : List PyData} {as : List Addr}, ReadsAll h0 us ds as → ∀ u ∈ us, ∃ d ∈ ds, ∃ bs, Reads h0 u d bs
  | _, _, _, .nil, u, hu => nomatch hu
  | _, _, _, .cons r rs, u, hu => by
    rcases List.mem_cons.mp hu with rfl | hu
    · exact ⟨_, List.mem_cons_self .., _, r⟩
    · obtain ⟨d, hd, bs, h⟩ := reads_item rs u hu
      exact ⟨d, List.mem_cons_of_mem _ hd, bs, h⟩
theorem vals_mem : ∀ {xs : List V} {us : List Value} {x : V}, Vals xs us → x ∈ xs → ∃ u, u ∈ us ∧ RelV x u
  | _, _, _, .nil, h => nomatch h
  | _, _, _, .cons h t, hx => by
    rcases List.mem_cons.mp hx with rfl | hx
    · exact ⟨_, List.mem_cons_self .., h⟩
    · obtain ⟨u, h1, h2⟩ := vals_mem t hx
      exact ⟨u, List.mem_cons_of_mem _ h1, h2⟩
section
variable {X : Cx} {n : Nat}
theorem shows_dpG {H : Hp} {t0 : Addr} {xs0 : List V} {x : V} {d : PyData} (ht0 : H t0 = some (.tup xs0)) (hx : x ∈ xs0) (hd : Dp X.K H x d) (hs : d.showable = true) (hn : d.hasDict = false) (hde : d.depth ≤ 8) : ShowsG X n t0 x d.shown H := by
  intro A g pins σ H1 s u b Q sb gd hcl s01 I ru hz fin
  obtain ⟨as, rd⟩ := Dp.reads I d x u (dp_same s01 d x hd) ru
  obtain ⟨bs, hb, all⟩ := ReprK.of_reads (prog := X.prog) (w := X.w) rd hs (fun z => by rw [hn] at z; cases z) (by omega)
  refine all b hz A g X.xe s Q gd (fun c hc => hcl c fun z => ?_) (by have := sb.room.un; omega) (fun _ _ z => z) fun h' tk kp => fin _ H1 (I.kept kp) fun _ _ z => z
  subst z
  obtain ⟨d', as', r', hle⟩ := hb c hc
  obtain ⟨_, its, rv, o, e, cl, m, hdat⟩ := I.hok _ _ (s01 _ _ ht0)
  obtain ⟨u2, hu2, ru2⟩ := vals_mem rv hx
  have key : ∀ ds bs', d' = .tuple ds → ReadsAll s.heap its ds bs' → False := fun ds bs' ed ra => by
    obtain ⟨e2, he2, cs, r2⟩ := reads_item ra u2 hu2
    have k1 := depth_le he2
    rw [ed] at hle
    simp only [PyData.depth] at hle
    cases hd with
    | non => simp only [PyData.depth] at hle; omega
    | bl b => simp only [PyData.depth] at hle; omega
    | int i => simp only [PyData.depth] at hle; omega
    | str x => simp only [PyData.depth] at hle; omega
    | lst h1 h2 =>
      cases (show u = Value.ref _ from ru)
      cases (show u2 = Value.ref _ from ru2)
      have := (reads_det (fun _ _ e _ => e) rd r2).1
      rw [this] at k1
      omega
    | tup h1 h2 =>
      cases (show u = Value.ref _ from ru)
      cases (show u2 = Value.ref _ from ru2)
      have := (reads_det (fun _ _ e _ => e) rd r2).1
      rw [this] at k1
      omega
  cases r' with
  | list h1 h2 h3 h4 =>
    rw [e] at h1
    cases h1
    exact absurd (cl.symm.trans h2) (by intro z; injection z with z; exact absurd z (by decide))
  | tuple h1 h2 h3 h4 =>
    rw [e] at h1
    cases h1
    rw [hdat] at h3
    cases h3
    exact key _ _ rfl (by simpa using h4)
  | dict h1 h2 h3 h4 h5 =>
    rw [e] at h1
    cases h1
    exact absurd (cl.symm.trans h2) (by intro z; injection z with z; exact absurd z (by decide))
end
end KA
/-! chains are what can be reached -/
namespace KMat
variable {α : Type} {P : α → α → Bool}
def Lk (P : α → α → Bool) : List α → Prop
  | x :: y :: t => P x y = true ∧ Lk P (y :: t)
  | _ => True
theorem lk_snoc : ∀ (c : List α) (a r : α), Lk P (c ++ [a]) → P a r = true → Lk P (c ++ [a] ++ [r])
  | [], a, r, _, h => ⟨h, trivial⟩
  | [x], a, r, k, h => ⟨k.1, h, trivial⟩
  | x :: y :: t, a, r, k, h => ⟨k.1, lk_snoc (y :: t) a r k.2 h⟩
theorem chA_fl : ∀ (t c : List α) (a : α), (chA P c a t).flatten = c ++ t
  | [], c, a => by
    show [c].flatten = c ++ []
    rw [List.flatten_cons, List.flatten_nil]
  | r :: t, c, a => by
    by_cases p : P a r = true
    · rw [show chA P c a (r :: t) = chA P (c ++ [r]) r t from if_pos p, chA_fl t (c ++ [r]) r, List.append_assoc]
      rfl
    · rw [show chA P c a (r :: t) = c :: chA P [r] r t from if_neg p, List.flatten_cons, chA_fl t [r] r]
      rfl
theorem ch_fl (s : List α) : (ch P s).flatten = s := by
  cases s with
  | nil => rfl
  | cons x t =>
    show (chA P [x] x t).flatten = _
    rw [chA_fl]
    rfl
theorem chA_lk : ∀ (t c : List α) (a : α), Lk P (c ++ [a]) → ∀ g ∈ chA P (c ++ [a]) a t, Lk P g
  | [], c, a, h, g, hg => by
    rw [show chA P (c ++ [a]) a [] = [c ++ [a]] from rfl, List.mem_singleton] at hg
    rw [hg]
    exact h
  | r :: t, c, a, h, g, hg => by
    by_cases p : P a r = true
    · rw [show chA P (c ++ [a]) a (r :: t) = chA P (c ++ [a] ++ [r]) r t from if_pos p] at hg
      exact chA_lk t (c ++ [a]) r (lk_snoc c a r h p) g hg
    · rw [show chA P (c ++ [a]) a (r :: t) = (c ++ [a]) :: chA P ([] ++ [r]) r t from if_neg p] at hg
      rcases List.mem_cons.mp hg with rfl | hg
      · exact h
      · exact chA_lk t [] r trivial g hg
theorem ch_lk (s : List α) : ∀ g ∈ ch P s, Lk P g := by
  cases s with
  | nil => exact fun g h => nomatch h
  | cons x t => exact fun g h => chA_lk t [] x trivial g h
/-- no bead of the one pairs with one of the other -/
def Unr (P : α → α → Bool) (g h : List α) : Prop := ∀ x ∈ g, ∀ y ∈ h, P x y = false
theorem Unr.symm (sym : ∀ a b, P a b = P b a) {g h : List α} (u : Unr P g h) : Unr P h g := fun x hx y hy => by
  rw [sym]
  exact u y hy x hx
theorem chA_un {le : α → α → Prop} (ax1 : ∀ x y z, le x y → le y z → P x z = true → P x y = true) (ax3 : ∀ x y z, le x y → le y z → P x z = true → P y z = true) :
    ∀ (t c : List α) (a : α), (c ++ [a] ++ t).Pairwise le → (chA P (c ++ [a]) a t).Pairwise (Unr P)
  | [], c, a, _ => List.pairwise_singleton _ _
  | r :: t, c, a, so => by
    by_cases p : P a r = true
    · rw [show chA P (c ++ [a]) a (r :: t) = chA P (c ++ [a] ++ [r]) r t from if_pos p]
      refine chA_un ax1 ax3 t (c ++ [a]) r ?_
      rw [List.append_assoc (c ++ [a]) [r] t]
      exact so
    · rw [show chA P (c ++ [a]) a (r :: t) = (c ++ [a]) :: chA P ([] ++ [r]) r t from if_neg p]
      rw [List.pairwise_append] at so
      obtain ⟨s1, s2, s3⟩ := so
      rw [List.pairwise_cons]
      refine ⟨fun h hh x hx y hy => ?_, chA_un ax1 ax3 t [] r s2⟩
      have hy' : y ∈ r :: t := by
        have : y ∈ (chA P ([] ++ [r]) r t).flatten := List.mem_flatten.mpr ⟨h, hh, hy⟩
        rw [chA_fl] at this
        exact this
      cases e : P x y with
      | false => rfl
      | true =>
        have ma : a ∈ c ++ [a] := List.mem_append_right _ (List.mem_singleton.mpr rfl)
        have pa : P a y = true := by
          rw [List.pairwise_append] at s1
          rcases List.mem_append.mp hx with hx | hx
          · exact ax3 x a y (s1.2.2 x hx a (List.mem_singleton.mpr rfl)) (s3 a ma y hy') e
          · rw [List.mem_singleton.mp hx] at e
            exact e
        rw [List.pairwise_cons] at s2
        rcases List.mem_cons.mp hy' with rfl | hy'
        · exact absurd pa p
        · exact absurd (ax1 a r y (s3 a ma r (List.mem_cons_self ..)) (s2.1 y hy') pa) p
theorem ch_un {le : α → α → Prop} (ax1 : ∀ x y z, le x y → le y z → P x z = true → P x y = true) (ax3 : ∀ x y z, le x y → le y z → P x z = true → P y z = true) {s : List α} (so : s.Pairwise le) : (ch P s).Pairwise (Unr P) := by
  cases s with
  | nil => exact .nil
  | cons x t => exact chA_un ax1 ax3 t [] x so
theorem lk_iff {Q : α → Prop} : ∀ (a : α) (t : List α), Lk P (a :: t) → (∀ x y, x ∈ a :: t → y ∈ a :: t → P x y = true → (Q x ↔ Q y)) → ∀ z ∈ a :: t, (Q z ↔ Q a)
  | a, [], _, _, z, hz => by rw [List.mem_singleton.mp hz]
  | a, b :: t, h, k, z, hz => by
    rcases List.mem_cons.mp hz with rfl | hz
    · exact Iff.rfl
    · exact (lk_iff b t h.2 (fun x y hx hy => k x y (List.mem_cons_of_mem _ hx) (List.mem_cons_of_mem _ hy)) z hz).trans (k a b (List.mem_cons_self ..) (List.mem_cons_of_mem _ (List.mem_cons_self ..)) h.1).symm
theorem lk_all {Q : α → Prop} {g : List α} (h : Lk P g) (k : ∀ x y, x ∈ g → y ∈ g → P x y = true → (Q x ↔ Q y)) {x y : α} (hx : x ∈ g) (hy : y ∈ g) (q : Q x) : Q y := by
  cases g with
  | nil => cases hx
  | cons a t => exact (lk_iff a t h k y hy).mpr ((lk_iff a t h k x hx).mp q)
/-- a spread that has come to its end -/
theorem spread_end (sym : ∀ a b, P a b = P b a) {g T L R : List α} (hl : Lk P g) (nd : (T ++ L).Nodup) (pm : (T ++ L).Perm (g ++ R)) (hT : ∀ t ∈ T, t ∈ g) (ne : T ≠ []) (cl : ∀ t ∈ T, ∀ z ∈ L, P t z = false) : T.Perm g ∧ L.Perm R := by
  obtain ⟨t0, ht0⟩ := List.exists_mem_of_ne_nil T ne
  have step : ∀ x y, x ∈ g → y ∈ g → P x y = true → x ∈ T → y ∈ T := fun x y _ hy hP hx => by
    have := pm.mem_iff.mpr (List.mem_append_left R hy)
    rcases List.mem_append.mp this with h | h
    · exact h
    · rw [cl x hx y h] at hP
      cases hP
  have all : ∀ x ∈ g, x ∈ T := fun x hx => lk_all (Q := (· ∈ T)) hl (fun x y hx hy hP => ⟨step x y hx hy hP, step y x hy hx (by rw [sym]; exact hP)⟩) (hT t0 ht0) hx ht0
  have ndg : g.Nodup := (List.nodup_append.mp (pm.nodup nd)).1
  have p1 : T.Perm g := (List.perm_ext_iff_of_nodup (List.nodup_append.mp nd).1 ndg).mpr fun x => ⟨hT x, all x⟩
  exact ⟨p1, (List.perm_append_left_iff g).mp ((p1.symm.append_right L).trans pm)⟩
/-- what is near stays within the chain -/
theorem spread_in {g T L R : List α} (pm : (T ++ L).Perm (g ++ R)) (hT : ∀ t ∈ T, t ∈ g) (un : ∀ x ∈ g, ∀ y ∈ R, P x y = false) {t z : α} (ht : t ∈ T) (hz : z ∈ L) (hP : P t z = true) : z ∈ g := by
  rcases List.mem_append.mp (pm.mem_iff.mp (List.mem_append_right T hz)) with h | h
  · exact h
  · rw [un t (hT t ht) z h] at hP
    cases hP
end KMat
namespace KB
open PySem PySem.Spec PyProof.Rows L2 KA
def topS (i : Nat) : Stmt := PySem.Challenge.pw_pearlrise_k43_whole_shown_or_not.main.body.getD i (.Pass ⟨0, 0, 0, 0⟩)
abbrev s__wall : Stmt := topS 0
theorem sc__wall : FnScope ["k"] ["k"] (defScope s__wall) := ⟨rfl, rfl, rfl, by decide +kernel, rfl, by decide +kernel, by decide +kernel⟩
abbrev s_PearlError_init : Stmt := inClass (topS 2) 0
theorem sc_PearlError_init : FnScope ["self", "why"] ["self", "why"] (defScope s_PearlError_init) := ⟨rfl, rfl, rfl, by decide +kernel, rfl, by decide +kernel, by decide +kernel⟩
abbrev s_is_int : Stmt := topS 7
theorem sc_is_int : FnScope ["thing"] ["thing"] (defScope s_is_int) := ⟨rfl, rfl, rfl, by decide +kernel, rfl, by decide +kernel, by decide +kernel⟩
abbrev s_is_whole : Stmt := topS 8
theorem sc_is_whole : FnScope ["thing", "least", "most"] ["thing", "least", "most"] (defScope s_is_whole) := ⟨rfl, rfl, rfl, by decide +kernel, rfl, by decide +kernel, by decide +kernel⟩
abbrev s_is_name : Stmt := topS 9
theorem sc_is_name : FnScope ["thing", "sign"] ["thing"] (defScope s_is_name) := ⟨rfl, rfl, rfl, by decide +kernel, rfl, by decide +kernel, by decide +kernel⟩
abbrev s_is_number : Stmt := topS 10
theorem sc_is_number : FnScope ["thing"] ["thing"] (defScope s_is_number) := ⟨rfl, rfl, rfl, by decide +kernel, rfl, by decide +kernel, by decide +kernel⟩
abbrev s_is_measure : Stmt := topS 13
theorem sc_is_measure : FnScope ["thing"] ["thing"] (defScope s_is_measure) := ⟨rfl, rfl, rfl, by decide +kernel, rfl, by decide +kernel, by decide +kernel⟩
abbrev s_Bead_init : Stmt := inClass (topS 14) 0
theorem sc_Bead_init : FnScope ["self", "number", "across", "weight", "shade", "form", "drilled"] ["self", "number", "across", "weight", "shade", "form", "drilled"] (defScope s_Bead_init) := ⟨rfl, rfl, rfl, by decide +kernel, rfl, by decide +kernel, by decide +kernel⟩
abbrev s_Bead_row : Stmt := inClass (topS 14) 1
theorem sc_Bead_row : FnScope ["self"] ["self"] (defScope s_Bead_row) := ⟨rfl, rfl, rfl, by decide +kernel, rfl, by decide +kernel, by decide +kernel⟩
abbrev s_Bead_key : Stmt := inClass (topS 14) 2
theorem sc_Bead_key : FnScope ["self"] ["self"] (defScope s_Bead_key) := ⟨rfl, rfl, rfl, by decide +kernel, rfl, by decide +kernel, by decide +kernel⟩
abbrev s_Bead_eq : Stmt := inClass (topS 14) 3
theorem sc_Bead_eq : FnScope ["self", "other"] ["self", "other"] (defScope s_Bead_eq) := ⟨rfl, rfl, rfl, by decide +kernel, rfl, by decide +kernel, by decide +kernel⟩
abbrev s_Bead_repr : Stmt := inClass (topS 14) 4
theorem sc_Bead_repr : FnScope ["self", "parts"] ["self"] (defScope s_Bead_repr) := ⟨rfl, rfl, rfl, by decide +kernel, rfl, by decide +kernel, by decide +kernel⟩
abbrev s_Bead_str : Stmt := inClass (topS 14) 5
theorem sc_Bead_str : FnScope ["self"] ["self"] (defScope s_Bead_str) := ⟨rfl, rfl, rfl, by decide +kernel, rfl, by decide +kernel, by decide +kernel⟩
abbrev s_are_once : Stmt := topS 15
theorem sc_are_once : FnScope ["numbers", "by_number", "number"] ["numbers", "by_number"] (defScope s_are_once) := ⟨rfl, rfl, rfl, by decide +kernel, rfl, by decide +kernel, by decide +kernel⟩
abbrev s_same_look : Stmt := topS 17
theorem sc_same_look : FnScope ["bead", "other"] ["bead", "other"] (defScope s_same_look) := ⟨rfl, rfl, rfl, by decide +kernel, rfl, by decide +kernel, by decide +kernel⟩
abbrev s_may_pair : Stmt := topS 19
theorem sc_may_pair : FnScope ["bead", "other", "match"] ["bead", "other", "match"] (defScope s_may_pair) := ⟨rfl, rfl, rfl, by decide +kernel, rfl, by decide +kernel, by decide +kernel⟩
abbrev s_chain_key : Stmt := topS 20
theorem sc_chain_key : FnScope ["bead"] ["bead"] (defScope s_chain_key) := ⟨rfl, rfl, rfl, by decide +kernel, rfl, by decide +kernel, by decide +kernel⟩
abbrev s_clusters : Stmt := topS 21
theorem sc_clusters : FnScope ["beads", "match", "told", "ahead", "bead"] ["beads", "match"] (defScope s_clusters) := ⟨rfl, rfl, rfl, by decide +kernel, rfl, by decide +kernel, by decide +kernel⟩
abbrev s_most_pairs : Stmt := topS 22
theorem sc_most_pairs : FnScope ["beads", "match", "told", "cluster", "at"] ["beads", "match"] (defScope s_most_pairs) := ⟨rfl, rfl, rfl, by decide +kernel, rfl, by decide +kernel, by decide +kernel⟩
abbrev s_are_pairs : Stmt := topS 23
theorem sc_are_pairs : FnScope ["pairs", "by_number", "match", "one", "other", "pair", "number"] ["pairs", "by_number", "match"] (defScope s_are_pairs) := ⟨rfl, rfl, rfl, by decide +kernel, rfl, by decide +kernel, by decide +kernel⟩
abbrev s_are_groups : Stmt := topS 24
theorem sc_are_groups : FnScope ["groups", "by_number", "numbers", "group", "number"] ["groups", "by_number"] (defScope s_are_groups) := ⟨rfl, rfl, rfl, by decide +kernel, rfl, by decide +kernel, by decide +kernel⟩
abbrev s_pairs_across : Stmt := topS 25
theorem sc_pairs_across : FnScope ["groups", "by_number", "match", "at", "group", "others", "number", "other"] ["groups", "by_number", "match"] (defScope s_pairs_across) := ⟨rfl, rfl, rfl, by decide +kernel, rfl, by decide +kernel, by decide +kernel⟩
abbrev s_shows : Stmt := topS 26
theorem sc_shows : FnScope ["beads", "pairs", "groups", "match", "by_number", "odd", "bead", "group"] ["beads", "pairs", "groups", "match"] (defScope s_shows) := ⟨rfl, rfl, rfl, by decide +kernel, rfl, by decide +kernel, by decide +kernel⟩
abbrev s_cell_at : Stmt := topS 28
theorem sc_cell_at : FnScope ["_law_script", "_law_k"] ["_law_script", "_law_k"] (defScope s_cell_at) := ⟨rfl, rfl, rfl, by decide +kernel, rfl, by decide +kernel, by decide +kernel⟩
abbrev s_begin : Stmt := topS 29
theorem sc_begin : FnScope ["_law_cell"] ["_law_cell"] (defScope s_begin) := ⟨rfl, rfl, rfl, by decide +kernel, rfl, by decide +kernel, by decide +kernel⟩
abbrev s_draw : Stmt := topS 30
theorem sc_draw : FnScope ["_law_source", "_law_many", "_law_digit", "_law_number"] ["_law_source", "_law_many"] (defScope s_draw) := ⟨rfl, rfl, rfl, by decide +kernel, rfl, by decide +kernel, by decide +kernel⟩
abbrev s_one : Stmt := topS 31
theorem sc_one : FnScope ["_law_source", "_law_some"] ["_law_source", "_law_some"] (defScope s_one) := ⟨rfl, rfl, rfl, by decide +kernel, rfl, by decide +kernel, by decide +kernel⟩
abbrev s_names : Stmt := topS 32
theorem sc_names : FnScope ["_law_source", "_law_many", "_law_letters", "_law_first", "_law_found", "_law_k", "_law_name", "_law_j"] ["_law_source", "_law_many"] (defScope s_names) := ⟨rfl, rfl, rfl, by decide +kernel, rfl, by decide +kernel, by decide +kernel⟩
abbrev s_numbers : Stmt := topS 33
theorem sc_numbers : FnScope ["_law_source", "_law_many", "_law_number", "_law_far", "_law_left", "_law_k"] ["_law_source", "_law_many"] (defScope s_numbers) := ⟨rfl, rfl, rfl, by decide +kernel, rfl, by decide +kernel, by decide +kernel⟩
abbrev s_beads : Stmt := topS 34
theorem sc_beads : FnScope ["_law_source", "_law_many", "_law_shades", "_law_forms", "_law_base", "_law_wide", "_law_found", "_law_number", "_law_across", "_law_weight", "_law_look"] ["_law_source", "_law_many"] (defScope s_beads) := ⟨rfl, rfl, rfl, by decide +kernel, rfl, by decide +kernel, by decide +kernel⟩
abbrev s_do_pair : Stmt := topS 35
theorem sc_do_pair : FnScope ["_law_one_here", "_law_other", "_law_wide_by", "_law_alike"] ["_law_one_here", "_law_other", "_law_wide_by"] (defScope s_do_pair) := ⟨rfl, rfl, rfl, by decide +kernel, rfl, by decide +kernel, by decide +kernel⟩
abbrev s_match : Stmt := topS 36
theorem sc_match : FnScope ["_law_source"] ["_law_source"] (defScope s_match) := ⟨rfl, rfl, rfl, by decide +kernel, rfl, by decide +kernel, by decide +kernel⟩
abbrev s_Lis_number : Stmt := topS 37
theorem sc_Lis_number : FnScope ["_law_thing", "_law_numbers_here"] ["_law_thing", "_law_numbers_here"] (defScope s_Lis_number) := ⟨rfl, rfl, rfl, by decide +kernel, rfl, by decide +kernel, by decide +kernel⟩
abbrev s_due : Stmt := topS 38
theorem sc_due : FnScope ["_law_beads_here", "_law_pairs", "_law_heaps", "_law_wide_by", "_law_known", "_law_used", "_law_pair", "_law_group_of", "_law_many", "_law_at", "_law_group", "_law_one_here", "_law_near", "_law_bead", "_law_number"] ["_law_beads_here", "_law_pairs", "_law_heaps", "_law_wide_by"] (defScope s_due) := ⟨rfl, rfl, rfl, by decide +kernel, rfl, by decide +kernel, by decide +kernel⟩
abbrev s_odd : Stmt := topS 39
theorem sc_odd : FnScope ["_law_source", "_law_number"] ["_law_source", "_law_number"] (defScope s_odd) := ⟨rfl, rfl, rfl, by decide +kernel, rfl, by decide +kernel, by decide +kernel⟩
abbrev s_pairs_turned : Stmt := topS 40
theorem sc_pairs_turned : FnScope ["_law_source", "_law_pairs", "_law_numbers_here", "_law_at", "_law_way", "_law_one_here", "_law_pair", "_law_some", "_law_k"] ["_law_source", "_law_pairs", "_law_numbers_here"] (defScope s_pairs_turned) := ⟨rfl, rfl, rfl, by decide +kernel, rfl, by decide +kernel, by decide +kernel⟩
abbrev s_groups_turned : Stmt := topS 41
theorem sc_groups_turned : FnScope ["_law_source", "_law_heaps", "_law_numbers_here", "_law_at", "_law_group", "_law_way", "_law_cut"] ["_law_source", "_law_heaps", "_law_numbers_here"] (defScope s_groups_turned) := ⟨rfl, rfl, rfl, by decide +kernel, rfl, by decide +kernel, by decide +kernel⟩
abbrev s_begun : Stmt := topS 42
theorem sc_begun : FnScope ["_law_source", "_law_beads_here", "_law_wide_by", "_law_pairs", "_law_heaps", "_law_way", "_law_bead"] ["_law_source", "_law_beads_here", "_law_wide_by"] (defScope s_begun) := ⟨rfl, rfl, rfl, by decide +kernel, rfl, by decide +kernel, by decide +kernel⟩
abbrev s_law : Stmt := topS 43
theorem sc_law : FnScope ["_law_script", "_law_cell", "_law_source", "_law_size", "_law_beads_here", "_law_wide_by", "_law_numbers_here", "_law_pairs", "_law_heaps", "_law_kept", "_law_due_here", "_law_found", "_law_bead"] ["_law_script"] (defScope s_law) := ⟨rfl, rfl, rfl, by decide +kernel, rfl, by decide +kernel, by decide +kernel⟩
structure Tx (K : PySem.W.Frag) (mg : Str → Option Value) : Type where
  C_Bead : Addr
  cl_Bead : Cls K C_Bead
  g_Bead : mg "Bead" = some (.ref C_Bead)
  n_Bead_number : NoAttr K C_Bead "number"
  n_Bead_across : NoAttr K C_Bead "across"
  n_Bead_weight : NoAttr K C_Bead "weight"
  n_Bead_shade : NoAttr K C_Bead "shade"
  n_Bead_form : NoAttr K C_Bead "form"
  n_Bead_drilled : NoAttr K C_Bead "drilled"
  A_is_int : Addr
  fd_is_int : FuncData
  F_is_int : Fun K "is_int" "is_int" s_is_int A_is_int fd_is_int
  g_is_int : mg "is_int" = some (.ref A_is_int)
  b_is_int : Binds K fd_is_int ["thing"] []
  A_is_whole : Addr
  fd_is_whole : FuncData
  F_is_whole : Fun K "is_whole" "is_whole" s_is_whole A_is_whole fd_is_whole
  g_is_whole : mg "is_whole" = some (.ref A_is_whole)
  b_is_whole : Binds K fd_is_whole ["thing", "least", "most"] []
  A_is_name : Addr
  fd_is_name : FuncData
  F_is_name : Fun K "is_name" "is_name" s_is_name A_is_name fd_is_name
  g_is_name : mg "is_name" = some (.ref A_is_name)
  b_is_name : Binds K fd_is_name ["thing"] []
  A_is_number : Addr
  fd_is_number : FuncData
  F_is_number : Fun K "is_number" "is_number" s_is_number A_is_number fd_is_number
  g_is_number : mg "is_number" = some (.ref A_is_number)
  b_is_number : Binds K fd_is_number ["thing"] []
  A_is_measure : Addr
  fd_is_measure : FuncData
  F_is_measure : Fun K "is_measure" "is_measure" s_is_measure A_is_measure fd_is_measure
  g_is_measure : mg "is_measure" = some (.ref A_is_measure)
  b_is_measure : Binds K fd_is_measure ["thing"] []
  A_Bead_init : Addr
  fd_Bead_init : FuncData
  F_Bead_init : FunD K "__init__" "Bead.__init__" (defArgs s_Bead_init) (defBody s_Bead_init) (defScope s_Bead_init) [.str "round", .bl false] [] A_Bead_init fd_Bead_init
  mk_Bead : Mk K C_Bead A_Bead_init
  b_Bead_init : Binds K fd_Bead_init ["self", "number", "across", "weight", "shade", "form", "drilled"] []
  A_are_once : Addr
  fd_are_once : FuncData
  F_are_once : Fun K "are_once" "are_once" s_are_once A_are_once fd_are_once
  g_are_once : mg "are_once" = some (.ref A_are_once)
  b_are_once : Binds K fd_are_once ["numbers", "by_number"] []
  A_same_look : Addr
  fd_same_look : FuncData
  F_same_look : Fun K "same_look" "same_look" s_same_look A_same_look fd_same_look
  g_same_look : mg "same_look" = some (.ref A_same_look)
  b_same_look : Binds K fd_same_look ["bead", "other"] []
  A_may_pair : Addr
  fd_may_pair : FuncData
  F_may_pair : Fun K "may_pair" "may_pair" s_may_pair A_may_pair fd_may_pair
  g_may_pair : mg "may_pair" = some (.ref A_may_pair)
  b_may_pair : Binds K fd_may_pair ["bead", "other", "match"] []
  A_chain_key : Addr
  fd_chain_key : FuncData
  F_chain_key : Fun K "chain_key" "chain_key" s_chain_key A_chain_key fd_chain_key
  g_chain_key : mg "chain_key" = some (.ref A_chain_key)
  b_chain_key : Binds K fd_chain_key ["bead"] []
  A_clusters : Addr
  fd_clusters : FuncData
  F_clusters : FunD K "clusters" "clusters" (defArgs s_clusters) (defBody s_clusters) (defScope s_clusters) [.int 0] [] A_clusters fd_clusters
  g_clusters : mg "clusters" = some (.ref A_clusters)
  b_clusters : Binds K fd_clusters ["beads", "match"] []
  A_most_pairs : Addr
  fd_most_pairs : FuncData
  F_most_pairs : FunD K "most_pairs" "most_pairs" (defArgs s_most_pairs) (defBody s_most_pairs) (defScope s_most_pairs) [.int 0] [] A_most_pairs fd_most_pairs
  g_most_pairs : mg "most_pairs" = some (.ref A_most_pairs)
  b_most_pairs : Binds K fd_most_pairs ["beads", "match"] []
  A_are_pairs : Addr
  fd_are_pairs : FuncData
  F_are_pairs : Fun K "are_pairs" "are_pairs" s_are_pairs A_are_pairs fd_are_pairs
  g_are_pairs : mg "are_pairs" = some (.ref A_are_pairs)
  b_are_pairs : Binds K fd_are_pairs ["pairs", "by_number", "match"] []
  A_are_groups : Addr
  fd_are_groups : FuncData
  F_are_groups : Fun K "are_groups" "are_groups" s_are_groups A_are_groups fd_are_groups
  g_are_groups : mg "are_groups" = some (.ref A_are_groups)
  b_are_groups : Binds K fd_are_groups ["groups", "by_number"] []
  A_pairs_across : Addr
  fd_pairs_across : FuncData
  F_pairs_across : Fun K "pairs_across" "pairs_across" s_pairs_across A_pairs_across fd_pairs_across
  g_pairs_across : mg "pairs_across" = some (.ref A_pairs_across)
  b_pairs_across : Binds K fd_pairs_across ["groups", "by_number", "match"] []
  A_shows : Addr
  fd_shows : FuncData
  F_shows : FunD K "shows" "shows" (defArgs s_shows) (defBody s_shows) (defScope s_shows) [.int 0] [] A_shows fd_shows
  g_shows : mg "shows" = some (.ref A_shows)
  b_shows : Binds K fd_shows ["beads", "pairs", "groups", "match"] []
  A_cell_at : Addr
  fd_cell_at : FuncData
  F_cell_at : Fun K "_law_cell_at" "_law_cell_at" s_cell_at A_cell_at fd_cell_at
  g_cell_at : mg "_law_cell_at" = some (.ref A_cell_at)
  b_cell_at : Binds K fd_cell_at ["_law_script", "_law_k"] []
  A_begin : Addr
  fd_begin : FuncData
  F_begin : Fun K "_law_begin" "_law_begin" s_begin A_begin fd_begin
  g_begin : mg "_law_begin" = some (.ref A_begin)
  b_begin : Binds K fd_begin ["_law_cell"] []
  A_draw : Addr
  fd_draw : FuncData
  F_draw : Fun K "_law_draw" "_law_draw" s_draw A_draw fd_draw
  g_draw : mg "_law_draw" = some (.ref A_draw)
  b_draw : Binds K fd_draw ["_law_source", "_law_many"] []
  A_one : Addr
  fd_one : FuncData
  F_one : Fun K "_law_one" "_law_one" s_one A_one fd_one
  g_one : mg "_law_one" = some (.ref A_one)
  b_one : Binds K fd_one ["_law_source", "_law_some"] []
  A_names : Addr
  fd_names : FuncData
  F_names : Fun K "_law_names" "_law_names" s_names A_names fd_names
  g_names : mg "_law_names" = some (.ref A_names)
  b_names : Binds K fd_names ["_law_source", "_law_many"] []
  A_numbers : Addr
  fd_numbers : FuncData
  F_numbers : Fun K "_law_numbers" "_law_numbers" s_numbers A_numbers fd_numbers
  g_numbers : mg "_law_numbers" = some (.ref A_numbers)
  b_numbers : Binds K fd_numbers ["_law_source", "_law_many"] []
  A_beads : Addr
  fd_beads : FuncData
  F_beads : Fun K "_law_beads" "_law_beads" s_beads A_beads fd_beads
  g_beads : mg "_law_beads" = some (.ref A_beads)
  b_beads : Binds K fd_beads ["_law_source", "_law_many"] []
  A_do_pair : Addr
  fd_do_pair : FuncData
  F_do_pair : Fun K "_law_do_pair" "_law_do_pair" s_do_pair A_do_pair fd_do_pair
  g_do_pair : mg "_law_do_pair" = some (.ref A_do_pair)
  b_do_pair : Binds K fd_do_pair ["_law_one_here", "_law_other", "_law_wide_by"] []
  A_match : Addr
  fd_match : FuncData
  F_match : Fun K "_law_match" "_law_match" s_match A_match fd_match
  g_match : mg "_law_match" = some (.ref A_match)
  b_match : Binds K fd_match ["_law_source"] []
  A_Lis_number : Addr
  fd_Lis_number : FuncData
  F_Lis_number : Fun K "_law_is_number" "_law_is_number" s_Lis_number A_Lis_number fd_Lis_number
  g_Lis_number : mg "_law_is_number" = some (.ref A_Lis_number)
  b_Lis_number : Binds K fd_Lis_number ["_law_thing", "_law_numbers_here"] []
  A_due : Addr
  fd_due : FuncData
  F_due : Fun K "_law_due" "_law_due" s_due A_due fd_due
  g_due : mg "_law_due" = some (.ref A_due)
  b_due : Binds K fd_due ["_law_beads_here", "_law_pairs", "_law_heaps", "_law_wide_by"] []
  A_odd : Addr
  fd_odd : FuncData
  F_odd : Fun K "_law_odd" "_law_odd" s_odd A_odd fd_odd
  g_odd : mg "_law_odd" = some (.ref A_odd)
  b_odd : Binds K fd_odd ["_law_source", "_law_number"] []
  A_pairs_turned : Addr
  fd_pairs_turned : FuncData
  F_pairs_turned : Fun K "_law_pairs_turned" "_law_pairs_turned" s_pairs_turned A_pairs_turned fd_pairs_turned
  g_pairs_turned : mg "_law_pairs_turned" = some (.ref A_pairs_turned)
  b_pairs_turned : Binds K fd_pairs_turned ["_law_source", "_law_pairs", "_law_numbers_here"] []
  A_groups_turned : Addr
  fd_groups_turned : FuncData
  F_groups_turned : Fun K "_law_groups_turned" "_law_groups_turned" s_groups_turned A_groups_turned fd_groups_turned
  g_groups_turned : mg "_law_groups_turned" = some (.ref A_groups_turned)
  b_groups_turned : Binds K fd_groups_turned ["_law_source", "_law_heaps", "_law_numbers_here"] []
  A_begun : Addr
  fd_begun : FuncData
  F_begun : Fun K "_law_begun" "_law_begun" s_begun A_begun fd_begun
  g_begun : mg "_law_begun" = some (.ref A_begun)
  b_begun : Binds K fd_begun ["_law_source", "_law_beads_here", "_law_wide_by"] []
  its_kb_sh : List Value
  kb_sh : KBn K fd_shows ["beads", "pairs", "groups", "match"] 3 ["match"] (fun us ws => kw [(0, 0), (0, 1), (0, 2), (2, 0)] us its_kb_sh ws) (fun vs zs => kw [(0, 0), (0, 1), (0, 2), (2, 0)] vs [.int 0] zs)
  ic_Bead : ICls K C_Bead
  bb_Bead : PySem.W.findIn K (.ref C_Bead) "__bool__" = some none
  bl_Bead : PySem.W.findIn K (.ref C_Bead) "__len__" = some none
  t_LONGEST_NAME : Tok
  g_LONGEST_NAME : mg "LONGEST_NAME" = some (.int 8 t_LONGEST_NAME)
  t_GREATEST_NUMBER : Tok
  g_GREATEST_NUMBER : mg "GREATEST_NUMBER" = some (.int 1000000000 t_GREATEST_NUMBER)
  t_GREATEST_MEASURE : Tok
  g_GREATEST_MEASURE : mg "GREATEST_MEASURE" = some (.int 1000000 t_GREATEST_MEASURE)
  z_bool : mg "bool" = none
  z_isinstance : mg "isinstance" = none
  z_int : mg "int" = none
  z_len : mg "len" = none
  z_str : mg "str" = none
  z_all : mg "all" = none
  z_set : mg "set" = none
  z_abs : mg "abs" = none
  z_sorted : mg "sorted" = none
  z_min : mg "min" = none
  z_range : mg "range" = none
  z_max : mg "max" = none
  z_tuple : mg "tuple" = none
  z_list : mg "list" = none
  z_enumerate : mg "enumerate" = none
  z_any : mg "any" = none
  z_dict : mg "dict" = none
  z_repr : mg "repr" = none
section
variable {P : Program} {w : World} {K : PySem.W.Frag} {mg : Str → Option Value} {base : Heap}
def whl (v : V) (lo hi : Int) : Bool := match v with
  | .int i => decide (lo ≤ i) && decide (i ≤ hi)
  | _ => false
def nm (v : V) : Bool := match v with
  | .str z => decide (1 ≤ z.length) && decide (z.length ≤ 8) && z.cps.toList.all lower
  | _ => false
def spIsInt (K : PySem.W.Frag) : Sp := fun vs H Q _ => ∃ v, vs = [v] ∧ Th K H v ∧ Q (.bl (isI v)) H
def spIsWhole (K : PySem.W.Frag) : Sp := fun vs H Q _ => ∃ v lo hi, vs = [v, .int lo, .int hi] ∧ Th K H v ∧ Q (.bl (whl v lo hi)) H
def spIsNumber (K : PySem.W.Frag) : Sp := fun vs H Q _ => ∃ v, vs = [v] ∧ Th K H v ∧ Q (.bl (whl v 1 1000000000)) H
def spIsName (K : PySem.W.Frag) : Sp := fun vs H Q _ => ∃ v, vs = [v] ∧ Th K H v ∧ (∀ z, v = .str z → z.length ≤ 100000) ∧ ∀ H', Same H H' → Q (.bl (nm v)) H'
theorem ok_is_int (T : Tx K mg) : FnOk P w K mg base CX0 1 T.A_is_int T.fd_is_int ["thing"] (spIsInt K) := by
  refine T.F_is_int.ok sc_is_int (fun vs H Q E h => ?_) (fun cdv A outer s H vs Q E hr h => ?_)
  · obtain ⟨v, rfl, th, q⟩ := h
    rfl
  obtain ⟨v, rfl, th, q⟩ := h
  refine ⟨_, (pss_one (ps_ret (pe_and (pe_callB call_isi (by rfl) T.z_isinstance (by decide +kernel) (pa_cons (pv 0) (pa_cons (pe_bltn (v := .ty "int") (by rfl) T.z_int (by decide +kernel) rfl) pa_nil))) (pe_one (pe_not (pe_callB call_isi (by rfl) T.z_isinstance (by decide +kernel) (pa_cons (pv 0) (pa_cons (pe_bltn (v := .ty "bool") (by rfl) T.z_bool (by decide +kernel) rfl) pa_nil)))))))), ?_⟩
  obtain ⟨t1, ty1, k1⟩ := isi_int th
  obtain ⟨t2, ty2, k2⟩ := isi_bool th
  refine ⟨_, rfl, v, _, t1, _, _, rfl, .ty _, ty1, k1, _, rfl, ?_⟩
  refine ite2 (fun e => ?_) (fun e => ?_)
  · refine ⟨_, rfl, v, _, t2, _, _, rfl, .ty _, ty2, k2, _, rfl, ?_⟩
    have : (!isB v) = isI v := by cases v <;> simp_all [isI, isB]
    rw [this]
    exact q
  · have : isI v = false := by cases v <;> simp_all [isI, isB]
    rw [this] at q
    exact q
theorem ok_is_whole (T : Tx K mg) : FnOk P w K mg base CX0 2 T.A_is_whole T.fd_is_whole ["thing", "least", "most"] (spIsWhole K) := by
  refine T.F_is_whole.ok sc_is_whole (fun vs H Q E h => ?_) (fun cdv A outer s H vs Q E hr h => ?_)
  · obtain ⟨v, lo, hi, rfl, th, q⟩ := h
    rfl
  obtain ⟨v, lo, hi, rfl, th, q⟩ := h
  refine ⟨_, (pss_one (ps_ret (pe_and (pe_call (ok_is_int T) (hr.mono (by decide)) (by rfl) T.g_is_int T.F_is_int.kp T.b_is_int .nil pass0 (pa_cons (pv 0) pa_nil)) (pe_one (pe_chain op_le op_le (pv 1) (pv 0) (pv 2)))))), ?_⟩
  refine ⟨_, rfl, v, rfl, th, _, rfl, ?_⟩
  cases v with
  | int i =>
    refine iteT ?_
    refine ⟨_, rfl, _, rfl, _, _, rfl, rfl, _, rfl, ?_⟩
    refine ite2 (fun e => ?_) (fun e => ?_)
    · refine ⟨_, rfl, _, _, rfl, rfl, ?_⟩
      have q : Q (.bl (decide (lo ≤ i) && decide (i ≤ hi))) H := q
      rw [e] at q
      exact q
    · have q : Q (.bl (decide (lo ≤ i) && decide (i ≤ hi))) H := q
      rw [Bool.not_eq_true] at e
      rw [e] at q
      exact q
  | _ => exact iteF q
theorem ok_is_number (T : Tx K mg) : FnOk P w K mg base CX0 3 T.A_is_number T.fd_is_number ["thing"] (spIsNumber K) := by
  refine T.F_is_number.ok sc_is_number (fun vs H Q E h => ?_) (fun cdv A outer s H vs Q E hr h => ?_)
  · obtain ⟨v, rfl, th, q⟩ := h
    rfl
  obtain ⟨v, rfl, th, q⟩ := h
  refine ⟨_, (pss_one (ps_ret (pe_call (ok_is_whole T) (hr.mono (by decide)) (by rfl) T.g_is_whole T.F_is_whole.kp T.b_is_whole .nil pass0 (pa_cons (pv 0) (pa_cons pe_int (pa_cons (pe_glob (v := .int 1000000000) (by rfl) T.g_GREATEST_NUMBER ⟨_, rfl⟩) pa_nil)))))), ?_⟩
  exact ⟨_, rfl, v, 1, 1000000000, rfl, th, q⟩
theorem nm_no {v : V} (h : isS v = false) : nm v = false := by cases v <;> simp_all [nm, isS]
theorem ok_is_name (T : Tx K mg) : FnOk P w K mg base CX0 1 T.A_is_name T.fd_is_name ["thing"] (spIsName K) := by
  refine T.F_is_name.ok sc_is_name (fun vs H Q E h => ?_) (fun cdv A outer s H vs Q E hr h => ?_)
  · obtain ⟨v, rfl, th, hz, q⟩ := h
    rfl
  obtain ⟨v, rfl, th, hz, q⟩ := h
  refine ⟨_, (pss_cons (ps_if (PW.pt (pw_or (pt_not (pt_val (pe_callB call_isi (by rfl) T.z_isinstance (by decide +kernel) (pa_cons (pv 0) (pa_cons (pe_bltn (v := .ty "str") (by rfl) T.z_str (by decide +kernel) rfl) pa_nil))))) (pw_or1 (pt_not (pt_chain op_le op_le pe_int (pe_callB call_len_str (by rfl) T.z_len PySem.boot_len (pa_cons (pv 0) pa_nil)) (pe_glob (v := .int 8) (by rfl) T.g_LONGEST_NAME ⟨_, rfl⟩)))))) (pss_one (ps_ret pe_bl)) pss_nil)
      (pss_one (ps_ret (pe_callB (cr_all rfl) (by rfl) T.z_all (by decide +kernel) (pa_cons (pe_lc (own := [("sign", 1)]) (g := gName 1) (tt := tYes) rfl sc_is_name.nd (pi_str (pv 0)) (blkOk_by (N := ["thing", "sign"]) (sc := defScope s_is_name) (by decide +kernel)) (fun _ _ _ _ _ => (pg_name (i := 1) sc_is_name.nd rfl (Or.inl rfl))) (fun _ _ _ _ _ => pts_nil) (fun _ _ _ _ _ => (pe_chain op_le_str op_le_str pe_str (pv 1) pe_str))) pa_nil))))), ?_⟩
  obtain ⟨t1, ty1, k1⟩ := isi_str th
  refine ⟨_, rfl, v, _, t1, _, _, rfl, .ty _, ty1, k1, _, rfl, ?_⟩
  by_cases hs : isS v = true
  · obtain ⟨z, rfl⟩ : ∃ z, v = .str z := by
      cases v with
      | str z => exact ⟨z, rfl⟩
      | _ => cases hs
    have hz := hz z rfl
    have hzl : z.length ≤ sizeLine := Nat.le_trans hz (by decide)
    have nmE : nm (.str z) = (decide (1 ≤ z.length) && decide (z.length ≤ 8) && z.cps.toList.all lower) := rfl
    rw [hs]
    refine iteF ?_
    refine ⟨_, rfl, z, rfl, hzl, _, _, rfl, rfl, _, rfl, ?_⟩
    by_cases h1 : 1 ≤ z.length
    · rw [decide_eq_true (show (1 : Int) ≤ (z.length : Int) by omega)]
      refine iteT ⟨_, _, rfl, rfl, _, rfl, ?_⟩
      by_cases h2 : z.length ≤ 8
      · rw [decide_eq_true (show (z.length : Int) ≤ 8 by omega)]
        refine iteF ?_
        refine ⟨_, rfl, z, rfl, fun D hD => lc_all hD hz lower ?_ ?_⟩
        · intro c H2 R C s2 r
          refine ⟨rfl, yesT ?_⟩
          refine ⟨_, rfl, _, _, rfl, rfl, _, rfl, ?_⟩
          rw [ge_a]
          refine ite2 (fun e => ?_) (fun e => ?_)
          · refine ⟨_, _, rfl, rfl, ?_⟩
            rw [le_z]
            have : lower c = decide (c ≤ 122) := by unfold lower; rw [e, Bool.true_and]
            rw [← this]
            exact r
          · rw [Bool.not_eq_true] at e
            have : lower c = false := by unfold lower; rw [e, Bool.false_and]
            rw [← this]
            exact r
        · intro H' s1 e1
          refine ⟨D, z.cps.toList.map lower, rfl, SqL.of e1, ?_⟩
          have q := q H' s1
          have : nm (.str z) = (z.cps.toList.map lower).all id := by
            rw [nmE, decide_eq_true h1, decide_eq_true h2, Bool.true_and, Bool.true_and, List.all_map]
            rfl
          rw [this] at q
          exact q
      · rw [decide_eq_false (show ¬ (z.length : Int) ≤ 8 by omega)]
        refine iteT ?_
        have q := q H (Same.refl H)
        rw [nmE, decide_eq_false h2, Bool.and_false, Bool.false_and] at q
        exact q
    · rw [decide_eq_false (show ¬ (1 : Int) ≤ (z.length : Int) by omega)]
      refine iteF ⟨_, rfl, ?_⟩
      refine iteT ?_
      have q := q H (Same.refl H)
      rw [nmE, decide_eq_false h1, Bool.false_and, Bool.false_and] at q
      exact q
  · rw [Bool.not_eq_true] at hs
    rw [hs]
    refine iteT (iteT ?_)
    have q := q H (Same.refl H)
    rw [nm_no hs] at q
    exact q
end
end KB
namespace KB
open PySem PySem.Spec PyProof.Rows L2 KA

section
variable {P : Program} {w : World} {K : PySem.W.Frag} {mg : Str → Option Value} {base : Heap}
def spMeasure (K : PySem.W.Frag) : Sp := fun vs H Q _ => ∃ v, vs = [v] ∧ Th K H v ∧ Q (.bl (whl v 1 1000000)) H
theorem ok_is_measure (T : Tx K mg) : FnOk P w K mg base CX0 3 T.A_is_measure T.fd_is_measure ["thing"] (spMeasure K) := by
  refine T.F_is_measure.ok sc_is_measure (fun vs H Q E h => ?_) (fun cdv A outer s H vs Q E hr h => ?_)
  · obtain ⟨v, rfl, th, q⟩ := h
    rfl
  obtain ⟨v, rfl, th, q⟩ := h
  refine ⟨_, (pss_one (ps_ret (pe_call (ok_is_whole T) (hr.mono (by decide)) (by rfl) T.g_is_whole T.F_is_whole.kp T.b_is_whole .nil pass0 (pa_cons (pv 0) (pa_cons pe_int (pa_cons (pe_glob (v := .int 1000000) (by rfl) T.g_GREATEST_MEASURE ⟨_, rfl⟩) pa_nil)))))), ?_⟩
  exact ⟨_, rfl, v, 1, 1000000, rfl, th, q⟩
/-- a bead, a rule, as data -/
structure Rw where
  num : Int
  ac : Int
  we : Int
  sh : Str
  fo : Str
  dr : Bool
def GoodRw (r : Rw) : Prop := whl (.int r.num) 1 1000000000 = true ∧ whl (.int r.ac) 1 1000000 = true ∧ whl (.int r.we) 1 1000000 = true ∧ nm (.str r.sh) = true ∧ nm (.str r.fo) = true
theorem short_name {z : Str} (h : nm (.str z) = true) : z.length ≤ 100000 := by
  have nmE : nm (.str z) = (decide (1 ≤ z.length) && decide (z.length ≤ 8) && z.cps.toList.all lower) := rfl
  rw [nmE] at h
  simp only [Bool.and_eq_true, decide_eq_true_eq] at h
  omega
def bf (r : Rw) : List (Str × V) := putF "drilled" (.bl r.dr) (putF "form" (.str r.fo) (putF "shade" (.str r.sh) (putF "weight" (.int r.we) (putF "across" (.int r.ac) (putF "number" (.int r.num) [])))))
theorem bf_number (r : Rw) : (bf r).lookup ("number" : Str) = some (.int r.num) := by
  unfold bf
  rw [lookup_putF, if_neg (by decide +kernel), lookup_putF, if_neg (by decide +kernel), lookup_putF, if_neg (by decide +kernel), lookup_putF, if_neg (by decide +kernel), lookup_putF, if_neg (by decide +kernel), lookup_putF, if_pos rfl]
theorem bf_across (r : Rw) : (bf r).lookup ("across" : Str) = some (.int r.ac) := by
  unfold bf
  rw [lookup_putF, if_neg (by decide +kernel), lookup_putF, if_neg (by decide +kernel), lookup_putF, if_neg (by decide +kernel), lookup_putF, if_neg (by decide +kernel), lookup_putF, if_pos rfl]
theorem bf_weight (r : Rw) : (bf r).lookup ("weight" : Str) = some (.int r.we) := by
  unfold bf
  rw [lookup_putF, if_neg (by decide +kernel), lookup_putF, if_neg (by decide +kernel), lookup_putF, if_neg (by decide +kernel), lookup_putF, if_pos rfl]
theorem bf_shade (r : Rw) : (bf r).lookup ("shade" : Str) = some (.str r.sh) := by
  unfold bf
  rw [lookup_putF, if_neg (by decide +kernel), lookup_putF, if_neg (by decide +kernel), lookup_putF, if_pos rfl]
theorem bf_form (r : Rw) : (bf r).lookup ("form" : Str) = some (.str r.fo) := by
  unfold bf
  rw [lookup_putF, if_neg (by decide +kernel), lookup_putF, if_pos rfl]
theorem bf_drilled (r : Rw) : (bf r).lookup ("drilled" : Str) = some (.bl r.dr) := by
  unfold bf
  rw [lookup_putF, if_pos rfl]
theorem bf_no (r : Rw) {m : Str} (h1 : ¬ m = "drilled") (h2 : ¬ m = "form") (h3 : ¬ m = "shade") (h4 : ¬ m = "weight") (h5 : ¬ m = "across") (h6 : ¬ m = "number") : (bf r).lookup m = none := by
  unfold bf
  rw [lookup_putF, if_neg h1, lookup_putF, if_neg h2, lookup_putF, if_neg h3, lookup_putF, if_neg h4, lookup_putF, if_neg h5, lookup_putF, if_neg h6]
  rfl
theorem few {fs : List (Str × V)} {f : Str} {v : V} {n : Nat} (h : fs.length ≤ n) : (putF f v fs).length ≤ n + 1 := Nat.le_trans (length_putF f v fs) (by omega)
theorem few0 : ([] : List (Str × V)).length ≤ 0 := Nat.le_refl _
def BeadAt (C : Addr) (H : Hp) (p : Addr) (r : Rw) : Prop := ∃ dx, H p = some (.ins C dx (bf r))
def spBead (C : Addr) : Sp := fun vs H Q _ => ∃ (p dx : Addr) (r : Rw), vs = [.ref p, .int r.num, .int r.ac, .int r.we, .str r.sh, .str r.fo, .bl r.dr] ∧ H p = some (.ins C dx []) ∧ GoodRw r ∧
  ∀ H' : Hp, BeadAt C H' p r → (∀ b o, H b = some o → b ≠ p → H' b = some o) → Q .non H'
theorem ok_Bead_init (T : Tx K mg) : FnOk P w K mg base CX0 4 T.A_Bead_init T.fd_Bead_init ["self", "number", "across", "weight", "shade", "form", "drilled"] (spBead T.C_Bead) := by
  refine okD T.F_Bead_init sc_Bead_init (fun vs H Q E h => ?_) (fun cdv A outer s H vs Q E hr h => ?_)
  · obtain ⟨p, dx, r, rfl, hp, ⟨g1, g2, g3, g4, g5⟩, q⟩ := h
    rfl
  obtain ⟨p, dx, r, rfl, hp, ⟨g1, g2, g3, g4, g5⟩, q⟩ := h
  refine ⟨_, (pss_cons (ps_if (pt_not (pt_val (pe_call (ok_is_number T) (hr.mono (by decide)) (by rfl) T.g_is_number T.F_is_number.kp T.b_is_number .nil pass0 (pa_cons (pv 1) pa_nil)))) (pss_one ps_never) pss_nil)
      (pss_cons (ps_if (PW.pt (pw_or (pt_not (pt_val (pe_call (ok_is_measure T) (hr.mono (by decide)) (by rfl) T.g_is_measure T.F_is_measure.kp T.b_is_measure .nil pass0 (pa_cons (pv 2) pa_nil)))) (pw_or1 (pt_not (pt_val (pe_call (ok_is_measure T) (hr.mono (by decide)) (by rfl) T.g_is_measure T.F_is_measure.kp T.b_is_measure .nil pass0 (pa_cons (pv 3) pa_nil))))))) (pss_one ps_never) pss_nil)
      (pss_cons (ps_if (PW.pt (pw_or (pt_not (pt_val (pe_call (ok_is_name T) (hr.mono (by decide)) (by rfl) T.g_is_name T.F_is_name.kp T.b_is_name .nil pass0 (pa_cons (pv 4) pa_nil)))) (pw_or1 (pt_not (pt_val (pe_call (ok_is_name T) (hr.mono (by decide)) (by rfl) T.g_is_name T.F_is_name.kp T.b_is_name .nil pass0 (pa_cons (pv 5) pa_nil))))))) (pss_one ps_never) pss_nil)
      (pss_cons (ps_if (pt_not (pt_val (pe_callB call_isi (by rfl) T.z_isinstance (by decide +kernel) (pa_cons (pv 6) (pa_cons (pe_bltn (v := .ty "bool") (by rfl) T.z_bool (by decide +kernel) rfl) pa_nil))))) (pss_one ps_never) pss_nil)
      (pss_cons (ps_fld (pv 0) (pv 1) rfl)
      (pss_cons (ps_fld (pv 0) (pv 2) rfl)
      (pss_cons (ps_fld (pv 0) (pv 3) rfl)
      (pss_cons (ps_fld (pv 0) (pv 4) rfl)
      (pss_cons (ps_fld (pv 0) (pv 5) rfl)
      (pss_one (ps_fld (pv 0) (pv 6) rfl))))))))))), ?_⟩
  refine ⟨_, rfl, _, rfl, .int _, _, rfl, ?_⟩
  rw [g1]
  refine iteF ⟨_, rfl, _, rfl, .int _, _, rfl, ?_⟩
  rw [g2]
  refine iteF ⟨_, rfl, _, rfl, .int _, _, rfl, ?_⟩
  rw [g3]
  refine iteF ⟨_, rfl, _, rfl, .str _, (fun z hz => by injection hz with hz; rw [← hz]; exact short_name g4), fun H1 s1 => ⟨_, rfl, ?_⟩⟩
  rw [g4]
  refine iteF ⟨_, rfl, _, rfl, .str _, (fun z hz => by injection hz with hz; rw [← hz]; exact short_name g5), fun H2 s2 => ⟨_, rfl, ?_⟩⟩
  rw [g5]
  refine iteF ⟨_, rfl, _, _, _, _, _, rfl, .ty _, .base (.bl _), kit_ty (r := true) (by decide +kernel), _, rfl, ?_⟩
  refine iteF ?_
  have h2 := s2 _ _ (s1 _ _ hp)
  refine ⟨_, rfl, _, rfl, p, _, dx, _, rfl, h2, T.cl_Bead, T.n_Bead_number, by decide, ?_⟩
  refine ⟨_, rfl, _, rfl, p, _, dx, _, rfl, upd_same, T.cl_Bead, T.n_Bead_across, Nat.lt_of_le_of_lt (few few0) (by decide), ?_⟩
  refine ⟨_, rfl, _, rfl, p, _, dx, _, rfl, upd_same, T.cl_Bead, T.n_Bead_weight, Nat.lt_of_le_of_lt (few (few few0)) (by decide), ?_⟩
  refine ⟨_, rfl, _, rfl, p, _, dx, _, rfl, upd_same, T.cl_Bead, T.n_Bead_shade, Nat.lt_of_le_of_lt (few (few (few few0))) (by decide), ?_⟩
  refine ⟨_, rfl, _, rfl, p, _, dx, _, rfl, upd_same, T.cl_Bead, T.n_Bead_form, Nat.lt_of_le_of_lt (few (few (few (few few0)))) (by decide), ?_⟩
  refine ⟨_, rfl, _, rfl, p, _, dx, _, rfl, upd_same, T.cl_Bead, T.n_Bead_drilled, Nat.lt_of_le_of_lt (few (few (few (few (few few0))))) (by decide), ?_⟩
  refine q _ ⟨dx, upd_same⟩ fun b o e hb => ?_
  rw [upd_ne hb, upd_ne hb, upd_ne hb, upd_ne hb, upd_ne hb, upd_ne hb]
  exact s2 _ _ (s1 _ _ e)
def PM : Int → Prop := fun b => 0 ≤ b ∧ b < 2147483647
theorem dr_nl {PP : Int → Prop} {d : Addr} {n : Nat} {H H' : Hp} (dr : Dr PP d n H) (b : But d H H') : NL H H' := fun c o hn hc => by
  obtain ⟨_, _, _, e, _⟩ := dr
  exact b c o (fun z => by rw [z, e] at hc; exact hn _ (Option.some.inj hc).symm) hc
def spCell (K : PySem.W.Frag) : Sp := fun vs H Q _ => ∃ (a : Addr) (ns : List Int), vs = [.ref a, .int 0] ∧ SqL K H a (ns.map V.int) ∧ Q (.int (ns.headD 0)) H
theorem ok_cell_at (T : Tx K mg) : FnOk P w K mg base CX0 1 T.A_cell_at T.fd_cell_at ["_law_script", "_law_k"] (spCell K) := by
  refine T.F_cell_at.ok sc_cell_at (fun vs H Q E h => ?_) (fun cdv A outer s H vs Q E hr h => ?_)
  · obtain ⟨a, ns, rfl, hS, q⟩ := h
    rfl
  obtain ⟨a, ns, rfl, hS, q⟩ := h
  refine ⟨_, (pss_cons (ps_if (pt_cmpR op_lt (pv 1) (pe_callB call_len_seq (by rfl) T.z_len PySem.boot_len (pa_cons (pv 0) pa_nil)) (nomark _)) (pss_one (ps_ret (pe_ix ix_list (pv 0) (pv 1) (fun _ _ => rfl)))) pss_nil)
      (pss_one (ps_ret pe_int))), ?_⟩
  refine ⟨_, rfl, _, rfl, a, _, rfl, .inl hS, _, _, rfl, rfl, _, rfl, ?_⟩
  cases ns with
  | nil => exact iteF q
  | cons n r =>
    rw [decide_eq_true (show (0 : Int) < (((n :: r).map V.int).length : Int) by rw [List.length_map, List.length_cons]; omega)]
    exact iteT ⟨_, rfl, _, rfl, a, _, _, _, rfl, rfl, hS, atI_nat (j := 0) rfl, q⟩
def spBegin : Sp := fun vs H Q _ => ∃ (n : Int), vs = [.int n] ∧ ∀ (d : Addr) (H' : Hp), H d = none → Same H H' → Dr PM d 0 H' → Q (.ref d) H'
theorem ok_begin (T : Tx K mg) : FnOk P w K mg base CX0 1 T.A_begin T.fd_begin ["_law_cell"] (spBegin) := by
  refine T.F_begin.ok sc_begin (fun vs H Q E h => ?_) (fun cdv A outer s H vs Q E hr h => ?_)
  · obtain ⟨n, rfl, q⟩ := h
    rfl
  obtain ⟨n, rfl, q⟩ := h
  refine ⟨_, (pss_one (ps_ret (pe_lst (pa_cons (pe_ix ix_list (pe_lst (pa_cons pe_int (pa_cons (pv 0) pa_nil))) (pe_callTy call_int1 (by rfl) T.z_int (by decide +kernel) (pa_cons (pe_cmpR op_ge (pv 0) (pe_op op_pow pe_int pe_int) (nomark _)) pa_nil)) (fun _ _ => rfl)) (pa_cons (pe_op op_mod (pv 0) pe_int) (pa_cons pe_int pa_nil)))))), ?_⟩
  refine ⟨_, rfl, (by show 2 ≤ sizeLine; decide), fun l hl => ?_⟩
  refine ⟨_, rfl, _, _, rfl, rfl, ⟨by decide, by decide, by decide⟩, _, _, rfl, rfl, .inr ⟨_, rfl, ?_⟩⟩
  obtain ⟨a, ha⟩ : ∃ a : Int, atI [V.int 0, V.int n] (if decide (10 ^ (18 : Int).toNat ≤ n) = true then (1 : Int) else 0) = some (.int a) := by
    split
    · exact ⟨n, rfl⟩
    · exact ⟨0, rfl⟩
  refine ⟨l, _, _, _, rfl, rfl, SqL.of upd_same, ha, _, rfl, _, _, rfl, rfl, (by show (0 : Int) < 2147483629; decide), (by show 3 ≤ sizeLine; decide), fun d hd => ?_⟩
  have s1 : Same H (upd H l (.lst [.int 0, .int n])) := same_upd hl
  have m0 := Int.emod_nonneg n (show (2147483629 : Int) ≠ 0 by decide)
  have m1 := Int.emod_lt_of_pos n (show (0 : Int) < 2147483629 by decide)
  exact q d _ (s1.free hd) (s1.trans (same_upd hd)) ⟨_, _, _, upd_same, ⟨m0, by omega⟩, Int.le_refl _, Int.le_refl _⟩
def spDraw : Sp := fun vs H Q _ => ∃ (d : Addr) (m : Int) (n : Nat), vs = [.ref d, .int m] ∧ 0 < m ∧ m.natAbs.log2 < 9000 ∧ Dr PM d n H ∧ n ≤ 1000000 ∧
  ∀ (H' : Hp) (r : Int), 0 ≤ r → r < m → But d H H' → Dr PM d (n + 1) H' → Q (.int r) H'
theorem ok_draw (T : Tx K mg) : FnOk P w K mg base CX0 1 T.A_draw T.fd_draw ["_law_source", "_law_many"] (spDraw) := by
  refine T.F_draw.ok sc_draw (fun vs H Q E h => ?_) (fun cdv A outer s H vs Q E hr h => ?_)
  · obtain ⟨d, m, n, rfl, hm, hl, ⟨a, b, c, hd, ⟨hb0, hb1⟩, hc0, hc1⟩, hn, q⟩ := h
    rfl
  obtain ⟨d, m, n, rfl, hm, hl, ⟨a, b, c, hd, ⟨hb0, hb1⟩, hc0, hc1⟩, hn, q⟩ := h
  refine ⟨_, (pss_cons (ps_if (pt_cmpR op_gt (pe_ix ix_list (pv 0) pe_int (fun _ _ => rfl)) pe_int (nomark _)) (pss_cons (ps_set (i := 2) sc_draw.nd rfl (Or.inl rfl) (pe_op op_mod (pe_ix ix_list (pv 0) pe_int (fun _ _ => rfl)) (pv 1)))
      (pss_cons (ps_asg (pe_op op_fdivW (pe_ix ix_list (pv 0) pe_int (fun _ _ => rfl)) (pv 1)) (pg_sub (pv 0) pe_int set_list))
      (pss_one (ps_ret (pv 2))))) pss_nil)
      (pss_cons (ps_asg (pe_op op_add (pe_ix ix_list (pv 0) pe_int (fun _ _ => rfl)) pe_int) (pg_sub (pv 0) pe_int set_list))
      (pss_cons (ps_set (i := 3) sc_draw.nd rfl (Or.inl rfl) (pe_op op_mod (pe_op op_pow (pe_op op_add (pe_op op_add (pe_ix ix_list (pv 0) pe_int (fun _ _ => rfl)) (pe_op op_mul pe_int (pe_ix ix_list (pv 0) pe_int (fun _ _ => rfl)))) pe_int) pe_int) pe_int))
      (pss_cons (ps_set (i := 3) sc_draw.nd rfl (Or.inl rfl) (pe_op op_mod (pe_op op_mul (pv 3) (pe_op op_add (pe_op op_add (pe_op op_fdiv (pv 3) pe_int) pe_int) (pe_ix ix_list (pv 0) pe_int (fun _ _ => rfl)))) pe_int))
      (pss_one (ps_ret (pe_op op_mod (pe_op op_mod (pe_op op_mul (pv 3) (pe_op op_add (pe_op op_fdiv (pv 3) pe_int) pe_int)) pe_int) (pv 1)))))))), ?_⟩
  refine ⟨_, rfl, d, _, _, _, rfl, rfl, SqL.of hd, atI_nat (j := 0) rfl, _, _, rfl, rfl, _, rfl, ite2 (fun e => ?_) (fun e => ?_)⟩
  · refine ⟨_, rfl, d, _, _, _, rfl, rfl, SqL.of hd, atI_nat (j := 0) rfl, _, rfl, _, _, rfl, rfl, hm, ?_⟩
    refine ⟨_, rfl, d, _, _, _, rfl, rfl, SqL.of hd, atI_nat (j := 0) rfl, _, rfl, _, _, rfl, rfl, ⟨hm, hl⟩, ?_⟩
    refine ⟨_, rfl, d, _, _, 0, rfl, rfl, hd, rfl, ?_⟩
    exact ⟨_, rfl, q _ _ (Int.emod_nonneg _ (by omega)) (Int.emod_lt_of_pos _ hm) But.at_ ⟨_, _, _, upd_same, ⟨hb0, hb1⟩, hc0, by omega⟩⟩
  · refine ⟨_, rfl, d, _, _, _, rfl, rfl, SqL.of hd, atI_nat (j := 2) rfl, _, _, rfl, rfl, ?_⟩
    refine ⟨_, rfl, d, _, _, 2, rfl, rfl, hd, rfl, ?_⟩
    have hd' : (upd H d (.lst [.int a, .int b, .int (c + 1)])) d = some (.lst [.int a, .int b, .int (c + 1)]) := upd_same
    refine ⟨_, rfl, d, _, _, _, rfl, rfl, SqL.of hd', atI_nat (j := 1) rfl, _, rfl, d, _, _, _, rfl, rfl, SqL.of hd', atI_nat (j := 2) rfl, _, _, rfl, rfl, .inl ⟨by decide, by decide⟩, _, _, rfl, rfl, _, _, rfl, rfl, _, _, rfl, rfl, ⟨by decide, by decide, ?_⟩, _, _, rfl, rfl, (by show (0 : Int) < 2147483647; decide), ?_⟩
    · have e64 : (2 : Nat) ^ 64 = 18446744073709551616 := by decide
      rw [e64]
      omega
    · generalize hx : (b + 7919 * (c + 1) + 1) ^ (5 : Int).toNat % 2147483647 = x
      have hx0 : 0 ≤ x := by rw [← hx]; exact Int.emod_nonneg _ (by decide)
      have hx1 : x < 2147483647 := by rw [← hx]; exact Int.emod_lt_of_pos _ (by decide)
      have e64 : (2 : Int) ^ 64 = 18446744073709551616 := by decide
      refine ⟨_, rfl, _, rfl, _, _, rfl, rfl, ⟨by decide, by decide⟩, _, _, rfl, rfl, _, rfl, d, _, _, _, rfl, rfl, SqL.of hd', atI_nat (j := 2) rfl, _, _, rfl, rfl, _, _, rfl, rfl, .inl ⟨?_, ?_⟩, _, _, rfl, rfl, (by show (0 : Int) < 2147483629; decide), ?_⟩
      · rw [e64]; omega
      · rw [e64]; omega
      · generalize hy : x * (x / 1009 + 69621 + (c + 1)) % 2147483629 = y
        have hy0 : 0 ≤ y := by rw [← hy]; exact Int.emod_nonneg _ (by decide)
        have hy1 : y < 2147483629 := by rw [← hy]; exact Int.emod_lt_of_pos _ (by decide)
        refine ⟨_, rfl, _, rfl, _, _, rfl, rfl, ⟨by decide, by decide⟩, _, _, rfl, rfl, _, _, rfl, rfl, .inl ⟨?_, ?_⟩, _, _, rfl, rfl, (by show (0 : Int) < 2147483399; decide), _, rfl, _, _, rfl, rfl, hm, ?_⟩
        · rw [e64]; omega
        · rw [e64]; omega
        · exact q _ _ (Int.emod_nonneg _ (by omega)) (Int.emod_lt_of_pos _ hm) But.at_ ⟨_, _, _, upd_same, ⟨hb0, hb1⟩, by omega, by omega⟩
def spOf (K : PySem.W.Frag) : Sp := fun vs H Q _ => ∃ (d b : Addr) (n : Nat) (xs : List V), vs = [.ref d, .ref b] ∧ b ≠ d ∧ SqL K H b xs ∧ xs ≠ [] ∧ xs.length ≤ 1000 ∧ Dr PM d n H ∧ n ≤ 1000000 ∧
  ∀ (H' : Hp) (v : V), v ∈ xs → But d H H' → Dr PM d (n + 1) H' → Q v H'
theorem ok_one (T : Tx K mg) : FnOk P w K mg base CX0 2 T.A_one T.fd_one ["_law_source", "_law_some"] (spOf K) := by
  refine T.F_one.ok sc_one (fun vs H Q E h => ?_) (fun cdv A outer s H vs Q E hr h => ?_)
  · obtain ⟨d, b, n, xs, rfl, hbd, hS, hne, hlen, dr, hn, q⟩ := h
    rfl
  obtain ⟨d, b, n, xs, rfl, hbd, hS, hne, hlen, dr, hn, q⟩ := h
  refine ⟨_, (pss_one (ps_ret (pe_ix ix_list (pv 1) (pe_call (ok_draw T) (hr.mono (by decide)) (by rfl) T.g_draw T.F_draw.kp T.b_draw .nil pass0 (pa_cons (pv 0) (pa_cons (pe_callB call_len_seq (by rfl) T.z_len PySem.boot_len (pa_cons (pv 1) pa_nil)) pa_nil))) (fun _ _ => rfl)))), ?_⟩
  have hl : 0 < (xs.length : Int) := by
    cases xs with
    | nil => exact absurd rfl hne
    | cons x r => rw [List.length_cons]; omega
  refine ⟨_, rfl, _, rfl, _, rfl, b, xs, rfl, .inl hS, d, _, n, rfl, hl, log_tiny hl (by omega), dr, hn, fun H' r h0 h1 bt dr' => ?_⟩
  obtain ⟨j, rfl⟩ : ∃ j : Nat, r = (j : Int) := ⟨r.toNat, by omega⟩
  have hj : j < xs.length := by omega
  exact ⟨b, xs, _, _, rfl, rfl, but_seq bt hbd hS, atI_nat (List.getElem?_eq_getElem hj), q H' _ (List.getElem_mem hj) bt dr'⟩
theorem az_is {r : Int} (h0 : 0 ≤ r) (h1 : r < 26) : atI ("abcdefghijklmnopqrstuvwxyz" : Str).cps.toList r = some (97 + r.toNat) := by
  obtain ⟨j, rfl⟩ : ∃ j : Nat, r = (j : Int) := ⟨r.toNat, by omega⟩
  have e : ("abcdefghijklmnopqrstuvwxyz" : Str).cps.toList = (List.range 26).map (· + 97) := by decide +kernel
  refine atI_nat ?_
  rw [e, List.getElem?_map, List.getElem?_range (by omega)]
  show some (j + 97) = some (97 + j)
  rw [Nat.add_comm]
theorem low_of {j : Nat} (h : j < 26) : lower (97 + j) = true := by
  unfold lower
  rw [decide_eq_true (by omega), decide_eq_true (by omega)]
  rfl
theorem tl_one (c : Nat) : TL.tl (⟨#[c]⟩ : Str) = [c] := rfl
theorem nm_of {z : Str} (h1 : 1 ≤ z.length) (h2 : z.length ≤ 8) (h3 : ∀ c ∈ TL.tl z, lower c = true) : nm (.str z) = true := by
  show (decide (1 ≤ z.length) && decide (z.length ≤ 8) && z.cps.toList.all lower) = true
  rw [decide_eq_true h1, decide_eq_true h2, Bool.true_and, Bool.true_and]
  exact List.all_eq_true.mpr h3
theorem nm_is {z : Str} (h : nm (.str z) = true) : 1 ≤ z.length ∧ z.length ≤ 8 ∧ ∀ c ∈ TL.tl z, lower c = true := by
  have h : (decide (1 ≤ z.length) && decide (z.length ≤ 8) && z.cps.toList.all lower) = true := h
  simp only [Bool.and_eq_true, decide_eq_true_eq] at h
  exact ⟨h.1.1, h.1.2, List.all_eq_true.mp h.2⟩
def spNames : Sp := fun vs H Q _ => ∃ (d : Addr) (m : Int) (n : Nat), vs = [.ref d, .int m] ∧ 0 ≤ m ∧ m ≤ 8 ∧ Dr PM d n H ∧ n ≤ 100000 ∧
  ∀ (H' : Hp) (l : Addr) (zs : List Str), H l = none → l ≠ d → H' l = some (.lst (zs.map V.str)) → zs.length = m.toNat → (∀ z ∈ zs, nm (.str z) = true) → zs.Nodup → But d H H' → Dr PM d (n + 100) H' → Q (.ref l) H'
theorem ok_names (T : Tx K mg) : FnOk P w K mg base CX0 2 T.A_names T.fd_names ["_law_source", "_law_many"] (spNames) := by
  refine T.F_names.ok sc_names (fun vs H Q E h => ?_) (fun cdv A outer s H vs Q E hr h => ?_)
  · obtain ⟨d, m, n, rfl, h0, h1, dr, hn, q⟩ := h
    rfl
  obtain ⟨d, m, n, rfl, h0, h1, dr, hn, q⟩ := h
  refine ⟨_, (pss_cons (ps_set (i := 2) sc_names.nd rfl (Or.inl rfl) pe_str)
      (pss_cons (ps_set (i := 3) sc_names.nd rfl (Or.inl rfl) (pe_call (ok_draw T) (hr.mono (by decide)) (by rfl) T.g_draw T.F_draw.kp T.b_draw .nil pass0 (pa_cons (pv 0) (pa_cons pe_int pa_nil))))
      (pss_cons (ps_set (i := 4) sc_names.nd rfl (Or.inl rfl) (pe_lst pa_nil))
      (pss_cons (ps_for PassesOwn.never rfl (pi_range1 (by rfl) T.z_range (pa_cons (pv 1) pa_nil)) (pg_name (i := 5) sc_names.nd rfl (Or.inl rfl))
        (pss_cons (ps_set (i := 6) sc_names.nd rfl (Or.inl rfl) pe_str)
      (pss_cons (ps_for PassesOwn.never rfl (pi_range1 (by rfl) T.z_range (pa_cons (pe_call (ok_draw T) (hr.mono (by decide)) (by rfl) T.g_draw T.F_draw.kp T.b_draw .nil pass0 (pa_cons (pv 0) (pa_cons pe_int pa_nil))) pa_nil)) (pg_name (i := 7) sc_names.nd rfl (Or.inl rfl))
        (pss_one (ps_set (i := 6) sc_names.nd rfl (Or.inl rfl) (pe_op op_add_str (pv 6) (pe_ix ix_str (pv 2) (pe_call (ok_draw T) (hr.mono (by decide)) (by rfl) T.g_draw T.F_draw.kp T.b_draw .nil pass0 (pa_cons (pv 0) (pa_cons pe_int pa_nil))) (fun _ _ => rfl))))))
      (pss_one (ps_expr (pe_bm PySem.F.plainAttrs_list PySem.F.slot_list_append PySem.F.type_list_append mt_append (pv 4) (pa_cons (pe_op op_add_str (pv 6) (pe_ix ix_str (pv 2) (pe_op op_mod (pe_op op_add (pv 3) (pe_op op_mul pe_int (pv 5))) pe_int) (fun _ _ => rfl))) pa_nil)))))))
      (pss_one (ps_ret (pv 4))))))), ?_⟩
  refine ⟨_, rfl, d, 26, n, rfl, by decide, log_tiny (by decide) (by decide), dr, by omega, fun H1 f f0 f1 b1 dr1 => ?_⟩
  obtain ⟨f, rfl⟩ : ∃ j : Nat, f = (j : Int) := ⟨f.toNat, by omega⟩
  refine ⟨Nat.zero_le _, fun l hl => ?_⟩
  have nl := dr1.ne hl
  refine ⟨_, rfl, _, rfl, by omega, by omega, ?_⟩
  refine for_range (lo := 0) (n := m.toNat) (fun i σ H' => ∃ (w5 w6 w7 : Option V) (zs : List Str), σ = [some (.ref d), some (.int m), some (.str "abcdefghijklmnopqrstuvwxyz"), some (.int f), some (.ref l), w5, w6, w7] ∧ H' l = some (.lst (zs.map V.str)) ∧ zs.length = i ∧ (∀ z ∈ zs, nm (.str z) = true) ∧ (∀ (j : Nat) (z : Str), zs[j]? = some z → ∃ y, TL.tl z = y ++ [97 + (f + 3 * j) % 26]) ∧ But d H H' ∧ Dr PM d (n + 1 + 9 * i) H')
    ⟨_, _, _, [], rfl, upd_same, rfl, (fun z h => by cases h), (fun j z h => by simp at h), b1.trans (But.new hl), (dr1.upd nl).mono (by omega)⟩ ?_ ?_
  · rintro i σ H2 hi ⟨w5, w6, w7, zs, rfl, e2, l2, g2, t2, b2, dr2⟩
    refine ⟨_, rfl, d, 8, _, rfl, by decide, log_tiny (by decide) (by decide), dr2, by omega, fun H3 r r0 r1 b3 dr3 => ⟨_, rfl, by omega, by omega, ?_⟩⟩
    refine for_range (lo := 0) (n := r.toNat) (fun j σ H' => ∃ (w7 : Option V) (y : Str), σ = [some (.ref d), some (.int m), some (.str "abcdefghijklmnopqrstuvwxyz"), some (.int f), some (.ref l), some (.int (0 + (i : Int))), some (.str y), w7] ∧ y.length = j ∧ (∀ c ∈ TL.tl y, lower c = true) ∧ But d H2 H' ∧ Dr PM d (n + 1 + 9 * i + 1 + j) H')
      ⟨_, "", rfl, rfl, (fun c h => by cases h), b3, dr3⟩ ?_ ?_
    · rintro j σ H4 hj ⟨w7, y, rfl, ly, gy, b4, dr4⟩
      refine ⟨_, rfl, _, rfl, _, rfl, d, 26, _, rfl, by decide, log_tiny (by decide) (by decide), dr4, by omega, fun H5 r2 g0 g1 b5 dr5 => ?_⟩
      have one : (⟨#[97 + r2.toNat]⟩ : Str).length = 1 := rfl
      refine ⟨_, _, _, rfl, rfl, (by decide +kernel), az_is g0 g1, _, _, rfl, rfl, ?_, ?_⟩
      · rw [ly, one, sizeLine_eq]
        omega
      · refine ⟨_, _, rfl, by rw [Str.length_append, ly, one], fun c hc => ?_, b4.trans b5, dr5⟩
        rw [TL.tl_append] at hc
        rcases List.mem_append.mp hc with h | h
        · exact gy c h
        · rw [tl_one, List.mem_singleton] at h
          rw [h]
          exact low_of (by omega)
    · rintro σ H4 ⟨w7, y, rfl, ly, gy, b4, dr4⟩
      have e4 := b4 _ _ nl e2
      have x0 : (0 : Int) ≤ ((f : Int) + 3 * (0 + (i : Int))) % 26 := Int.emod_nonneg _ (by decide)
      have x1 : ((f : Int) + 3 * (0 + (i : Int))) % 26 < 26 := Int.emod_lt_of_pos _ (by decide)
      have one : (⟨#[97 + (((f : Int) + 3 * (0 + (i : Int))) % 26).toNat]⟩ : Str).length = 1 := rfl
      refine ⟨_, rfl, .inl ⟨rfl, _, SqL.of e4⟩, _, rfl, _, rfl, _, rfl, _, rfl, _, _, rfl, rfl, .inl ⟨by decide, by decide⟩, _, _, rfl, rfl, _, _, rfl, rfl, (by show (0 : Int) < 26; decide), _, _, _, rfl, rfl, (by decide +kernel), az_is x0 x1, _, _, rfl, rfl, ?_, l, _, _, rfl, rfl, e4, ?_, ?_⟩
      · rw [ly, one, sizeLine_eq]
        omega
      · rw [List.length_map, l2]
        exact Nat.lt_of_lt_of_le (show i < 1000 by omega) (by decide)
      · have len : (y ++ (⟨#[97 + (((f : Int) + 3 * (0 + (i : Int))) % 26).toNat]⟩ : Str)).length = r.toNat + 1 := by rw [Str.length_append, ly, one]
        refine ⟨_, _, _, zs ++ [y ++ (⟨#[97 + (((f : Int) + 3 * (0 + (i : Int))) % 26).toNat]⟩ : Str)], rfl, ?_, by rw [List.length_append, l2]; rfl, fun z hz => ?_, fun j z hz => ?_, ?_, ?_⟩
        · rw [List.map_append]
          exact upd_same
        · rcases List.mem_append.mp hz with h | h
          · exact g2 z h
          · rw [List.mem_singleton.mp h]
            refine nm_of (by rw [len]; omega) (by rw [len]; omega) fun c hc => ?_
            rw [TL.tl_append] at hc
            rcases List.mem_append.mp hc with h | h
            · exact gy c h
            · rw [tl_one, List.mem_singleton] at h
              rw [h]
              exact low_of (by omega)
        · by_cases h : j < zs.length
          · rw [List.getElem?_append_left h] at hz
            exact t2 j z hz
          · rw [List.getElem?_append_right (by omega)] at hz
            have hj : j - zs.length = 0 := by
              have := (List.getElem?_eq_some_iff.mp hz).1
              rw [List.length_singleton] at this
              omega
            rw [hj] at hz
            have : y ++ (⟨#[97 + (((f : Int) + 3 * (0 + (i : Int))) % 26).toNat]⟩ : Str) = z := Option.some.inj hz
            rw [← this, TL.tl_append, tl_one]
            have e : j = i := by omega
            subst e
            refine ⟨TL.tl y, ?_⟩
            have e3 : (((f : Int) + 3 * (0 + (j : Int))) % 26).toNat = (f + 3 * j) % 26 := by omega
            rw [e3]
        · exact (b2.trans b4).mut (b1.free nl hl)
        · exact (dr4.upd nl).mono (by omega)
  · rintro σ H2 ⟨w5, w6, w7, zs, rfl, e2, l2, g2, t2, b2, dr2⟩
    refine ⟨_, rfl, q H2 l zs (b1.free nl hl) nl e2 (by omega) g2 ?_ b2 (dr2.mono (by omega))⟩
    refine List.pairwise_iff_getElem.mpr fun i j hi hj hij e => ?_
    obtain ⟨y1, h1'⟩ := t2 i _ (List.getElem?_eq_getElem hi)
    obtain ⟨y2, h2'⟩ := t2 j _ (List.getElem?_eq_getElem hj)
    rw [e] at h1'
    have := (List.append_inj' (h1'.symm.trans h2') rfl).2
    have := List.head_eq_of_cons_eq this
    omega
end
end KB
namespace KB
open PySem PySem.Spec PyProof.Rows L2 KA

section
variable {P : Program} {w : World} {K : PySem.W.Frag} {mg : Str → Option Value} {base : Heap}
theorem erase_ints : ∀ (xs : List Int) (k : Nat), (xs.map V.int).eraseIdx k = (xs.eraseIdx k).map V.int
  | [], _ => rfl
  | _ :: _, 0 => rfl
  | x :: xs, k + 1 => by
    show V.int x :: (xs.map V.int).eraseIdx k = V.int x :: (xs.eraseIdx k).map V.int
    rw [erase_ints xs k]
theorem perm_pop {α : Type} : ∀ {xs : List α} {k : Nat} (h : k < xs.length), (xs[k] :: xs.eraseIdx k).Perm xs
  | _ :: _, 0, _ => .refl _
  | x :: xs, k + 1, h => (List.Perm.swap x _ _).trans ((perm_pop (xs := xs) (by simpa using h)).cons x)
theorem at2i {a b : Int} {r : Int} (h0 : 0 ≤ r) (h1 : r < 2) : ∃ v, atI [V.int a, V.int b] r = some (.int v) ∧ (v = a ∨ v = b) := by
  rcases (by omega : r = 0 ∨ r = 1) with rfl | rfl
  · exact ⟨a, rfl, .inl rfl⟩
  · exact ⟨b, rfl, .inr rfl⟩
theorem at3i {a b c : Int} {r : Int} (h0 : 0 ≤ r) (h1 : r < 3) : ∃ v, atI [V.int a, V.int b, V.int c] r = some (.int v) ∧ (v = a ∨ v = b ∨ v = c) := by
  rcases (by omega : r = 0 ∨ r = 1 ∨ r = 2) with rfl | rfl | rfl
  · exact ⟨a, rfl, .inl rfl⟩
  · exact ⟨b, rfl, .inr (.inl rfl)⟩
  · exact ⟨c, rfl, .inr (.inr rfl)⟩
theorem seqIx {k n : Nat} (h : k < n) : seqIndex? (k : Int) n = some k := by
  unfold seqIndex?
  simp
  omega
def spNumbers : Sp := fun vs H Q _ => ∃ (d : Addr) (m : Int) (n : Nat), vs = [.ref d, .int m] ∧ 0 ≤ m ∧ m ≤ 60 ∧ Dr PM d n H ∧ n ≤ 100000 ∧
  ∀ (H' : Hp) (l : Addr) (ns : List Int), H l = none → l ≠ d → H' l = some (.lst (ns.map V.int)) → ns.length = m.toNat → (∀ z ∈ ns, 1 ≤ z ∧ z ≤ 1000000000) → ns.Nodup → But d H H' → Dr PM d (n + 200) H' → Q (.ref l) H'
theorem ok_numbers (T : Tx K mg) : FnOk P w K mg base CX0 2 T.A_numbers T.fd_numbers ["_law_source", "_law_many"] (spNumbers) := by
  refine T.F_numbers.ok sc_numbers (fun vs H Q E h => ?_) (fun cdv A outer s H vs Q E hr h => ?_)
  · obtain ⟨d, m, n, rfl, hm0, hm1, dr, hn, q⟩ := h
    rfl
  obtain ⟨d, m, n, rfl, hm0, hm1, dr, hn, q⟩ := h
  refine ⟨_, (pss_cons (ps_set (i := 2) sc_numbers.nd rfl (Or.inl rfl) (pe_ix ix_list (pe_lst (pa_cons (pe_call (ok_draw T) (hr.mono (by decide)) (by rfl) T.g_draw T.F_draw.kp T.b_draw .nil pass0 (pa_cons (pv 0) (pa_cons pe_int pa_nil))) (pa_cons (pe_call (ok_draw T) (hr.mono (by decide)) (by rfl) T.g_draw T.F_draw.kp T.b_draw .nil pass0 (pa_cons (pv 0) (pa_cons (pe_op op_mul pe_int (pe_op op_pow pe_int pe_int)) pa_nil))) pa_nil))) (pe_call (ok_draw T) (hr.mono (by decide)) (by rfl) T.g_draw T.F_draw.kp T.b_draw .nil pass0 (pa_cons (pv 0) (pa_cons pe_int pa_nil))) (fun _ _ => rfl)))
      (pss_cons (ps_set (i := 3) sc_numbers.nd rfl (Or.inl rfl) (pe_ix ix_list (pe_lst (pa_cons pe_int (pa_cons pe_int (pa_cons (pe_op op_pow pe_int pe_int) pa_nil)))) (pe_call (ok_draw T) (hr.mono (by decide)) (by rfl) T.g_draw T.F_draw.kp T.b_draw .nil pass0 (pa_cons (pv 0) (pa_cons pe_int pa_nil))) (fun _ _ => rfl)))
      (pss_cons (ps_set (i := 4) sc_numbers.nd rfl (Or.inr rfl) (pe_lst pa_nil))
      (pss_cons (ps_for PassesOwn.never rfl (pi_range1 (by rfl) T.z_range (pa_cons (pv 1) pa_nil)) (pg_name (i := 5) sc_numbers.nd rfl (Or.inl rfl))
        (pss_cons (ps_set (i := 2) sc_numbers.nd rfl (Or.inl rfl) (pe_op op_add (pe_op op_add (pv 2) pe_int) (pe_call (ok_draw T) (hr.mono (by decide)) (by rfl) T.g_draw T.F_draw.kp T.b_draw .nil pass0 (pa_cons (pv 0) (pa_cons (pv 3) pa_nil)))))
      (pss_one (ps_expr (pe_bm PySem.F.plainAttrs_list PySem.F.slot_list_append PySem.F.type_list_append mt_append (pv 4) (pa_cons (pv 2) pa_nil))))))
      (pss_one (ps_ret (pe_lc (own := [("_law_k", 5)]) (g := gName 5) (tt := tYes) rfl sc_numbers.nd (pi_range1 (by rfl) T.z_range (pa_cons (pv 1) pa_nil)) (blkOk_by (N := ["_law_source", "_law_many", "_law_number", "_law_far", "_law_left", "_law_k"]) (sc := defScope s_numbers) (by decide +kernel)) (fun _ _ _ _ _ => (pg_name (i := 5) sc_numbers.nd rfl (Or.inl rfl))) (fun _ _ _ _ _ => pts_nil) (fun _ _ _ _ _ => (pe_bmK (K' := K) rfl PySem.F.plainAttrs_list PySem.F.slot_list_pop PySem.F.type_list_pop mt_popAt (pv 4) (pa_cons (pe_call (ok_draw T) (hr.mono (by decide)) (by rfl) T.g_draw T.F_draw.kp T.b_draw .nil pass0 (pa_cons (pv 0) (pa_cons (pe_callB (call_len_seqK (K' := K) rfl) (by rfl) T.z_len PySem.boot_len (pa_cons (pv 4) pa_nil)) pa_nil))) pa_nil)))))))))), ?_⟩
  have e8 : (10 : Int) ^ (8 : Int).toNat = 100000000 := by decide
  have e6 : (10 : Int) ^ (6 : Int).toNat = 1000000 := by decide
  refine ⟨_, rfl, d, 9, n, rfl, by decide, log_tiny (by decide) (by decide), dr, by omega, fun H1 a a0 a1 b1 dr1 => ?_⟩
  refine ⟨_, rfl, _, _, rfl, rfl, ⟨by decide, by decide, by decide⟩, _, _, rfl, rfl, .inl ⟨by decide, by decide⟩, d, _, _, rfl, by decide, log_tiny (by decide) (by decide), dr1, by omega, fun H2 b c0 c1 b2 dr2 => ?_⟩
  refine ⟨(by show 2 ≤ sizeLine; decide), fun l0 hl0 => ?_⟩
  have n0 := dr2.ne hl0
  refine ⟨_, rfl, d, 2, _, rfl, by decide, log_tiny (by decide) (by decide), dr2.upd n0, by omega, fun H3 r r0 r1 b3 dr3 => ?_⟩
  obtain ⟨x, hx, hxv⟩ := at2i (a := a) (b := b) r0 r1
  have hx0 : 0 ≤ x ∧ x ≤ 900000000 := by
    rw [e8] at c1
    rcases hxv with rfl | rfl <;> omega
  refine ⟨l0, _, _, _, rfl, rfl, SqL.of (b3 _ _ n0 upd_same), hx, ?_⟩
  have bA : But d H H3 := (b1.trans b2).trans ((But.new hl0).trans b3)
  refine ⟨_, _, rfl, rfl, ⟨by decide, by decide, by decide⟩, (by show 3 ≤ sizeLine; decide), fun l4 hl4 => ?_⟩
  have n4 := dr3.ne hl4
  refine ⟨_, rfl, d, 3, _, rfl, by decide, log_tiny (by decide) (by decide), dr3.upd n4, by omega, fun H5 r5 r50 r51 b5 dr5 => ?_⟩
  obtain ⟨f, hf, hfv⟩ := at3i (a := 1) (b := 3) (c := (10 : Int) ^ (6 : Int).toNat) r50 r51
  have hf0 : 0 < f ∧ f ≤ 1000000 := by
    rw [e6] at hfv
    rcases hfv with rfl | rfl | rfl <;> omega
  refine ⟨l4, _, _, _, rfl, rfl, SqL.of (b5 _ _ n4 upd_same), hf, ?_⟩
  have bB : But d H H5 := bA.trans ((But.new hl4).trans b5)
  refine ⟨Nat.zero_le _, fun lf hlf => ?_⟩
  have nf := dr5.ne hlf
  refine ⟨_, rfl, _, rfl, by omega, by omega, for_range (lo := 0) (n := m.toNat) (fun i σ H' => ∃ (w5 : Option V) (y : Int) (ns : List Int), σ = [some (.ref d), some (.int m), some (.int y), some (.int f), some (.ref lf), w5] ∧ 0 ≤ y ∧ y ≤ 900000000 + 1000001 * i ∧ (∀ z ∈ ns, 1 ≤ z ∧ z ≤ y) ∧ ns.Nodup ∧ ns.length = i ∧ H' lf = some (.lst (ns.map V.int)) ∧ But d H H' ∧ Dr PM d (n + 1 + 1 + 1 + 1 + i) H') ⟨_, x, [], rfl, hx0.1, by omega, (fun z h => nomatch h), List.nodup_nil, rfl, upd_same, bB.trans (But.new hlf), dr5.upd nf⟩ ?_ ?_⟩
  · rintro i σ H6 hi ⟨w5, y, ns, rfl, y0, y1, hz, hnd, hln, e6', b6, dr6⟩
    refine ⟨_, rfl, _, _, rfl, rfl, _, rfl, _, rfl, d, f, _, rfl, hf0.1, log_tiny hf0.1 (by omega), dr6, by omega, fun H7 v v0 v1 b7 dr7 => ⟨_, _, rfl, rfl, ?_⟩⟩
    refine ⟨_, rfl, .inl ⟨rfl, _, SqL.of (b7 _ _ nf e6')⟩, _, rfl, lf, _, _, rfl, rfl, b7 _ _ nf e6', by rw [List.length_map]; exact Nat.lt_of_le_of_lt (show ns.length ≤ 100 by omega) (by decide), ?_⟩
    refine ⟨_, y + 1 + v, ns ++ [y + 1 + v], rfl, by omega, by omega, fun z hz' => ?_, ?_, by rw [List.length_append, hln]; rfl, ?_, ?_, ?_⟩
    · rcases List.mem_append.mp hz' with h | h
      · have := hz z h
        omega
      · rw [List.mem_singleton.mp h]
        omega
    · rw [List.nodup_append]
      refine ⟨hnd, by simp, fun u hu w hw e => ?_⟩
      rw [List.mem_singleton] at hw
      have := hz u hu
      omega
    · rw [List.map_append]
      exact upd_same
    · exact (b6.trans b7).mut (bB.free nf hlf)
    · exact (dr7.upd nf).mono (by omega)
  · rintro σ H6 ⟨w5, y, ns, rfl, y0, y1, hz, hnd, hln, e6', b6, dr6⟩
    refine ⟨_, rfl, _, rfl, by omega, by omega, fun D hD => ?_⟩
    have nD := dr6.ne hD
    have nDf : D ≠ lf := fun e => by rw [e, e6'] at hD; cases hD
    refine lc_range (lo := 0) (n := m.toNat) (fun i H' => ∃ xs ys : List Int, H' lf = some (.lst (xs.map V.int)) ∧ H' D = some (.lst (ys.map V.int)) ∧ (ys ++ xs).Perm ns ∧ ys.length = i ∧ But d H H' ∧ Dr PM d (n + 70 + i) H') ⟨ns, [], by rw [upd_ne nDf.symm]; exact e6', upd_same, .refl _, rfl, b6.trans (But.new hD), (dr6.upd nD).mono (by omega)⟩ ?_ ?_
    · rintro i H7 hi ⟨xs, ys, e1, eD, pm, ly, b7, dr7⟩
      have lsum := pm.length_eq
      rw [List.length_append] at lsum
      have hpos : 0 < xs.length := by omega
      have hp0 : (0 : Int) < (((xs.map V.int).length : Nat) : Int) := by rw [List.length_map]; omega
      refine ⟨rfl, yesT ⟨_, rfl, .inl ⟨rfl, _, SqL.of e1⟩, _, rfl, _, rfl, lf, _, rfl, .inl (SqL.of e1), d, _, _, rfl, hp0, log_tiny hp0 (by rw [List.length_map]; omega), dr7, by omega, fun H8 r r0 r1 b8 dr8 => ?_⟩⟩
      obtain ⟨k, rfl⟩ : ∃ k : Nat, r = (k : Int) := ⟨r.toNat, by omega⟩
      rw [List.length_map] at r1
      have hk : k < xs.length := by omega
      have e18 := b8 _ _ nf e1
      have eD8 := b8 _ _ nD eD
      refine ⟨lf, _, _, k, .int xs[k], rfl, rfl, e18, by omega, by omega, seqIx (by rw [List.length_map]; exact hk), by rw [List.getElem?_map, List.getElem?_eq_getElem hk]; rfl, ys.map V.int, by rw [upd_ne nDf]; exact eD8, by rw [List.length_map]; exact Nat.lt_of_lt_of_le (show ys.length < 1000 by omega) (by decide), ?_⟩
      refine ⟨xs.eraseIdx k, ys ++ [xs[k]], ?_, ?_, ?_, by rw [List.length_append, ly]; rfl, ?_, ?_⟩
      · rw [upd_ne nDf.symm, erase_ints]
        exact upd_same
      · rw [List.map_append]
        exact upd_same
      · refine List.Perm.trans ?_ pm
        rw [List.append_assoc]
        exact (perm_pop hk).append_left ys
      · exact ((b7.trans b8).mut (bB.free nf hlf)).mut (b6.free nD hD)
      · exact ((dr8.upd nf).upd nD).mono (by omega)
    rintro H7 ⟨xs, ys, e1, eD, pm, ly, b7, dr7⟩
    have lsum := pm.length_eq
    rw [List.length_append, ly] at lsum
    obtain rfl : xs = [] := List.length_eq_zero_iff.mp (by omega)
    rw [List.append_nil] at pm
    refine q H7 D ys (b6.free nD hD) nD eD (by omega) (fun z h => ?_) (pm.symm.nodup hnd) b7 (dr7.mono (by omega))
    have := hz z (pm.mem_iff.mp h)
    omega
def spMatch : Sp := fun vs H Q _ => ∃ (d : Addr) (n : Nat), vs = [.ref d] ∧ Dr PM d n H ∧ n ≤ 100000 ∧ ∀ (H' : Hp) (m : Int), 0 ≤ m → m ≤ 10 ^ 40 → But d H H' → Dr PM d (n + 3) H' → Q (.int m) H'
theorem ok_match (T : Tx K mg) : FnOk P w K mg base CX0 2 T.A_match T.fd_match ["_law_source"] (spMatch) := by
  refine T.F_match.ok sc_match (fun vs H Q E h => ?_) (fun cdv A outer s H vs Q E hr h => ?_)
  · obtain ⟨d, n, rfl, dr, hn, q⟩ := h
    rfl
  obtain ⟨d, n, rfl, dr, hn, q⟩ := h
  refine ⟨_, (pss_one (ps_ret (pe_ix ix_list (pe_lst (pa_cons pe_int (pa_cons (pe_call (ok_draw T) (hr.mono (by decide)) (by rfl) T.g_draw T.F_draw.kp T.b_draw .nil pass0 (pa_cons (pv 0) (pa_cons pe_int pa_nil))) (pa_cons (pe_call (ok_draw T) (hr.mono (by decide)) (by rfl) T.g_draw T.F_draw.kp T.b_draw .nil pass0 (pa_cons (pv 0) (pa_cons pe_int pa_nil))) (pa_cons (pe_op op_pow pe_int pe_int) (pa_cons (pe_op op_pow pe_int pe_int) pa_nil)))))) (pe_call (ok_draw T) (hr.mono (by decide)) (by rfl) T.g_draw T.F_draw.kp T.b_draw .nil pass0 (pa_cons (pv 0) (pa_cons pe_int pa_nil))) (fun _ _ => rfl)))), ?_⟩
  refine ⟨_, rfl, d, 4, n, rfl, by decide, log_tiny (by decide) (by decide), dr, by omega, fun H1 a a0 a1 b1 dr1 => ?_⟩
  refine ⟨_, rfl, d, 12, _, rfl, by decide, log_tiny (by decide) (by decide), dr1, by omega, fun H2 b c0 c1 b2 dr2 => ?_⟩
  refine ⟨_, _, rfl, rfl, ⟨by decide, by decide, by decide⟩, _, _, rfl, rfl, ⟨by decide, by decide, by decide⟩, (by show 5 ≤ sizeLine; decide), fun l hl => ?_⟩
  have nl := dr2.ne hl
  refine ⟨_, rfl, d, 5, _, rfl, by decide, log_tiny (by decide) (by decide), dr2.upd nl, by omega, fun H3 r r0 r1 b3 dr3 => ?_⟩
  have b13 := (b1.trans b2).trans ((But.new hl).trans b3)
  have eL := b3 _ _ nl upd_same
  rcases (by omega : r = 0 ∨ r = 1 ∨ r = 2 ∨ r = 3 ∨ r = 4) with rfl | rfl | rfl | rfl | rfl
  · exact ⟨l, _, _, _, rfl, rfl, SqL.of eL, atI_nat (j := 0) rfl, q H3 _ (by decide) (by decide) b13 dr3⟩
  · exact ⟨l, _, _, _, rfl, rfl, SqL.of eL, atI_nat (j := 1) rfl, q H3 _ a0 (Int.le_trans (show a ≤ 100 by omega) (by decide)) b13 dr3⟩
  · exact ⟨l, _, _, _, rfl, rfl, SqL.of eL, atI_nat (j := 2) rfl, q H3 _ c0 (Int.le_trans (show b ≤ 100 by omega) (by decide)) b13 dr3⟩
  · exact ⟨l, _, _, _, rfl, rfl, SqL.of eL, atI_nat (j := 3) rfl, q H3 _ (by decide) (by decide) b13 dr3⟩
  · exact ⟨l, _, _, _, rfl, rfl, SqL.of eL, atI_nat (j := 4) rfl, q H3 _ (by decide) (by decide) b13 dr3⟩
end
end KB
namespace KB
open PySem PySem.Spec PyProof.Rows L2 KA

section
variable {P : Program} {w : World} {K : PySem.W.Frag} {mg : Str → Option Value} {base : Heap}
/-- the beads of a list -/
def BdL (C : Addr) (H : Hp) (xs : List V) (rs : List Rw) : Prop := xs.length = rs.length ∧ ∀ (i : Nat) r, rs[i]? = some r → ∃ p, xs[i]? = some (.ref p) ∧ BeadAt C H p r
theorem BeadAt.nl {C : Addr} {H H' : Hp} {p : Addr} {r : Rw} (h : BeadAt C H p r) (s : NL H H') : BeadAt C H' p r := by
  obtain ⟨dx, h⟩ := h
  exact ⟨dx, s _ _ (fun xs z => by cases z) h⟩
theorem BdL.nl {C : Addr} {H H' : Hp} {xs : List V} {rs : List Rw} (h : BdL C H xs rs) (s : NL H H') : BdL C H' xs rs := ⟨h.1, fun i r hr => by
  obtain ⟨p, h1, h2⟩ := h.2 i r hr
  exact ⟨p, h1, h2.nl s⟩⟩
theorem BdL.snoc {C : Addr} {H : Hp} {xs : List V} {rs : List Rw} {p : Addr} {r : Rw} (h : BdL C H xs rs) (hp : BeadAt C H p r) : BdL C H (xs ++ [.ref p]) (rs ++ [r]) := by
  refine ⟨by rw [List.length_append, List.length_append, h.1]; rfl, fun i z hz => ?_⟩
  by_cases hi : i < rs.length
  · rw [List.getElem?_append_left hi] at hz
    obtain ⟨p', h1, h2⟩ := h.2 i z hz
    exact ⟨p', by rw [List.getElem?_append_left (by rw [h.1]; exact hi)]; exact h1, h2⟩
  · rw [List.getElem?_append_right (by omega)] at hz
    have hlt := (List.getElem?_eq_some_iff.mp hz).1
    rw [List.length_singleton] at hlt
    have e : i = rs.length := by omega
    subst e
    rw [Nat.sub_self] at hz
    cases hz
    exact ⟨p, by rw [← h.1, List.getElem?_append_right (Nat.le_refl _), Nat.sub_self]; rfl, hp⟩
theorem whl_mk {i lo hi : Int} (h1 : lo ≤ i) (h2 : i ≤ hi) : whl (.int i) lo hi = true := by
  show (decide (lo ≤ i) && decide (i ≤ hi)) = true
  rw [decide_eq_true h1, decide_eq_true h2]
  rfl
theorem nm_round : nm (.str "round") = true := by decide +kernel
theorem made_same {H H1 : Hp} {x dx C : Addr} (nx : H x = none) (ndx : H dx = none) (k : ∀ b o, (upd (upd H dx (.own x)) x (.ins C dx [])) b = some o → b ≠ x → H1 b = some o) : Same H H1 := fun b o e => k b o (by rw [upd_ne (ne_of_none e nx), upd_ne (ne_of_none e ndx)]; exact e) (ne_of_none e nx)
/-- beads of unlike numbers -/
def Unl (rs : List Rw) : Prop := (∀ r ∈ rs, GoodRw r) ∧ (rs.map Rw.num).Nodup
def spLBeads (C : Addr) : Sp := fun vs H Q _ => ∃ (d : Addr) (m : Int) (n : Nat), vs = [.ref d, .int m] ∧ 0 ≤ m ∧ m ≤ 60 ∧ Dr PM d n H ∧ n ≤ 50000 ∧
  ∀ (H' : Hp) (l : Addr) (xs : List V) (rs : List Rw), H l = none → l ≠ d → H' l = some (.lst xs) → BdL C H' xs rs → rs.length = m.toNat → Unl rs → But d H H' → Dr PM d (n + 2000) H' → Q (.ref l) H'
theorem ok_beads (T : Tx K mg) : FnOk P w K mg base CX0 6 T.A_beads T.fd_beads ["_law_source", "_law_many"] (spLBeads T.C_Bead) := by
  refine T.F_beads.ok sc_beads (fun vs H Q E h => ?_) (fun cdv A outer s H vs Q E hr h => ?_)
  · obtain ⟨d, m, n, rfl, hm0, hm1, dr, hn, q⟩ := h
    rfl
  obtain ⟨d, m, n, rfl, hm0, hm1, dr, hn, q⟩ := h
  refine ⟨_, (pss_cons (ps_set (i := 2) sc_beads.nd rfl (Or.inl rfl) (pe_call (ok_names T) (hr.mono (by decide)) (by rfl) T.g_names T.F_names.kp T.b_names .nil pass0 (pa_cons (pv 0) (pa_cons (pe_op op_add pe_int (pe_call (ok_draw T) (hr.mono (by decide)) (by rfl) T.g_draw T.F_draw.kp T.b_draw .nil pass0 (pa_cons (pv 0) (pa_cons pe_int pa_nil)))) pa_nil))))
      (pss_cons (ps_set (i := 3) sc_beads.nd rfl (Or.inl rfl) (pe_op op_cat (pe_lst (pa_cons pe_str pa_nil)) (pe_call (ok_names T) (hr.mono (by decide)) (by rfl) T.g_names T.F_names.kp T.b_names .nil pass0 (pa_cons (pv 0) (pa_cons (pe_call (ok_draw T) (hr.mono (by decide)) (by rfl) T.g_draw T.F_draw.kp T.b_draw .nil pass0 (pa_cons (pv 0) (pa_cons pe_int pa_nil))) pa_nil)))))
      (pss_cons (ps_set (i := 4) sc_beads.nd rfl (Or.inl rfl) (pe_ix ix_list (pe_lst (pa_cons pe_int (pa_cons (pe_op op_add pe_int (pe_call (ok_draw T) (hr.mono (by decide)) (by rfl) T.g_draw T.F_draw.kp T.b_draw .nil pass0 (pa_cons (pv 0) (pa_cons (pe_op op_sub (pe_op op_pow pe_int pe_int) pe_int) pa_nil)))) (pa_cons pe_int pa_nil)))) (pe_call (ok_draw T) (hr.mono (by decide)) (by rfl) T.g_draw T.F_draw.kp T.b_draw .nil pass0 (pa_cons (pv 0) (pa_cons pe_int pa_nil))) (fun _ _ => rfl)))
      (pss_cons (ps_set (i := 5) sc_beads.nd rfl (Or.inl rfl) (pe_ix ix_list (pe_lst (pa_cons pe_int (pa_cons pe_int (pa_cons pe_int (pa_cons pe_int pa_nil))))) (pe_call (ok_draw T) (hr.mono (by decide)) (by rfl) T.g_draw T.F_draw.kp T.b_draw .nil pass0 (pa_cons (pv 0) (pa_cons pe_int pa_nil))) (fun _ _ => rfl)))
      (pss_cons (ps_set (i := 6) sc_beads.nd rfl (Or.inl rfl) (pe_lst pa_nil))
      (pss_cons (ps_for PassesOwn.never rfl (pi_list (pe_call (ok_numbers T) (hr.mono (by decide)) (by rfl) T.g_numbers T.F_numbers.kp T.b_numbers .nil pass0 (pa_cons (pv 0) (pa_cons (pv 1) pa_nil)))) (pg_name (i := 7) sc_beads.nd rfl (Or.inl rfl))
        (pss_cons (ps_set (i := 8) sc_beads.nd rfl (Or.inl rfl) (pe_op op_add (pv 4) (pe_call (ok_draw T) (hr.mono (by decide)) (by rfl) T.g_draw T.F_draw.kp T.b_draw .nil pass0 (pa_cons (pv 0) (pa_cons (pv 5) pa_nil)))))
      (pss_cutJ (ps_if (pt_cmpR op_eq (pe_call (ok_draw T) (hr.mono (by decide)) (by rfl) T.g_draw T.F_draw.kp T.b_draw .nil pass0 (pa_cons (pv 0) (pa_cons pe_int pa_nil))) pe_int (nomark _)) (pss_one (ps_set (i := 8) sc_beads.nd rfl (Or.inl rfl) (pe_op op_add pe_int (pe_call (ok_draw T) (hr.mono (by decide)) (by rfl) T.g_draw T.F_draw.kp T.b_draw .nil pass0 (pa_cons (pv 0) (pa_cons (pe_op op_pow pe_int pe_int) pa_nil)))))) pss_nil)
      (pss_cons (ps_set (i := 9) sc_beads.nd rfl (Or.inl rfl) (pe_op op_add pe_int (pe_call (ok_draw T) (hr.mono (by decide)) (by rfl) T.g_draw T.F_draw.kp T.b_draw .nil pass0 (pa_cons (pv 0) (pa_cons (pe_ix ix_list (pe_lst (pa_cons pe_int (pa_cons (pe_op op_pow pe_int pe_int) pa_nil))) (pe_call (ok_draw T) (hr.mono (by decide)) (by rfl) T.g_draw T.F_draw.kp T.b_draw .nil pass0 (pa_cons (pv 0) (pa_cons pe_int pa_nil))) (fun _ _ => rfl)) pa_nil)))))
      (pss_cons (ps_set (i := 10) sc_beads.nd rfl (Or.inl rfl) (pe_tup (pa_cons (pe_call (ok_one T) (hr.mono (by decide)) (by rfl) T.g_one T.F_one.kp T.b_one .nil pass0 (pa_cons (pv 0) (pa_cons (pv 2) pa_nil))) (pa_cons (pe_call (ok_one T) (hr.mono (by decide)) (by rfl) T.g_one T.F_one.kp T.b_one .nil pass0 (pa_cons (pv 0) (pa_cons (pv 3) pa_nil))) (pa_cons (pe_cmpR op_eq (pe_call (ok_draw T) (hr.mono (by decide)) (by rfl) T.g_draw T.F_draw.kp T.b_draw .nil pass0 (pa_cons (pv 0) (pa_cons pe_int pa_nil))) pe_int (nomark _)) pa_nil)))))
      (pss_one (ps_expr (pe_bm PySem.F.plainAttrs_list PySem.F.slot_list_append PySem.F.type_list_append mt_append (pv 6) (pa_cons (pe_make T.mk_Bead (ok_Bead_init T) (hr.mono (by decide)) (by rfl) T.g_Bead T.b_Bead_init .nil pass0 (pa_cons (pv 7) (pa_cons (pv 8) (pa_cons (pv 9) (pa_cons (pe_ix ix_tup (pv 10) pe_int (fun _ _ => rfl)) (pa_cons (pe_ix ix_tup (pv 10) pe_int (fun _ _ => rfl)) (pa_cons (pe_ix ix_tup (pv 10) pe_int (fun _ _ => rfl)) pa_nil))))))) pa_nil)))))))))
      (pss_one (ps_ret (pv 6))))))))), ?_⟩
  have e6 : (10 : Int) ^ (6 : Int).toNat = 1000000 := by decide
  refine ⟨_, rfl, _, rfl, d, 3, n, rfl, by decide, log_tiny (by decide) (by decide), dr, by omega, fun H1 a a0 a1 b1 dr1 => ⟨_, _, rfl, rfl, ?_⟩⟩
  refine ⟨d, _, _, rfl, by omega, by omega, dr1, by omega, fun H2 sl zs hsl nsl esl lzs nzs uzs b2 dr2 => ?_⟩
  refine ⟨(by show 1 ≤ sizeLine; decide), fun l3 hl3 => ?_⟩
  have n3 := dr2.ne hl3
  refine ⟨_, rfl, _, rfl, d, 3, _, rfl, by decide, log_tiny (by decide) (by decide), dr2.upd n3, by omega, fun H4 c c0 c1 b4 dr4 => ?_⟩
  refine ⟨d, _, _, rfl, by omega, by omega, dr4, by omega, fun H5 fl fs hfl nfl efl lfs nfs ufs b5 dr5 => ?_⟩
  have el3 : H5 l3 = some (.lst [.str "round"]) := b5 _ _ n3 (b4 _ _ n3 upd_same)
  refine ⟨l3, fl, _, _, rfl, rfl, el3, efl, Nat.le_trans (show [V.str "round"].length + (fs.map V.str).length ≤ 100 by rw [List.length_map, List.length_singleton]; omega) (by decide), fun l6 hl6 => ?_⟩
  have n6 := dr5.ne hl6
  have z6 := same_upd hl6 (o := .lst ([V.str "round"] ++ fs.map V.str))
  have b26 : But d H2 (upd H5 l6 (.lst ([V.str "round"] ++ fs.map V.str))) := ((But.new hl3).trans b4).trans (b5.trans (But.of z6))
  have b06 := (b1.trans b2).trans b26
  have esl6 := b26 _ _ nsl esl
  have efl6 : (upd H5 l6 (.lst ([V.str "round"] ++ fs.map V.str))) l6 = some (.lst ([V.str "round"] ++ fs.map V.str)) := upd_same
  have dr6 := dr5.same z6
  revert b06 esl6 efl6 dr6
  generalize upd H5 l6 (.lst ([V.str "round"] ++ fs.map V.str)) = H6
  intro b06 esl6 efl6 dr6
  refine ⟨_, rfl, _, _, rfl, rfl, ⟨by decide, by decide, by decide⟩, _, _, rfl, rfl, d, _, _, rfl, by rw [e6]; decide, log_tiny (by rw [e6]; decide) (by rw [e6]; decide), dr6, by omega, fun H7 e e0 e1 b7 dr7 => ⟨_, _, rfl, rfl, ?_⟩⟩
  refine ⟨(by show 3 ≤ sizeLine; decide), fun l8 hl8 => ?_⟩
  have n8 := dr7.ne hl8
  refine ⟨_, rfl, d, 3, _, rfl, by decide, log_tiny (by decide) (by decide), dr7.upd n8, by omega, fun H9 r9 r90 r91 b9 dr9 => ?_⟩
  obtain ⟨bs, hbs, hbsv⟩ := at3i (a := 1) (b := 1 + e) (c := 999940) r90 r91
  have hb0 : 1 ≤ bs ∧ bs ≤ 999940 := by
    rw [e6] at e1
    rcases hbsv with rfl | rfl | rfl <;> omega
  refine ⟨l8, _, _, _, rfl, rfl, SqL.of (b9 _ _ n8 upd_same), hbs, ?_⟩
  refine ⟨(by show 4 ≤ sizeLine; decide), fun l10 hl10 => ?_⟩
  have n10 := dr9.ne hl10
  refine ⟨_, rfl, d, 4, _, rfl, by decide, log_tiny (by decide) (by decide), dr9.upd n10, by omega, fun H11 r11 r110 r111 b11 dr11 => ?_⟩
  obtain ⟨wd, hwd, hw0⟩ : ∃ v, atI [V.int 1, V.int 4, V.int 12, V.int 60] r11 = some (.int v) ∧ 0 < v ∧ v ≤ 60 := by
    rcases (by omega : r11 = 0 ∨ r11 = 1 ∨ r11 = 2 ∨ r11 = 3) with rfl | rfl | rfl | rfl
    · exact ⟨1, rfl, by decide, by decide⟩
    · exact ⟨4, rfl, by decide, by decide⟩
    · exact ⟨12, rfl, by decide, by decide⟩
    · exact ⟨60, rfl, by decide, by decide⟩
  refine ⟨l10, _, _, _, rfl, rfl, SqL.of (b11 _ _ n10 upd_same), hwd, ?_⟩
  have b611 : But d H6 H11 := (b7.trans ((But.new hl8).trans b9)).trans ((But.new hl10).trans b11)
  have b011 := b06.trans b611
  have esl11 := b611 _ _ nsl esl6
  have efl11 := b611 _ _ n6 efl6
  refine ⟨Nat.zero_le _, fun fo hfo => ?_⟩
  have nfo := dr11.ne hfo
  have b012 := b011.trans (But.new hfo (o := .lst []))
  have zfo := same_upd hfo (o := .lst [])
  refine ⟨_, rfl, _, rfl, d, m, _, rfl, hm0, hm1, dr11.upd nfo, by omega, fun H13 nl ns hnl nnl enl lns hns uns b13 dr13 => ?_⟩
  have nof : nl ≠ fo := (ne_of_none upd_same hnl).symm
  have efo13 := b13 _ _ nfo upd_same
  have b013 := b012.trans b13
  have esl13 := b13 _ _ nsl (zfo _ _ esl11)
  have efl13 := b13 _ _ n6 (zfo _ _ efl11)
  have nsf : sl ≠ fo := ne_of_none esl11 hfo
  have nff : l6 ≠ fo := ne_of_none efl11 hfo
  have nfoH : H fo = none := b011.free nfo hfo
  refine ⟨nl, rfl, ⟨_, SqL.of enl⟩, for_list (K := K) (a := nl) (xs := ns.map V.int) (fun i σ H' => ∃ (w7 w8 w9 w10 : Option V) (xs : List V) (rs : List Rw), σ = [some (.ref d), some (.int m), some (.ref sl), some (.ref l6), some (.int bs), some (.int wd), some (.ref fo), w7, w8, w9, w10] ∧ H' fo = some (.lst xs) ∧ BdL T.C_Bead H' xs rs ∧ rs.map Rw.num = ns.take i ∧ (∀ r ∈ rs, GoodRw r) ∧ (∀ b o, b ≠ d → b ≠ fo → H13 b = some o → H' b = some o) ∧ But d H H' ∧ Dr PM d (n + 450 + 10 * i) H') ⟨_, _, _, _, [], [], rfl, efo13, ⟨rfl, fun i r h => by simp at h⟩, by rw [List.take_zero]; rfl, (fun r h => nomatch h), (fun _ _ _ _ h => h), b013, dr13.mono (by omega)⟩ (fun i σ H' _ h => ?_) ?_ ?_⟩
  · obtain ⟨_, _, _, _, _, _, _, _, _, _, _, k, _⟩ := h
    exact SqL.of (k _ _ nnl nof enl)
  · rintro i x σ H14 hi ⟨w7, w8, w9, w10, xs, rs, rfl, efo, hX, hnum, hG, kp, b14, dr14⟩
    have hin : i < ns.length := by
      have := (List.getElem?_eq_some_iff.mp hi).1
      rwa [List.length_map] at this
    rw [List.getElem?_map, List.getElem?_eq_getElem hin] at hi
    cases hi
    have hnb := hns _ (List.getElem_mem hin)
    have hni : ns[i]? = some ns[i] := List.getElem?_eq_getElem hin
    generalize ns[i] = nu at hnb hni
    refine ⟨_, rfl, _, rfl, _, rfl, d, wd, _, rfl, hw0.1, log_tiny hw0.1 (by omega), dr14, by omega, fun H15 v v0 v1 b15 dr15 => ⟨_, _, rfl, rfl, ?_⟩⟩
    refine ⟨fun σ' H' => ∃ ac : Int, σ' = [some (.ref d), some (.int m), some (.ref sl), some (.ref l6), some (.int bs), some (.int wd), some (.ref fo), some (.int nu), some (.int ac), w9, w10] ∧ 1 ≤ ac ∧ ac ≤ 1000000 ∧ But d H14 H' ∧ Dr PM d (n + 450 + 10 * i + 3) H', ?_, ?_⟩
    · refine ⟨_, rfl, d, 12, _, rfl, by decide, log_tiny (by decide) (by decide), dr15, by omega, fun H16 u u0 u1 b16 dr16 => ⟨rfl, _, rfl, ite2 (fun ee => ?_) (fun ee => ?_)⟩⟩
      · refine ⟨_, rfl, _, _, rfl, rfl, ⟨by decide, by decide, by decide⟩, d, _, _, rfl, by rw [e6]; decide, log_tiny (by rw [e6]; decide) (by rw [e6]; decide), dr16, by omega, fun H17 y y0 y1 b17 dr17 => ⟨_, _, rfl, rfl, ?_⟩⟩
        rw [e6] at y1
        exact ⟨1 + y, rfl, by omega, by omega, (b15.trans b16).trans b17, dr17⟩
      · exact ⟨bs + v, rfl, by omega, by omega, b15.trans b16, dr16.mono (by omega)⟩
    rintro σ' H16 ⟨ac, rfl, ac0, ac1, b16, dr16⟩
    refine ⟨_, rfl, _, _, rfl, rfl, ⟨by decide, by decide, by decide⟩, (by show 2 ≤ sizeLine; decide), fun l17 hl17 => ?_⟩
    have n17 := dr16.ne hl17
    refine ⟨_, rfl, d, 2, _, rfl, by decide, log_tiny (by decide) (by decide), dr16.upd n17, by omega, fun H18 r18 r180 r181 b18 dr18 => ?_⟩
    obtain ⟨wm, hwm, wmv⟩ := at2i (a := 9) (b := (10 : Int) ^ (6 : Int).toNat) r180 r181
    have hwm0 : 0 < wm ∧ wm ≤ 1000000 := by
      rw [e6] at wmv
      rcases wmv with rfl | rfl <;> omega
    refine ⟨l17, _, _, _, rfl, rfl, SqL.of (b18 _ _ n17 upd_same), hwm, ?_⟩
    refine ⟨d, wm, _, rfl, hwm0.1, log_tiny hwm0.1 (by omega), dr18, by omega, fun H19 we we0 we1 b19 dr19 => ⟨_, _, rfl, rfl, ?_⟩⟩
    have b1419 : But d H14 H19 := (b16.trans ((But.new hl17).trans b18)).trans b19
    have esl19 := b1419 _ _ nsl (kp _ _ nsl nsf esl13)
    have efl19 := b1419 _ _ n6 (kp _ _ n6 nff efl13)
    refine ⟨_, rfl, _, rfl, d, sl, _, zs.map V.str, rfl, nsl, SqL.of esl19, (fun e => by
      have := congrArg List.length e
      rw [List.length_map, lzs] at this
      simp at this
      omega), by rw [List.length_map]; omega, dr19, by omega, fun H20 v20 hv20 b20 dr20 => ?_⟩
    obtain ⟨sh, hsh, rfl⟩ := List.mem_map.mp hv20
    refine ⟨_, rfl, _, rfl, d, l6, _, [V.str "round"] ++ fs.map V.str, rfl, n6, SqL.of (b20 _ _ n6 efl19), (by simp), by rw [List.length_append, List.length_map, List.length_singleton]; omega, dr20, by omega, fun H21 v21 hv21 b21 dr21 => ?_⟩
    obtain ⟨fm, hfm, rfl⟩ : ∃ z, nm (.str z) = true ∧ v21 = .str z := by
      rcases List.mem_append.mp hv21 with h | h
      · exact ⟨"round", nm_round, List.mem_singleton.mp h⟩
      · obtain ⟨z, hz, rfl⟩ := List.mem_map.mp h
        exact ⟨z, nfs z hz, rfl⟩
    refine ⟨_, rfl, d, 3, _, rfl, by decide, log_tiny (by decide) (by decide), dr21, by omega, fun H22 r22 r220 r221 b22 dr22 => ⟨rfl, (by show 3 ≤ sizeLine; decide), fun t ht => ?_⟩⟩
    have zt := same_upd ht (o := .tup [V.str sh, .str fm, .bl (decide (V.int r22 = V.int 0))])
    have bAll := (b1419.trans (b20.trans b21)).trans (b22.trans (But.of zt))
    have drA := dr22.same zt
    have et : (upd H22 t (.tup [V.str sh, .str fm, .bl (decide (V.int r22 = V.int 0))])) t = some (.tup [V.str sh, .str fm, .bl (decide (V.int r22 = V.int 0))]) := upd_same
    revert bAll drA et
    generalize upd H22 t (.tup [V.str sh, .str fm, .bl (decide (V.int r22 = V.int 0))]) = HA
    generalize decide (V.int r22 = V.int 0) = bo
    intro bAll drA et
    have efoA := bAll _ _ nfo efo
    refine ⟨_, rfl, .inl ⟨rfl, _, SqL.of efoA⟩, _, rfl, _, rfl, _, rfl, ?_⟩
    refine ⟨_, rfl, t, _, _, _, rfl, rfl, .inl (.inl et), atI_nat (j := 0) rfl, _, rfl, t, _, _, _, rfl, rfl, .inl (.inl et), atI_nat (j := 1) rfl, _, rfl, t, _, _, _, rfl, rfl, .inl (.inl et), atI_nat (j := 2) rfl, fun p dx np ndx ne => ?_⟩
    have gr : GoodRw ⟨nu, ac, 1 + we, sh, fm, bo⟩ := ⟨whl_mk hnb.1 hnb.2, whl_mk ac0 ac1, whl_mk (by show 1 ≤ 1 + we; omega) (by show 1 + we ≤ 1000000; omega), nzs sh hsh, hfm⟩
    refine ⟨p, dx, ⟨nu, ac, 1 + we, sh, fm, bo⟩, rfl, upd_same, gr, fun H' hB k => ⟨rfl, ?_⟩⟩
    have zm := made_same np ndx k
    have efoB := zm _ _ efoA
    have nB := NL.at_ efoB (o := .lst (xs ++ [.ref p]))
    have hxl := hX.1
    have hrl : rs.length ≤ 60 := by
      have := congrArg List.length hnum
      rw [List.length_map, List.length_take] at this
      omega
    refine ⟨fo, xs, _, rfl, rfl, efoB, Nat.lt_of_le_of_lt (show xs.length ≤ 100 by omega) (by decide), ?_⟩
    refine ⟨_, _, _, _, xs ++ [.ref p], rs ++ [⟨nu, ac, 1 + we, sh, fm, bo⟩], rfl, upd_same, ((hX.nl (((dr_nl dr14 bAll).trans (NL.of zm)))).snoc hB).nl nB, ?_, fun r hr => ?_, fun b o n1 n2 e => ?_, ?_, ?_⟩
    · rw [List.map_append, hnum, List.take_add_one, hni]
      rfl
    · rcases List.mem_append.mp hr with h | h
      · exact hG r h
      · rw [List.mem_singleton.mp h]
        exact gr
    · rw [upd_ne n2]
      exact zm _ _ (bAll _ _ n1 (kp b o n1 n2 e))
    · exact (b14.trans (bAll.trans (But.of zm))).mut nfoH
    · exact ((drA.same zm).upd nfo).mono (by omega)
  · rintro σ H14 ⟨w7, w8, w9, w10, xs, rs, rfl, efo, hX, hnum, hG, kp, b14, dr14⟩
    rw [List.take_of_length_le (by rw [List.length_map]; exact Nat.le_refl _)] at hnum
    have hl : rs.length = ns.length := by rw [← hnum, List.length_map]
    exact ⟨_, rfl, q H14 fo xs rs nfoH nfo efo hX (by omega) ⟨hG, by rw [hnum]; exact uns⟩ b14 (dr14.mono (by rw [List.length_map]; omega))⟩
end
end KB
namespace KB
open PySem PySem.Spec PyProof.Rows L2 KA

section
variable {P : Program} {w : World} {K : PySem.W.Frag} {mg : Str → Option Value} {base : Heap}
theorem num_inj {rs : List Rw} (u : (rs.map Rw.num).Nodup) {a b : Rw} (ha : a ∈ rs) (hb : b ∈ rs) (e : a.num = b.num) : a = b := by
  induction rs with
  | nil => cases ha
  | cons r rs ih =>
    rw [List.map_cons, List.nodup_cons] at u
    rcases List.mem_cons.mp ha with rfl | ha
    · rcases List.mem_cons.mp hb with rfl | hb
      · rfl
      · exact absurd (by rw [e]; exact List.mem_map_of_mem hb) u.1
    · rcases List.mem_cons.mp hb with hb | hb
      · exact absurd (by rw [← hb, ← e]; exact List.mem_map_of_mem ha) u.1
      · exact ih u.2 ha hb
/-! beads in chains -/
def look (r p : Rw) : Bool := decide (r.sh = p.sh) && (decide (r.fo = p.fo) && decide (r.dr = p.dr))
def gap (a b : Rw) : Int := if a.ac - b.ac < 0 then -(a.ac - b.ac) else a.ac - b.ac
def PB (m : Int) (a b : Rw) : Bool := look a b && decide (gap a b ≤ m)
theorem look_iff {a b : Rw} : look a b = true ↔ a.sh = b.sh ∧ a.fo = b.fo ∧ a.dr = b.dr := by
  unfold look
  simp only [Bool.and_eq_true, decide_eq_true_eq]
theorem pb_iff {m : Int} {a b : Rw} : PB m a b = true ↔ (a.sh = b.sh ∧ a.fo = b.fo ∧ a.dr = b.dr) ∧ a.ac - b.ac ≤ m ∧ b.ac - a.ac ≤ m := by
  unfold PB
  rw [Bool.and_eq_true, look_iff, decide_eq_true_eq]
  unfold gap
  split <;> constructor <;> rintro ⟨h1, h2⟩ <;> refine ⟨h1, ?_⟩ <;> omega
theorem pb_sym (m : Int) (a b : Rw) : PB m a b = PB m b a := by
  rw [Bool.eq_iff_iff, pb_iff, pb_iff]
  constructor
  · rintro ⟨⟨h1, h2, h3⟩, h4, h5⟩
    exact ⟨⟨h1.symm, h2.symm, h3.symm⟩, h5, h4⟩
  · rintro ⟨⟨h1, h2, h3⟩, h4, h5⟩
    exact ⟨⟨h1.symm, h2.symm, h3.symm⟩, h5, h4⟩
theorem pb_mono {m m' : Int} (h : m ≤ m') {a b : Rw} (p : PB m a b = true) : PB m' a b = true := by
  rw [pb_iff] at p ⊢
  exact ⟨p.1, by omega, by omega⟩
def keyC (r : Rw) : PyData := .tuple [.str r.sh, .str r.fo, .bool r.dr, .int r.ac, .int r.num]
def leC (a b : Rw) : Prop := PySem.W.dataLe false keyC a b = true
noncomputable def srtC (rs : List Rw) : List Rw := rs.mergeSort (PySem.W.dataLe false keyC)
def lk3 (r : Rw) : List (Int ⊕ List Nat) := [.inl 1, .inr r.sh.cps.toList, .inl 1, .inr r.fo.cps.toList, .inl 1, .inl (if r.dr = true then 1 else 0)]
def tlC (r : Rw) : List (Int ⊕ List Nat) := [.inl 1, .inl r.ac, .inl 1, .inl r.num, .inl 0]
theorem toks_C (r : Rw) : PySem.W.keyToks (keyC r) = lk3 r ++ tlC r := by
  simp [keyC, lk3, tlC, PySem.W.keyToks, PySem.W.keyToksAll]
theorem leC_iff {a b : Rw} : leC a b ↔ PyProof.Rows.lexLt PyProof.Rows.itemOrd (lk3 b ++ tlC b) (lk3 a ++ tlC a) = false := by
  show (!PyProof.Rows.lexLt PyProof.Rows.itemOrd (PySem.W.keyToks (keyC b)) (PySem.W.keyToks (keyC a))) = true ↔ _
  rw [toks_C, toks_C, Bool.not_eq_true']
theorem leC_trans (a b c : Rw) (h1 : PySem.W.dataLe false keyC a b = true) (h2 : PySem.W.dataLe false keyC b c = true) : PySem.W.dataLe false keyC a c = true := by
  have h1 := leC_iff.mp h1
  have h2 := leC_iff.mp h2
  refine leC_iff.mpr ?_
  cases e : PyProof.Rows.lexLt PyProof.Rows.itemOrd (lk3 c ++ tlC c) (lk3 a ++ tlC a) with
  | false => rfl
  | true =>
    rcases PyProof.Rows.lex_negTrans (O := PyProof.Rows.itemOrd) _ (lk3 b ++ tlC b) _ e with h | h
    · exact absurd (h2.symm.trans h) Bool.false_ne_true
    · exact absurd (h1.symm.trans h) Bool.false_ne_true
theorem leC_total (a b : Rw) : (PySem.W.dataLe false keyC a b || PySem.W.dataLe false keyC b a) = true := by
  rw [Bool.or_eq_true]
  by_cases h : PySem.W.dataLe false keyC a b = true
  · exact .inl h
  · right
    refine leC_iff.mpr ?_
    cases e : PyProof.Rows.lexLt PyProof.Rows.itemOrd (lk3 a ++ tlC a) (lk3 b ++ tlC b) with
    | false => rfl
    | true =>
      refine absurd (leC_iff.mpr ?_) h
      cases e2 : PyProof.Rows.lexLt PyProof.Rows.itemOrd (lk3 b ++ tlC b) (lk3 a ++ tlC a) with
      | false => rfl
      | true =>
        have := PyProof.Rows.lex_trans (O := PyProof.Rows.itemOrd) _ _ _ e e2
        have i := PyProof.Rows.lex_irrefl (O := PyProof.Rows.itemOrd) (lk3 a ++ tlC a)
        exact absurd (i.symm.trans this) Bool.false_ne_true
theorem srtC_sorted (rs : List Rw) : (srtC rs).Pairwise leC := List.pairwise_mergeSort leC_trans leC_total rs
theorem srtC_perm (rs : List Rw) : (srtC rs).Perm rs := List.mergeSort_perm _ _
theorem lexApp : ∀ {p q : List (Int ⊕ List Nat)} {x y x' y' : List (Int ⊕ List Nat)}, p.length = q.length → p ≠ q → PyProof.Rows.lexLt PyProof.Rows.itemOrd (p ++ x) (q ++ y) = PyProof.Rows.lexLt PyProof.Rows.itemOrd (p ++ x') (q ++ y')
  | [], [], _, _, _, _, _, n => absurd rfl n
  | [], _ :: _, _, _, _, _, l, _ => by simp at l
  | _ :: _, [], _, _, _, _, l, _ => by simp at l
  | a :: p, b :: q, x, y, x', y', l, n => by
    by_cases h : a = b
    · subst h
      rw [List.cons_append, List.cons_append, List.cons_append, List.cons_append, lex_self, lex_self]
      exact lexApp (by simpa using l) fun e => n (by rw [e])
    · exact (PySem.W.lex_atom h _ _).trans (PySem.W.lex_atom h _ _).symm
theorem lk3_look {a b : Rw} (h : lk3 a = lk3 b) : a.sh = b.sh ∧ a.fo = b.fo ∧ a.dr = b.dr := by
  unfold lk3 at h
  simp only [List.cons.injEq, Sum.inr.injEq, Sum.inl.injEq, true_and, and_true] at h
  refine ⟨PySem.W.str_of_cps h.1, PySem.W.str_of_cps h.2.1, ?_⟩
  have := h.2.2
  cases ha : a.dr <;> cases hb : b.dr <;> simp [ha, hb] at this ⊢
theorem look_lk3 {a b : Rw} (h : a.sh = b.sh ∧ a.fo = b.fo ∧ a.dr = b.dr) : lk3 a = lk3 b := by
  unfold lk3
  rw [h.1, h.2.1, h.2.2]
theorem leC_ac {a b : Rw} (h : leC a b) (e : lk3 a = lk3 b) : a.ac ≤ b.ac := by
  have h := leC_iff.mp h
  rw [e, PySem.W.lex_pre] at h
  unfold tlC at h
  rw [lex_self] at h
  by_cases c : a.ac ≤ b.ac
  · exact c
  · have ne : (Sum.inl b.ac : Int ⊕ List Nat) ≠ .inl a.ac := fun z => by
      injection z with z
      omega
    rw [PySem.W.lex_atom ne] at h
    have t : PyProof.Rows.lexLt PyProof.Rows.itemOrd [Sum.inl b.ac] [Sum.inl a.ac] = true := by
      rw [show PyProof.Rows.lexLt PyProof.Rows.itemOrd [Sum.inl b.ac] [Sum.inl a.ac] = PyProof.Rows.itemLt (.inl b.ac) (.inl a.ac) from lex_diff (O := PyProof.Rows.itemOrd) ne]
      exact decide_eq_true (by omega)
    exact absurd (h.symm.trans t) Bool.false_ne_true
theorem leC_mid {x y z : Rw} (h1 : leC x y) (h2 : leC y z) (e : lk3 x = lk3 z) : lk3 y = lk3 x := by
  by_cases c : lk3 y = lk3 x
  · exact c
  · have h1 := leC_iff.mp h1
    have h2 := leC_iff.mp h2
    rw [lexApp (p := lk3 y) (q := lk3 x) (x' := []) (y' := []) rfl c, List.append_nil, List.append_nil] at h1
    rw [← e, lexApp (p := lk3 x) (q := lk3 y) (x' := []) (y' := []) rfl (fun z => c z.symm), List.append_nil, List.append_nil] at h2
    exact PyProof.Rows.lex_total (O := PyProof.Rows.itemOrd) _ _ h1 h2
theorem leC_ax1 (m : Int) (x y z : Rw) (h1 : leC x y) (h2 : leC y z) (p : PB m x z = true) : PB m x y = true := by
  rw [pb_iff] at p ⊢
  have e := look_lk3 p.1
  have e2 := leC_mid h1 h2 e
  have a1 := leC_ac h1 e2.symm
  have a2 := leC_ac h2 (e2.trans e)
  exact ⟨lk3_look e2.symm, by omega, by omega⟩
theorem leC_ax2 (m : Int) (x y z w : Rw) (h1 : leC x y) (h2 : leC y z) (h3 : leC y w) (p : PB m x z = true) (q : PB m y w = true) : PB m z w = true := by
  rw [pb_iff] at p q ⊢
  have e := look_lk3 p.1
  have e3 := look_lk3 q.1
  have e2 := leC_mid h1 h2 e
  have a1 := leC_ac h1 e2.symm
  have a2 := leC_ac h2 (e2.trans e)
  have a3 := leC_ac h3 e3
  exact ⟨lk3_look ((e2.trans e).symm.trans e3), by omega, by omega⟩
/-- beads of unlike numbers, however they stand, are put in one order -/
theorem srtC_eq {rs ss : List Rw} (h : rs.Perm ss) (u : (rs.map Rw.num).Nodup) : srtC rs = srtC ss := by
  refine List.Perm.eq_of_pairwise (le := leC) (fun a b ha hb h1 h2 => ?_) (srtC_sorted rs) (srtC_sorted ss) ((srtC_perm rs).trans (h.trans (srtC_perm ss).symm))
  have e := PyProof.Rows.lex_total (O := PyProof.Rows.itemOrd) _ _ (leC_iff.mp h2) (leC_iff.mp h1)
  have e2 : lk3 a = lk3 b := (List.append_inj e rfl).1
  rw [e2] at e
  have e := List.append_cancel_left e
  unfold tlC at e
  simp only [List.cons.injEq, Sum.inl.injEq, true_and, and_true] at e
  have ma : a ∈ rs := (srtC_perm rs).mem_iff.mp ha
  have mb : b ∈ rs := h.mem_iff.mpr ((srtC_perm ss).mem_iff.mp hb)
  exact num_inj u ma mb e.2
end
end KB
namespace KB
open PySem PySem.Spec PyProof.Rows L2 KA

section
variable {P : Program} {w : World} {K : PySem.W.Frag} {mg : Str → Option Value} {base : Heap}
theorem dec_int (a b : Int) : decide (V.int a = V.int b) = decide (a = b) := by
  rw [decide_eq_decide]
  exact ⟨fun e => by injection e, fun e => by rw [e]⟩
theorem dec_str (a b : Str) : decide (V.str a = V.str b) = decide (a = b) := by
  rw [decide_eq_decide]
  exact ⟨fun e => by injection e, fun e => by rw [e]⟩
theorem dec_bl (a b : Bool) : decide (V.bl a = V.bl b) = decide (a = b) := by
  rw [decide_eq_decide]
  exact ⟨fun e => by injection e, fun e => by rw [e]⟩
def spLook (C : Addr) : Sp := fun vs H Q _ => ∃ (p p' : Addr) (r r' : Rw), vs = [.ref p, .ref p'] ∧ BeadAt C H p r ∧ BeadAt C H p' r' ∧ Q (.bl (look r r')) H
theorem ok_same_look (T : Tx K mg) : FnOk P w K mg base CX0 1 T.A_same_look T.fd_same_look ["bead", "other"] (spLook T.C_Bead) := by
  refine T.F_same_look.ok sc_same_look (fun vs H Q E h => ?_) (fun cdv A outer s H vs Q E hr h => ?_)
  · obtain ⟨p, p', r, r', rfl, ⟨dx, hp⟩, ⟨dx', hp'⟩, q⟩ := h
    rfl
  obtain ⟨p, p', r, r', rfl, ⟨dx, hp⟩, ⟨dx', hp'⟩, q⟩ := h
  refine ⟨_, (pss_one (ps_ret (pe_and (pe_cmpR op_eq (pe_fld (pv 0) rfl) (pe_fld (pv 1) rfl) (nomark _)) (pe_and (pe_cmpR op_eq (pe_fld (pv 0) rfl) (pe_fld (pv 1) rfl) (nomark _)) (pe_one (pe_cmpR op_eq (pe_fld (pv 0) rfl) (pe_fld (pv 1) rfl) (nomark _))))))), ?_⟩
  refine ⟨_, rfl, p, _, dx, _, _, rfl, hp, T.cl_Bead, T.n_Bead_shade, bf_shade r, _, rfl, p', _, dx', _, _, rfl, hp', T.cl_Bead, T.n_Bead_shade, bf_shade r', rfl, _, rfl, ?_⟩
  rw [dec_str]
  have e : look r r' = (decide (r.sh = r'.sh) && (decide (r.fo = r'.fo) && decide (r.dr = r'.dr))) := rfl
  by_cases h1 : r.sh = r'.sh
  · rw [decide_eq_true h1, Bool.true_and] at e
    rw [decide_eq_true h1]
    refine iteT ⟨_, rfl, p, _, dx, _, _, rfl, hp, T.cl_Bead, T.n_Bead_form, bf_form r, _, rfl, p', _, dx', _, _, rfl, hp', T.cl_Bead, T.n_Bead_form, bf_form r', rfl, _, rfl, ?_⟩
    rw [dec_str]
    by_cases h2 : r.fo = r'.fo
    · rw [decide_eq_true h2, Bool.true_and] at e
      rw [decide_eq_true h2]
      refine iteT ⟨_, rfl, p, _, dx, _, _, rfl, hp, T.cl_Bead, T.n_Bead_drilled, bf_drilled r, _, rfl, p', _, dx', _, _, rfl, hp', T.cl_Bead, T.n_Bead_drilled, bf_drilled r', rfl, ?_⟩
      rw [dec_bl, ← e]
      exact q
    · rw [decide_eq_false h2] at e ⊢
      rw [e] at q
      exact iteF q
  · rw [decide_eq_false h1] at e ⊢
    rw [e] at q
    exact iteF q
def spPair (C : Addr) : Sp := fun vs H Q _ => ∃ (p p' : Addr) (r r' : Rw) (m : Int), vs = [.ref p, .ref p', .int m] ∧ BeadAt C H p r ∧ BeadAt C H p' r' ∧ Q (.bl (PB m r r')) H
theorem ok_may_pair (T : Tx K mg) : FnOk P w K mg base CX0 2 T.A_may_pair T.fd_may_pair ["bead", "other", "match"] (spPair T.C_Bead) := by
  refine T.F_may_pair.ok sc_may_pair (fun vs H Q E h => ?_) (fun cdv A outer s H vs Q E hr h => ?_)
  · obtain ⟨p, p', r, r', m, rfl, hp, hp', q⟩ := h
    rfl
  obtain ⟨p, p', r, r', m, rfl, hp, hp', q⟩ := h
  refine ⟨_, (pss_one (ps_ret (pe_and (pe_call (ok_same_look T) (hr.mono (by decide)) (by rfl) T.g_same_look T.F_same_look.kp T.b_same_look .nil pass0 (pa_cons (pv 0) (pa_cons (pv 1) pa_nil))) (pe_one (pe_cmpR op_le (pe_callB call_abs (by rfl) T.z_abs (by decide +kernel) (pa_cons (pe_op op_sub (pe_fld (pv 0) rfl) (pe_fld (pv 1) rfl)) pa_nil)) (pv 2) (nomark _)))))), ?_⟩
  obtain ⟨dx, h⟩ := id hp
  obtain ⟨dx', h'⟩ := id hp'
  refine ⟨_, rfl, _, rfl, p, p', r, r', rfl, hp, hp', _, rfl, ?_⟩
  have e : PB m r r' = (look r r' && decide (gap r r' ≤ m)) := rfl
  rw [e] at q
  cases hL : look r r' with
  | false =>
    rw [hL] at q
    exact iteF q
  | true =>
    rw [hL, Bool.true_and] at q
    exact iteT ⟨_, rfl, p, _, dx, _, _, rfl, h, T.cl_Bead, T.n_Bead_across, bf_across r, _, rfl, p', _, dx', _, _, rfl, h', T.cl_Bead, T.n_Bead_across, bf_across r', _, _, rfl, rfl, _, rfl, _, rfl, _, _, rfl, rfl, q⟩
def chVals (r : Rw) : List V := [.str r.sh, .str r.fo, .bl r.dr, .int r.ac, .int r.num]
def spChain (C : Addr) : Sp := fun vs H Q _ => ∃ (p : Addr) (r : Rw), vs = [.ref p] ∧ BeadAt C H p r ∧ ∀ t, H t = none → Q (.ref t) (upd H t (.tup (chVals r)))
theorem ok_chain_key (T : Tx K mg) : FnOk P w K mg base CX0 1 T.A_chain_key T.fd_chain_key ["bead"] (spChain T.C_Bead) := by
  refine T.F_chain_key.ok sc_chain_key (fun vs H Q E h => ?_) (fun cdv A outer s H vs Q E hr h => ?_)
  · obtain ⟨p, r, rfl, ⟨dx, hp⟩, q⟩ := h
    rfl
  obtain ⟨p, r, rfl, ⟨dx, hp⟩, q⟩ := h
  refine ⟨_, (pss_one (ps_ret (pe_tup (pa_cons (pe_fld (pv 0) rfl) (pa_cons (pe_fld (pv 0) rfl) (pa_cons (pe_fld (pv 0) rfl) (pa_cons (pe_fld (pv 0) rfl) (pa_cons (pe_fld (pv 0) rfl) pa_nil)))))))), ?_⟩
  exact ⟨_, rfl, p, _, dx, _, _, rfl, hp, T.cl_Bead, T.n_Bead_shade, bf_shade r, _, rfl, p, _, dx, _, _, rfl, hp, T.cl_Bead, T.n_Bead_form, bf_form r, _, rfl, p, _, dx, _, _, rfl, hp, T.cl_Bead, T.n_Bead_drilled, bf_drilled r, _, rfl, p, _, dx, _, _, rfl, hp, T.cl_Bead, T.n_Bead_across, bf_across r, _, rfl, p, _, dx, _, _, rfl, hp, T.cl_Bead, T.n_Bead_number, bf_number r, (by show 5 ≤ sizeLine; decide), q⟩
def DChain (C : Addr) : V → PyData → Hp → Prop := fun y k H => ∃ (p : Addr) (r : Rw), y = .ref p ∧ BeadAt C H p r ∧ k = keyC r
theorem monChain {C : Addr} : ∀ x k H H', Ext H H' → DChain C x k H → DChain C x k H' := fun x k H H' e d => by
  obtain ⟨p, r, h1, h2, h3⟩ := d
  exact ⟨p, r, h1, h2.nl (NL.of e), h3⟩
theorem impChain (T : Tx K mg) : ∀ y k H, DChain T.C_Bead y k H → spChain T.C_Bead [y] H (fun z H' => Ext H H' ∧ KD K H' z k) E0 := by
  rintro y k H ⟨p, r, rfl, hp, rfl⟩
  exact ⟨p, r, rfl, hp, fun t ht => ⟨Ext.upd ht, .tup (.inl (.inl upd_same)) (.cons (.str _) (.cons (.str _) (.cons (.bl _) (.cons (.int _) (.cons (.int _) .nil)))))⟩⟩
/-- a list of beads by its pairs -/
theorem bdl_of {C : Addr} {H : Hp} {zs : List (V × Rw)} (h : ∀ z ∈ zs, ∃ p, z.1 = .ref p ∧ BeadAt C H p z.2) : BdL C H (zs.map Prod.fst) (zs.map Prod.snd) := by
  refine ⟨by rw [List.length_map, List.length_map], fun i r hr => ?_⟩
  rw [List.getElem?_map] at hr
  cases e : zs[i]? with
  | none => rw [e] at hr; cases hr
  | some z =>
    rw [e] at hr
    cases hr
    obtain ⟨p, h1, h2⟩ := h z (List.mem_of_getElem? e)
    exact ⟨p, by rw [List.getElem?_map, e]; exact congrArg some h1, h2⟩
theorem bdl_zip {C : Addr} {H : Hp} {xs : List V} {rs : List Rw} (h : BdL C H xs rs) : ∀ z ∈ xs.zip rs, ∃ p, z.1 = .ref p ∧ BeadAt C H p z.2 := fun z hz => by
  obtain ⟨i, hi⟩ := List.getElem?_of_mem hz
  rw [List.getElem?_zip_eq_some] at hi
  obtain ⟨p, h1, h2⟩ := h.2 i _ hi.2
  rw [hi.1] at h1
  exact ⟨p, Option.some.inj h1, h2⟩
theorem srt_chain {C : Addr} {H : Hp} {xs : List V} {rs : List Rw} (h : BdL C H xs rs) : BdL C H (srtV xs (rs.map keyC)) (srtC rs) := by
  have e1 : srtV xs (rs.map keyC) = ((xs.zip rs).mergeSort (PySem.W.dataLe false fun p : V × Rw => keyC p.2)).map Prod.fst := by
    unfold srtV
    have : xs.zip (rs.map keyC) = (xs.zip rs).map fun p => (p.1, keyC p.2) := by
      rw [List.zip_map_right]
      rfl
    have m := List.map_mergeSort (l := xs.zip rs) (f := fun p : V × Rw => (p.1, keyC p.2)) (r := PySem.W.dataLe false fun p : V × Rw => keyC p.2) (s := PySem.W.dataLe false fun p : V × PyData => p.2) (fun a _ b _ => rfl)
    rw [this, ← m, List.map_map]
    rfl
  have e2 : srtC rs = ((xs.zip rs).mergeSort (PySem.W.dataLe false fun p : V × Rw => keyC p.2)).map Prod.snd := by
    unfold srtC
    have m := List.map_mergeSort (l := xs.zip rs) (f := fun p : V × Rw => p.2) (r := PySem.W.dataLe false fun p : V × Rw => keyC p.2) (s := PySem.W.dataLe false keyC) (fun a _ b _ => rfl)
    have e : (xs.zip rs).map (fun p : V × Rw => p.2) = rs := List.map_snd_zip (by rw [h.1]; exact Nat.le_refl _)
    rw [e] at m
    exact m.symm
  rw [e1, e2]
  refine bdl_of fun z hz => ?_
  exact bdl_zip h z ((List.mergeSort_perm _ _).mem_iff.mp hz)
theorem alike_chain (rs : List Rw) : PySem.W.AllAlike (rs.map keyC) := fun d hd d' hd' => by
  obtain ⟨a, _, rfl⟩ := List.mem_map.mp hd
  obtain ⟨b, _, rfl⟩ := List.mem_map.mp hd'
  rfl
theorem sortable_chain (rs : List Rw) : PySem.W.Sortable (rs.map keyC) := .inl fun d hd => by
  obtain ⟨a, _, rfl⟩ := List.mem_map.mp hd
  exact ⟨_, _, rfl⟩
/-- side by side -/
inductive F2 {α β : Type} (R : α → β → Prop) : List α → List β → Prop
  | nil : F2 R [] []
  | cons {a : α} {b : β} {xs : List α} {ys : List β} : R a b → F2 R xs ys → F2 R (a :: xs) (b :: ys)
theorem F2.len {α β : Type} {R : α → β → Prop} : ∀ {xs : List α} {ys : List β}, F2 R xs ys → xs.length = ys.length
  | _, _, .nil => rfl
  | _, _, .cons _ t => congrArg Nat.succ t.len
theorem F2.mono {α β : Type} {R S : α → β → Prop} (k : ∀ a b, R a b → S a b) : ∀ {xs : List α} {ys : List β}, F2 R xs ys → F2 S xs ys
  | _, _, .nil => .nil
  | _, _, .cons h t => .cons (k _ _ h) (t.mono k)
theorem F2.perm {α β : Type} {R : α → β → Prop} {xs ys : List α} (p : xs.Perm ys) : ∀ {bs : List β}, F2 R xs bs → ∃ bs', bs'.Perm bs ∧ F2 R ys bs' := by
  induction p with
  | nil => exact fun h => ⟨_, .refl _, h⟩
  | cons x p ih =>
    intro bs h
    cases h with
    | cons h t =>
      obtain ⟨bs', h1, h2⟩ := ih t
      exact ⟨_, h1.cons _, .cons h h2⟩
  | swap x y l =>
    intro bs h
    cases h with
    | cons h t =>
      cases t with
      | cons h2 t => exact ⟨_, List.Perm.swap _ _ _, .cons h2 (.cons h t)⟩
  | trans p q ih1 ih2 =>
    intro bs h
    obtain ⟨b1, h1, h2⟩ := ih1 h
    obtain ⟨b2, h3, h4⟩ := ih2 h2
    exact ⟨b2, h3.trans h1, h4⟩
theorem F2.get {α β : Type} {R : α → β → Prop} : ∀ {xs : List α} {ys : List β}, F2 R xs ys → ∀ {i : Nat} {x : α}, xs[i]? = some x → ∃ y, ys[i]? = some y ∧ R x y
  | _, _, .cons h t, 0, x, e => by
    cases e
    exact ⟨_, rfl, h⟩
  | _, _, .cons h t, i + 1, x, e => t.get (i := i) e
theorem F2.snoc {α β : Type} {R : α → β → Prop} {a : α} {b : β} (h : R a b) : ∀ {xs : List α} {ys : List β}, F2 R xs ys → F2 R (xs ++ [a]) (ys ++ [b])
  | _, _, .nil => .cons h .nil
  | _, _, .cons h' t => .cons h' (F2.snoc h t)
theorem srtV_perm {xs : List V} {kz : List PyData} (h : kz.length = xs.length) : (srtV xs kz).Perm xs := by
  unfold srtV
  have e : (xs.zip kz).map Prod.fst = xs := List.map_fst_zip (by omega)
  exact ((List.mergeSort_perm _ _).map Prod.fst).trans (by rw [e])
/-- a list of lists of whole numbers -/
def LI (H : Hp) (v : V) (c : List Int) : Prop := ∃ a, v = .ref a ∧ H a = some (.lst (c.map V.int))
theorem exists_min : ∀ c : List Int, c ≠ [] → ∃ m ∈ c, ∀ y ∈ c, m ≤ y
  | [], h => absurd rfl h
  | [x], _ => ⟨x, List.mem_singleton.mpr rfl, fun y hy => by rw [List.mem_singleton.mp hy]; exact Int.le_refl _⟩
  | x :: y :: t, _ => by
    obtain ⟨m, h1, h2⟩ := exists_min (y :: t) (by simp)
    by_cases c : x ≤ m
    · exact ⟨x, List.mem_cons_self .., fun z hz => by
        rcases List.mem_cons.mp hz with rfl | hz
        · exact Int.le_refl _
        · exact Int.le_trans c (h2 z hz)⟩
    · exact ⟨m, List.mem_cons_of_mem _ h1, fun z hz => by
        rcases List.mem_cons.mp hz with rfl | hz
        · omega
        · exact h2 z hz⟩
theorem mins {K : PySem.W.Frag} {H : Hp} : ∀ {xs : List V} {cs : List (List Int)}, F2 (LI H) xs cs → (∀ c ∈ cs, c ≠ []) → ∃ kz : List PyData, kz.length = xs.length ∧ (∀ d ∈ kz, ∃ m, d = .int m) ∧ ∀ (i : Nat) x k, xs[i]? = some x → kz[i]? = some k → DMin K x k H
  | _, _, .nil, _ => ⟨[], rfl, (fun d h => nomatch h), fun i x k h _ => by simp at h⟩
  | _, _, .cons (b := c) (xs := xs) h t, hne => by
    obtain ⟨kz, h1, h2, h3⟩ := mins (K := K) t fun c hc => hne c (List.mem_cons_of_mem _ hc)
    obtain ⟨a, rfl, ha⟩ := h
    obtain ⟨m, m1, m2⟩ := exists_min c (hne c (List.mem_cons_self ..))
    refine ⟨.int m :: kz, by rw [List.length_cons, h1]; rfl, fun d hd => ?_, fun i x k hx hk => ?_⟩
    · rcases List.mem_cons.mp hd with rfl | hd
      · exact ⟨m, rfl⟩
      · exact h2 d hd
    · match i with
      | 0 =>
        cases hx
        cases hk
        exact ⟨a, c, m, rfl, SqL.of ha, m1, m2, rfl⟩
      | i + 1 => exact h3 i x k hx hk
/-- the least of the numbers of a group -/
noncomputable def minL (c : List Int) : Int := if h : c ≠ [] then Classical.choose (exists_min c h) else 0
theorem minL_spec {c : List Int} (h : c ≠ []) : minL c ∈ c ∧ ∀ y ∈ c, minL c ≤ y := by
  unfold minL
  rw [dif_pos h]
  exact Classical.choose_spec (exists_min c h)
noncomputable def kM (c : List Int) : PyData := .int (minL c)
noncomputable def srtM (cs : List (List Int)) : List (List Int) := cs.mergeSort (PySem.W.dataLe false kM)
theorem srtM_perm (cs : List (List Int)) : (srtM cs).Perm cs := List.mergeSort_perm _ _
theorem f2_zip {α β : Type} {R : α → β → Prop} : ∀ {xs : List α} {ys : List β}, F2 R xs ys → ∀ z ∈ xs.zip ys, R z.1 z.2
  | _, _, .nil, z, h => by simp at h
  | _, _, .cons h t, z, hz => by
    rw [List.zip_cons_cons] at hz
    rcases List.mem_cons.mp hz with rfl | hz
    · exact h
    · exact f2_zip t z hz
theorem f2_unzip {α β : Type} {R : α → β → Prop} : ∀ {zs : List (α × β)}, (∀ z ∈ zs, R z.1 z.2) → F2 R (zs.map Prod.fst) (zs.map Prod.snd)
  | [], _ => .nil
  | z :: zs, h => .cons (h z (List.mem_cons_self ..)) (f2_unzip fun y hy => h y (List.mem_cons_of_mem _ hy))
theorem f2_srt {R : V → List Int → Prop} {xs : List V} {cs : List (List Int)} (h : F2 R xs cs) : F2 R (srtV xs (cs.map kM)) (srtM cs) := by
  have e1 : srtV xs (cs.map kM) = ((xs.zip cs).mergeSort (PySem.W.dataLe false fun p : V × List Int => kM p.2)).map Prod.fst := by
    unfold srtV
    have : xs.zip (cs.map kM) = (xs.zip cs).map fun p => (p.1, kM p.2) := by
      rw [List.zip_map_right]
      rfl
    have m := List.map_mergeSort (l := xs.zip cs) (f := fun p : V × List Int => (p.1, kM p.2)) (r := PySem.W.dataLe false fun p : V × List Int => kM p.2) (s := PySem.W.dataLe false fun p : V × PyData => p.2) (fun a _ b _ => rfl)
    rw [this, ← m, List.map_map]
    rfl
  have e2 : srtM cs = ((xs.zip cs).mergeSort (PySem.W.dataLe false fun p : V × List Int => kM p.2)).map Prod.snd := by
    unfold srtM
    have m := List.map_mergeSort (l := xs.zip cs) (f := fun p : V × List Int => p.2) (r := PySem.W.dataLe false fun p : V × List Int => kM p.2) (s := PySem.W.dataLe false kM) (fun a _ b _ => rfl)
    have e : (xs.zip cs).map (fun p : V × List Int => p.2) = cs := List.map_snd_zip (by rw [h.len]; exact Nat.le_refl _)
    rw [e] at m
    exact m.symm
  rw [e1, e2]
  exact f2_unzip fun z hz => f2_zip h z ((List.mergeSort_perm _ _).mem_iff.mp hz)
theorem minsM {K : PySem.W.Frag} {H : Hp} {xs : List V} {cs : List (List Int)} (h : F2 (LI H) xs cs) (hne : ∀ c ∈ cs, c ≠ []) (i : Nat) (x : V) (k : PyData) (hx : xs[i]? = some x) (hk : (cs.map kM)[i]? = some k) : DMin K x k H := by
  obtain ⟨c, hc, a, rfl, ha⟩ := h.get hx
  rw [List.getElem?_map, hc] at hk
  cases hk
  obtain ⟨m1, m2⟩ := minL_spec (hne c (List.mem_of_getElem? hc))
  exact ⟨a, c, _, rfl, SqL.of ha, m1, m2, rfl⟩
/-- the clusters as they are told -/
noncomputable def clsOf (m : Int) (rs : List Rw) : List (List Int) := srtM ((KMat.ch (PB m) (srtC rs)).map fun c => c.map Rw.num)
def spClusters (C : Addr) : Sp := fun vs H Q _ => ∃ (b : Addr) (xs : List V) (rs : List Rw) (m : Int), vs = [.ref b, .int m] ∧ H b = some (.lst xs) ∧ BdL C H xs rs ∧ rs.length ≤ 100 ∧
  ∀ (H' : Hp) (l : Addr) (ys : List V) (cs : List (List Int)), Same H H' → H l = none → H' l = some (.lst ys) → F2 (LI H') ys cs → cs = clsOf m rs → (∀ y ∈ ys, ∃ a, y = .ref a ∧ H a = none ∧ a ≠ l) → Q (.ref l) H'
/-- what is told of chains so far: gs, the last bead ah -/
def ChSt (m : Int) (s : List Rw) (i : Nat) (gs : List (List Rw)) (ah : Option Rw) : Prop :=
  (gs = [] ∧ ah = none ∧ i = 0) ∨ ∃ g0 c a, gs = g0 ++ [c] ∧ ah = some a ∧ KMat.ch (PB m) s = g0 ++ KMat.chA (PB m) c a (s.drop i)
/-- lists of numbers at addresses of their own, in the list at tl -/
structure Tld (H0 : Hp) (tl : Addr) (H : Hp) (cs : List (List Int)) : Prop where
  ex : ∃ as : List Addr, H tl = some (.lst (as.map V.ref)) ∧ as.length = cs.length ∧ as.Nodup ∧ (∀ a ∈ as, a ≠ tl ∧ H0 a = none) ∧ ∀ (j : Nat) a c, as[j]? = some a → cs[j]? = some c → H a = some (.lst (c.map V.int))
theorem f2_of {H : Hp} : ∀ {as : List Addr} {cs : List (List Int)}, as.length = cs.length → (∀ (j : Nat) a c, as[j]? = some a → cs[j]? = some c → H a = some (.lst (c.map V.int))) → F2 (LI H) (as.map V.ref) cs
  | [], [], _, _ => .nil
  | [], _ :: _, l, _ => by simp at l
  | _ :: _, [], l, _ => by simp at l
  | a :: as, c :: cs, l, h => .cons ⟨a, rfl, h 0 a c rfl rfl⟩ (f2_of (by simpa using l) fun j a' c' h1 h2 => h (j + 1) a' c' h1 h2)
theorem chA_ne {α : Type} {P : α → α → Bool} : ∀ {t : List α} {c : List α} {a : α}, c ≠ [] → ∀ g ∈ KMat.chA P c a t, g ≠ []
  | [], c, a, hc, g, hg => by
    rw [show KMat.chA P c a [] = [c] from rfl, List.mem_singleton] at hg
    rw [hg]
    exact hc
  | r :: t, c, a, hc, g, hg => by
    by_cases p : P a r = true
    · rw [show KMat.chA P c a (r :: t) = KMat.chA P (c ++ [r]) r t from if_pos p] at hg
      exact chA_ne (by simp) g hg
    · rw [show KMat.chA P c a (r :: t) = c :: KMat.chA P [r] r t from if_neg p] at hg
      rcases List.mem_cons.mp hg with rfl | hg
      · exact hc
      · exact chA_ne (by simp) g hg
theorem ch_ne {α : Type} {P : α → α → Bool} {s : List α} : ∀ g ∈ KMat.ch P s, g ≠ [] := by
  cases s with
  | nil => exact fun g hg => nomatch hg
  | cons x t => exact chA_ne (by simp)
theorem ok_clusters (T : Tx K mg) : FnOk P w K mg base CX0 6 T.A_clusters T.fd_clusters ["beads", "match"] (spClusters T.C_Bead) := by
  refine okD T.F_clusters sc_clusters (fun vs H Q E h => ?_) (fun cdv A outer s H vs Q E hr h => ?_)
  · obtain ⟨b, xs, rs, m, rfl, hb, hB, hlen, q⟩ := h
    rfl
  obtain ⟨b, xs, rs, m, rfl, hb, hB, hlen, q⟩ := h
  refine ⟨_, (pss_cons (ps_set (i := 2) sc_clusters.nd rfl (Or.inl rfl) (pe_lst pa_nil))
      (pss_cons (ps_set (i := 3) sc_clusters.nd rfl (Or.inl rfl) pe_non)
      (pss_cons (ps_for PassesOwn.never rfl (pi_list (pe_callBK (call_sortG (kbFn (D := DChain T.C_Bead) (ok_chain_key T) T.b_chain_key (impChain T)) (monFn monChain) (hr.mono (by decide))) (by rfl) T.z_sorted (by decide +kernel) (pa_cons (pv 0) pa_nil) (pk_cons (pe_glob (v := .ref T.A_chain_key) (by rfl) T.g_chain_key rfl) pk_nil))) (pg_name (i := 4) sc_clusters.nd rfl (Or.inl rfl))
        (pss_cutJ (ps_if (PW.pt (pw_or (pt_cmpR op_isN (pv 3) pe_non (nomark _)) (pw_or1 (pt_not (pt_val (pe_call (ok_may_pair T) (hr.mono (by decide)) (by rfl) T.g_may_pair T.F_may_pair.kp T.b_may_pair .nil pass0 (pa_cons (pv 3) (pa_cons (pv 4) (pa_cons (pv 1) pa_nil))))))))) (pss_one (ps_expr (pe_bm PySem.F.plainAttrs_list PySem.F.slot_list_append PySem.F.type_list_append mt_append (pv 2) (pa_cons (pe_lst pa_nil) pa_nil)))) pss_nil)
      (pss_cons (ps_expr (pe_bm PySem.F.plainAttrs_list PySem.F.slot_list_append PySem.F.type_list_append mt_append (pe_ix ix_list (pv 2) (pe_un un_neg pe_int) (fun _ _ => rfl)) (pa_cons (pe_fld (pv 4) rfl) pa_nil)))
      (pss_one (ps_set (i := 3) sc_clusters.nd rfl (Or.inl rfl) (pv 4))))))
      (pss_one (ps_ret (pe_sortMin rfl (hr.mono (by decide)) (by rfl) T.z_sorted (by rfl) T.z_min (pa_cons (pv 2) pa_nil))))))), ?_⟩
  refine ⟨Nat.zero_le _, fun tl htl => ?_⟩
  have s1 := same_upd htl (o := .lst [])
  refine ⟨_, rfl, b, T.A_chain_key, xs, rs.map keyC, rfl, rfl, SqL.of (s1 _ _ hb), Nat.lt_of_le_of_lt (show xs.length ≤ 100 by rw [hB.1]; exact hlen) (by decide), by rw [List.length_map, hB.1], alike_chain rs, sortable_chain rs, fun d hd => ?_, fun i x k hx hk => ?_, fun H2 l2 x2 el hl2 => ?_⟩
  · obtain ⟨a, _, rfl⟩ := List.mem_map.mp hd
    show PyData.depth (.tuple _) ≤ 8
    simp [PyData.depth, PyData.depthAll]
  · rw [List.getElem?_map] at hk
    cases e : rs[i]? with
    | none => rw [e] at hk; cases hk
    | some r =>
      rw [e] at hk
      cases hk
      obtain ⟨p, h1, h2⟩ := hB.2 i r e
      rw [hx] at h1
      cases h1
      exact ⟨rfl, p, r, rfl, h2.nl (NL.of s1), rfl⟩
  have hS := srt_chain (hB.nl (NL.of (s1.trans x2)))
  have etl : H2 tl = some (.lst []) := x2 _ _ upd_same
  have nl2 : l2 ≠ tl := ne_of_none upd_same hl2 |>.symm
  have hsl : (srtC rs).length = rs.length := (srtC_perm rs).length_eq
  generalize srtV xs (rs.map keyC) = ss at el hS
  generalize hsr : srtC rs = sr at hS hsl
  have hss := hS.1
  refine ⟨l2, rfl, ⟨_, SqL.of el⟩, for_list (K := K) (a := l2) (xs := ss) (fun i σ H' => ∃ (w3 w4 : Option V) (gs : List (List Rw)) (ah : Option Rw), σ = [some (.ref b), some (.int m), some (.ref tl), w3, w4] ∧ (match ah with | none => w3 = some .non | some a => ∃ p, w3 = some (.ref p) ∧ BeadAt T.C_Bead H' p a) ∧ ChSt m sr i gs ah ∧ (∀ g ∈ gs, g ≠ [] ∧ g.length ≤ i) ∧ gs.length ≤ i ∧ Tld H2 tl H' (gs.map fun g => g.map Rw.num) ∧ But tl H2 H') ⟨_, _, [], none, rfl, rfl, .inl ⟨rfl, rfl, rfl⟩, (fun g h => nomatch h), Nat.le_refl _, ⟨[], etl, rfl, List.nodup_nil, (fun a h => nomatch h), fun j a c h _ => by simp at h⟩, But.refl _ _⟩ (fun i σ H' _ h => ?_) ?_ ?_⟩
  · obtain ⟨_, _, _, _, _, _, _, _, _, _, k⟩ := h
    exact SqL.of (k _ _ nl2 el)
  · rintro i x σ H3 hi ⟨w3, w4, gs, ah, rfl, hah, hst, hgs, lgs, ⟨as, etl3, las, und, nas, hcs⟩, b3⟩
    have hil : i < ss.length := (List.getElem?_eq_some_iff.mp hi).1
    have hir : i < sr.length := by omega
    obtain ⟨p, h1, hp⟩ := hS.2 i _ (List.getElem?_eq_getElem hir)
    rw [h1] at hi
    cases hi
    have hdr : sr.drop i = sr[i] :: sr.drop (i + 1) := List.drop_eq_getElem_cons hir
    generalize sr[i] = r at hp hdr
    have nl3 : NL H2 H3 := fun c o hn e => b3 c o (fun z => by rw [z, etl] at e; exact hn _ (Option.some.inj e).symm) e
    have hp3 := hp.nl nl3
    rw [List.length_map] at las
    -- what stands ready for the bead's number
    refine ⟨fun σ' H' => ∃ (g0 : List (List Rw)) (c : List Rw) (as' : List Addr) (a : Addr), σ' = [some (.ref b), some (.int m), some (.ref tl), w3, some (.ref p)] ∧ KMat.ch (PB m) sr = g0 ++ KMat.chA (PB m) (c ++ [r]) r (sr.drop (i + 1)) ∧ (∀ g ∈ g0, g ≠ [] ∧ g.length ≤ i) ∧ c.length ≤ i ∧ g0.length ≤ i ∧ H' tl = some (.lst ((as' ++ [a]).map V.ref)) ∧ as'.length = g0.length ∧ (as' ++ [a]).Nodup ∧ (∀ x ∈ as' ++ [a], x ≠ tl ∧ H2 x = none) ∧ (∀ (j : Nat) x y, as'[j]? = some x → (g0.map fun g => g.map Rw.num)[j]? = some y → H' x = some (.lst (y.map V.int))) ∧ H' a = some (.lst ((c.map Rw.num).map V.int)) ∧ But tl H2 H', ?_, ?_⟩
    · cases ah with
      | none =>
        obtain rfl : w3 = some .non := hah
        have hch' : KMat.ch (PB m) sr = gs ++ KMat.chA (PB m) ([] ++ [r]) r (sr.drop (i + 1)) := by
          rcases hst with ⟨rfl, _, rfl⟩ | ⟨_, _, _, _, e, _⟩
          · rw [List.drop_zero] at hdr
            rw [hdr]
            rfl
          · cases e
        refine ⟨_, rfl, rfl, _, rfl, iteT ?_⟩
        refine ⟨_, rfl, .inl ⟨rfl, _, SqL.of etl3⟩, Nat.zero_le _, fun e he => ?_⟩
        have ze := same_upd he (o := .lst [])
        have ne : e ≠ tl := (ne_of_none etl3 he).symm
        have nae : ∀ x ∈ as, x ≠ e := fun x hx => by
          obtain ⟨j, hj, rfl⟩ := List.getElem_of_mem hx
          have hjc : j < (gs.map fun g => g.map Rw.num).length := by rw [List.length_map]; omega
          exact ne_of_none (hcs j _ _ (List.getElem?_eq_getElem hj) (List.getElem?_eq_getElem hjc)) he
        refine ⟨tl, _, _, rfl, rfl, ze _ _ etl3, Nat.lt_of_le_of_lt (show (as.map V.ref).length ≤ 100 by rw [List.length_map]; omega) (by decide), ?_⟩
        refine ⟨gs, [], as, e, rfl, hch', hgs, Nat.zero_le _, lgs, ?_, las, ?_, fun x hx => ?_, fun j x y h1 h2 => ?_, ?_, ?_⟩
        · rw [List.map_append]
          exact upd_same
        · rw [List.nodup_append]
          exact ⟨und, by simp, fun x hx y hy => by rw [List.mem_singleton.mp hy]; exact nae x hx⟩
        · rcases List.mem_append.mp hx with hx | hx
          · exact nas x hx
          · rw [List.mem_singleton.mp hx]
            exact ⟨ne, b3.free ne he⟩
        · rw [upd_ne (nas x (List.mem_of_getElem? h1)).1]
          exact ze _ _ (hcs j x y h1 h2)
        · rw [upd_ne ne]
          exact upd_same
        · exact (b3.trans (But.new he)).trans But.at_
      | some a0 =>
        obtain ⟨pa, rfl, hpa⟩ := hah
        rcases hst with ⟨_, e, _⟩ | ⟨g0, c, a, rfl, e, hch⟩
        · cases e
        cases e
        rw [hdr] at hch
        refine ⟨_, rfl, rfl, _, rfl, iteF ?_⟩
        refine ⟨_, rfl, _, rfl, _, rfl, pa, p, a0, r, m, rfl, hpa, hp3, _, rfl, ?_⟩
        by_cases hP : PB m a0 r = true
        · rw [hP]
          refine iteF ?_
          rw [show KMat.chA (PB m) c a0 (r :: sr.drop (i + 1)) = KMat.chA (PB m) (c ++ [r]) r (sr.drop (i + 1)) from if_pos hP] at hch
          obtain ⟨as', a, rfl⟩ : ∃ as' a, as = as' ++ [a] := by
            have hne : as ≠ [] := fun z => by
              rw [z] at las
              simp at las
            exact ⟨as.dropLast, as.getLast hne, (List.dropLast_concat_getLast hne).symm⟩
          rw [List.length_append, List.length_append, List.length_singleton, List.length_singleton] at las
          have las' : as'.length = g0.length := by omega
          refine ⟨g0, c, as', a, rfl, hch, fun g hg => hgs g (List.mem_append_left _ hg), (hgs c (List.mem_append_right _ (List.mem_singleton.mpr rfl))).2, by rw [List.length_append] at lgs; omega, etl3, las', und, nas, fun j x y h1 h2 => ?_, ?_, b3⟩
          · have hj : j < as'.length := (List.getElem?_eq_some_iff.mp h1).1
            refine hcs j x y (by rw [List.getElem?_append_left hj]; exact h1) ?_
            rw [List.map_append, List.getElem?_append_left (by rw [List.length_map]; omega)]
            exact h2
          · refine hcs as'.length a _ (by rw [List.getElem?_append_right (Nat.le_refl _), Nat.sub_self]; rfl) ?_
            rw [List.map_append, List.getElem?_append_right (by rw [List.length_map]; omega), List.length_map, las', Nat.sub_self]
            rfl
        · rw [Bool.not_eq_true] at hP
          rw [hP]
          refine iteT ?_
          have hch' : KMat.ch (PB m) sr = (g0 ++ [c]) ++ KMat.chA (PB m) ([] ++ [r]) r (sr.drop (i + 1)) := by
            rw [hch, show KMat.chA (PB m) c a0 (r :: sr.drop (i + 1)) = c :: KMat.chA (PB m) [r] r (sr.drop (i + 1)) from if_neg (by rw [hP]; exact Bool.false_ne_true), List.append_assoc]
            rfl
          generalize g0 ++ [c] = gs at hch' las hgs lgs hcs ⊢
          refine ⟨_, rfl, .inl ⟨rfl, _, SqL.of etl3⟩, Nat.zero_le _, fun e he => ?_⟩
          have ze := same_upd he (o := .lst [])
          have ne : e ≠ tl := (ne_of_none etl3 he).symm
          have nae : ∀ x ∈ as, x ≠ e := fun x hx => by
            obtain ⟨j, hj, rfl⟩ := List.getElem_of_mem hx
            have hjc : j < (gs.map fun g => g.map Rw.num).length := by rw [List.length_map]; omega
            exact ne_of_none (hcs j _ _ (List.getElem?_eq_getElem hj) (List.getElem?_eq_getElem hjc)) he
          refine ⟨tl, _, _, rfl, rfl, ze _ _ etl3, Nat.lt_of_le_of_lt (show (as.map V.ref).length ≤ 100 by rw [List.length_map]; omega) (by decide), ?_⟩
          refine ⟨gs, [], as, e, rfl, hch', hgs, Nat.zero_le _, lgs, ?_, las, ?_, fun x hx => ?_, fun j x y h1 h2 => ?_, ?_, ?_⟩
          · rw [List.map_append]
            exact upd_same
          · rw [List.nodup_append]
            exact ⟨und, by simp, fun x hx y hy => by rw [List.mem_singleton.mp hy]; exact nae x hx⟩
          · rcases List.mem_append.mp hx with hx | hx
            · exact nas x hx
            · rw [List.mem_singleton.mp hx]
              exact ⟨ne, b3.free ne he⟩
          · rw [upd_ne (nas x (List.mem_of_getElem? h1)).1]
            exact ze _ _ (hcs j x y h1 h2)
          · rw [upd_ne ne]
            exact upd_same
          · exact (b3.trans (But.new he)).trans But.at_
    · rintro σ' H4 ⟨g0, c, as', a, rfl, hch, hg0, hcl, lg0, etl4, las', und', nas', hcs', ea, b4⟩
      have nl4 : NL H2 H4 := fun c o hn e => b4 c o (fun z => by rw [z, etl] at e; exact hn _ (Option.some.inj e).symm) e
      obtain ⟨dp, hp4⟩ := hp.nl nl4
      rw [List.map_append] at etl4
      refine ⟨_, rfl, _, rfl, tl, _, _, _, rfl, rfl, SqL.of etl4, atI_last _ _, .inl ⟨rfl, _, SqL.of ea⟩, _, rfl, p, _, dp, _, _, rfl, hp4, T.cl_Bead, T.n_Bead_number, bf_number r, a, _, _, rfl, rfl, ea, Nat.lt_of_le_of_lt (show ((c.map Rw.num).map V.int).length ≤ 100 by rw [List.length_map, List.length_map]; omega) (by decide), ?_⟩
      have na := nas' a (List.mem_append_right _ (List.mem_singleton.mpr rfl))
      have nla := NL.at_ ea (o := .lst ((c.map Rw.num).map V.int ++ [.int r.num]))
      refine ⟨_, rfl, _, _, g0 ++ [c ++ [r]], some r, rfl, ⟨p, rfl, ⟨dp, nla _ _ (fun _ z => by cases z) hp4⟩⟩, .inr ⟨g0, c ++ [r], r, rfl, rfl, hch⟩, fun g hg => ?_, by rw [List.length_append, List.length_singleton]; omega, ⟨as' ++ [a], ?_, by rw [List.length_map, List.length_append, List.length_append, las']; rfl, und', nas', fun j x y h1 h2 => ?_⟩, b4.mut na.2⟩
      · rcases List.mem_append.mp hg with hg | hg
        · exact ⟨(hg0 g hg).1, Nat.le_succ_of_le (hg0 g hg).2⟩
        · rw [List.mem_singleton.mp hg]
          exact ⟨by simp, by rw [List.length_append, List.length_singleton]; omega⟩
      · rw [upd_ne na.1.symm, List.map_append]
        exact etl4
      · rw [List.map_append] at h2
        by_cases hj : j < as'.length
        · rw [List.getElem?_append_left hj] at h1
          rw [List.getElem?_append_left (by rw [List.length_map]; omega)] at h2
          have nxa : x ≠ a := fun z => by
            rw [List.nodup_append] at und'
            exact und'.2.2 x (List.mem_of_getElem? h1) a (List.mem_singleton.mpr rfl) z
          rw [upd_ne nxa]
          exact hcs' j x y h1 h2
        · rw [List.getElem?_append_right (by omega)] at h1
          rw [List.getElem?_append_right (by rw [List.length_map]; omega)] at h2
          have hj0 : j - as'.length = 0 := by
            have := (List.getElem?_eq_some_iff.mp h1).1
            rw [List.length_singleton] at this
            omega
          rw [List.length_map, ← las', hj0] at h2
          rw [hj0] at h1
          cases h1
          cases h2
          show _ = some (HO.lst (((c ++ [r]).map Rw.num).map V.int))
          rw [upd_same, List.map_append, List.map_append]
          rfl
  · rintro σ H3 ⟨w3, w4, gs, ah, rfl, hah, hst, hgs, lgs, ⟨as, etl3, las, und, nas, hcs⟩, b3⟩
    have hch : KMat.ch (PB m) sr = gs := by
      rcases hst with ⟨rfl, _, e⟩ | ⟨g0, c, a, rfl, _, h⟩
      · have : sr = [] := List.length_eq_zero_iff.mp (by omega)
        rw [this]
        rfl
      · rw [h, List.drop_of_length_le (by omega)]
        rfl
    have hF := f2_of las hcs
    have hne : ∀ c ∈ gs.map (fun g => g.map Rw.num), c ≠ [] := fun c hc => by
      obtain ⟨g, hg, rfl⟩ := List.mem_map.mp hc
      intro z
      exact (hgs g hg).1 (List.map_eq_nil_iff.mp z)
    have k1 : ((gs.map fun g => g.map Rw.num).map kM).length = (as.map V.ref).length := by rw [List.length_map, hF.len]
    rw [List.length_map] at las
    refine ⟨_, rfl, tl, as.map V.ref, (gs.map fun g => g.map Rw.num).map kM, rfl, SqL.of etl3, Nat.lt_of_le_of_lt (show (as.map V.ref).length ≤ 100 by rw [List.length_map]; omega) (by decide), k1, fun d hd => ?_, minsM hF hne, fun H' p x ep hp => ?_⟩
    · obtain ⟨c, _, rfl⟩ := List.mem_map.mp hd
      exact ⟨_, rfl⟩
    have sH : Same H H3 := But.same htl (s1.trans x2) (by
      exact b3)
    refine q H' p _ _ (sH.trans x) (sH.free hp) ep ((f2_srt hF).mono fun v c h => ?_) ?_ fun y hy => ?_
    · obtain ⟨a, h1, h2⟩ := h
      exact ⟨a, h1, x _ _ h2⟩
    · unfold clsOf
      rw [hsr, hch]
    · obtain ⟨a, ha, rfl⟩ := List.mem_map.mp ((srtV_perm k1).mem_iff.mp hy)
      obtain ⟨j, hj, e⟩ := List.getElem_of_mem ha
      have hjg : j < (gs.map fun g => g.map Rw.num).length := by rw [List.length_map]; omega
      have hea := hcs j a _ (by rw [List.getElem?_eq_getElem hj, e]) (List.getElem?_eq_getElem hjg)
      exact ⟨a, rfl, (s1.trans x2).free (nas a ha).2, ne_of_none hea hp⟩
end
end KB
namespace KB
open PySem PySem.Spec PyProof.Rows L2 KA

section
variable {P : Program} {w : World} {K : PySem.W.Frag} {mg : Str → Option Value} {base : Heap}
def mkp (p : Int × Int) : Int × Int := (if p.2 < p.1 then p.2 else p.1, if p.2 > p.1 then p.2 else p.1)
def numP (p : Rw × Rw) : Int × Int := (p.1.num, p.2.num)
theorem prs_map : ∀ c : List Rw, KMat.prs (c.map Rw.num) = (KMat.prs c).map numP
  | [] => rfl
  | [_] => rfl
  | x :: y :: t => by
    show (x.num, y.num) :: KMat.prs (t.map Rw.num) = (x.num, y.num) :: (KMat.prs t).map numP
    rw [prs_map t]
theorem prs_len {α : Type} : ∀ c : List α, (KMat.prs c).length = c.length / 2
  | [] => by show (0 : Nat) = 0 / 2; decide
  | [_] => by show (0 : Nat) = (0 + 1) / 2; decide
  | x :: y :: t => by
    show (KMat.prs t).length + 1 = (t.length + 1 + 1) / 2
    rw [prs_len t]
    omega
theorem prs_at {α : Type} : ∀ {c : List α} {k : Nat}, k < c.length / 2 → ∃ x y, (KMat.prs c)[k]? = some (x, y) ∧ c[2 * k]? = some x ∧ c[2 * k + 1]? = some y
  | [], _, h => by simp at h
  | [_], _, h => by simp at h
  | x :: y :: t, 0, _ => ⟨x, y, rfl, rfl, rfl⟩
  | x :: y :: t, k + 1, h => by
    obtain ⟨u, v, h1, h2, h3⟩ := prs_at (c := t) (k := k) (by rw [List.length_cons, List.length_cons] at h; omega)
    exact ⟨u, v, h1, h2, h3⟩
/-- the pairs that a law's beads give -/
noncomputable def pairsOf (m : Int) (rs : List Rw) : List (Int × Int) := (KMat.gp (PB m) (srtC rs)).map fun p => mkp (numP p)
theorem pairs_ch (m : Int) (rs : List Rw) {cs : List (List Int)} (h : cs.Perm ((KMat.ch (PB m) (srtC rs)).map fun c => c.map Rw.num)) : (cs.flatMap fun c => (KMat.prs c).map mkp).Perm (pairsOf m rs) := by
  refine (List.Perm.flatMap_right _ h).trans ?_
  unfold pairsOf
  rw [← KMat.ch_prs, List.flatMap_map, List.map_flatMap]
  refine List.Perm.of_eq (congrArg (fun f => List.flatMap f _) (funext fun c => ?_))
  rw [prs_map, List.map_map]
  rfl
theorem chA_len {α : Type} {P : α → α → Bool} : ∀ (t : List α) (c : List α) (a : α), (KMat.chA P c a t).length ≤ t.length + 1 ∧ ∀ g ∈ KMat.chA P c a t, g.length ≤ c.length + t.length
  | [], c, a => by
    rw [show KMat.chA P c a [] = [c] from rfl]
    exact ⟨Nat.le_refl _, fun g hg => by rw [List.mem_singleton.mp hg]; exact Nat.le_refl _⟩
  | r :: t, c, a => by
    by_cases p : P a r = true
    · rw [show KMat.chA P c a (r :: t) = KMat.chA P (c ++ [r]) r t from if_pos p]
      obtain ⟨h1, h2⟩ := chA_len (P := P) t (c ++ [r]) r
      refine ⟨by rw [List.length_cons]; omega, fun g hg => ?_⟩
      have := h2 g hg
      rw [List.length_append, List.length_singleton] at this
      rw [List.length_cons]
      omega
    · rw [show KMat.chA P c a (r :: t) = c :: KMat.chA P [r] r t from if_neg p]
      obtain ⟨h1, h2⟩ := chA_len (P := P) t [r] r
      refine ⟨by rw [List.length_cons, List.length_cons]; omega, fun g hg => ?_⟩
      rcases List.mem_cons.mp hg with rfl | hg
      · omega
      · have := h2 g hg
        rw [List.length_singleton] at this
        rw [List.length_cons]
        omega
theorem ch_len {α : Type} {P : α → α → Bool} (s : List α) : (KMat.ch P s).length ≤ s.length ∧ ∀ g ∈ KMat.ch P s, g.length ≤ s.length := by
  cases s with
  | nil => exact ⟨Nat.le_refl _, fun g hg => nomatch hg⟩
  | cons x t =>
    obtain ⟨h1, h2⟩ := chA_len (P := P) t [x] x
    refine ⟨h1, fun g hg => ?_⟩
    have := h2 g hg
    rw [List.length_singleton] at this
    rw [List.length_cons]
    omega
/-- a pair of numbers -/
def PrV (H : Hp) (v : V) (z : Int × Int) : Prop := ∃ t, v = .ref t ∧ H t = some (.tup [.int z.1, .int z.2])
theorem PrV.nl {H H' : Hp} {v : V} {z : Int × Int} (h : PrV H v z) (s : NL H H') : PrV H' v z := by
  obtain ⟨t, h1, h2⟩ := h
  exact ⟨t, h1, s _ _ (fun _ z => by cases z) h2⟩
def keyV (H : Hp) : V → Int × Int
  | .ref t => match H t with
    | some (.tup [.int a, .int b]) => (a, b)
    | _ => (0, 0)
  | _ => (0, 0)
theorem keyV_of {H : Hp} {v : V} {z : Int × Int} (h : PrV H v z) : keyV H v = z := by
  obtain ⟨t, rfl, h2⟩ := h
  simp only [keyV, h2]
theorem f2_map {H : Hp} : ∀ {ys : List V} {zs : List (Int × Int)}, F2 (PrV H) ys zs → zs = ys.map (keyV H)
  | _, _, .nil => rfl
  | _, _, .cons h t => by rw [List.map_cons, keyV_of h, f2_map t]
theorem f2_self {H : Hp} : ∀ {ys : List V}, (∀ y ∈ ys, ∃ z, PrV H y z) → F2 (PrV H) ys (ys.map (keyV H))
  | [], _ => .nil
  | y :: ys, h => by
    obtain ⟨z, hz⟩ := h y (List.mem_cons_self ..)
    refine .cons ?_ (f2_self fun x hx => h x (List.mem_cons_of_mem _ hx))
    rw [keyV_of hz]
    exact hz
theorem f2_mem {α β : Type} {R : α → β → Prop} : ∀ {xs : List α} {ys : List β}, F2 R xs ys → ∀ x ∈ xs, ∃ y ∈ ys, R x y
  | _, _, .cons h t, x, hx => by
    rcases List.mem_cons.mp hx with rfl | hx
    · exact ⟨_, List.mem_cons_self .., h⟩
    · obtain ⟨y, h1, h2⟩ := f2_mem t x hx
      exact ⟨y, List.mem_cons_of_mem _ h1, h2⟩
theorem step2 : ∀ j : Nat, j ≤ 100 → RgC 1 (j : Int) 2 (j / 2) := by
  have h : ∀ j : Nat, j < 101 → (Builtin.Range.small 1 (j : Int) 2 && (Builtin.Range.rangeSize 1 (j : Int) 2 == j / 2)) = true := by decide +kernel
  intro j hj
  have := h j (by omega)
  rw [Bool.and_eq_true] at this
  exact ⟨by decide, by decide, this.1, by simpa using this.2⟩
/-- pairs in order -/
def Srt2 (zs : List (Int × Int)) : Prop := zs.Pairwise fun p q => SrtO.lexB q p = false
theorem srt2_eq {zs ws : List (Int × Int)} (h : zs.Perm ws) (a : Srt2 zs) (b : Srt2 ws) : zs = ws := by
  refine List.Perm.eq_of_pairwise (fun p q _ _ h1 h2 => ?_) a b h
  have h1 := SrtO.lexB_no.mp h1
  have h2 := SrtO.lexB_no.mp h2
  obtain ⟨a, b⟩ := p
  obtain ⟨c, d⟩ := q
  have h1 : ¬ (c < a ∨ (c = a ∧ d < b)) := h1
  have h2 : ¬ (a < c ∨ (a = c ∧ b < d)) := h2
  have e1 : a = c := by omega
  have e2 : b = d := by omega
  rw [e1, e2]
def spMostPairs (C : Addr) : Sp := fun vs H Q _ => ∃ (b : Addr) (xs : List V) (rs : List Rw) (m : Int), vs = [.ref b, .int m] ∧ H b = some (.lst xs) ∧ BdL C H xs rs ∧ rs.length ≤ 100 ∧
  ∀ (H' : Hp) (l : Addr) (ys : List V) (zs : List (Int × Int)), Same H H' → H l = none → H' l = some (.lst ys) → F2 (PrV H') ys zs → zs.Perm (pairsOf m rs) → Srt2 zs → Q (.ref l) H'
theorem ok_most_pairs (T : Tx K mg) : FnOk P w K mg base CX0 10 T.A_most_pairs T.fd_most_pairs ["beads", "match"] (spMostPairs T.C_Bead) := by
  refine okD T.F_most_pairs sc_most_pairs (fun vs H Q E h => ?_) (fun cdv A outer s H vs Q E hr h => ?_)
  · obtain ⟨b, xs, rs, m, rfl, hb, hB, hlen, q⟩ := h
    rfl
  obtain ⟨b, xs, rs, m, rfl, hb, hB, hlen, q⟩ := h
  refine ⟨_, (pss_cons (ps_set (i := 2) sc_most_pairs.nd rfl (Or.inl rfl) (pe_lst pa_nil))
      (pss_cons (ps_for PassesOwn.never rfl (pi_list (pe_call (ok_clusters T) (hr.mono (by decide)) (by rfl) T.g_clusters T.F_clusters.kp T.b_clusters .nil pass0 (pa_cons (pv 0) (pa_cons (pv 1) pa_nil)))) (pg_name (i := 3) sc_most_pairs.nd rfl (Or.inl rfl))
        (pss_one (ps_for PassesOwn.never rfl (pi_range3 (by rfl) T.z_range (pa_cons pe_int (pa_cons (pe_callB call_len_seq (by rfl) T.z_len PySem.boot_len (pa_cons (pv 3) pa_nil)) (pa_cons pe_int pa_nil)))) (pg_name (i := 4) sc_most_pairs.nd rfl (Or.inl rfl))
        (pss_one (ps_expr (pe_bm PySem.F.plainAttrs_list PySem.F.slot_list_append PySem.F.type_list_append mt_append (pv 2) (pa_cons (pe_tup (pa_cons (pe_callB (call_min2 rfl) (by rfl) T.z_min (by decide +kernel) (pa_cons (pe_ix ix_list (pv 3) (pe_op op_sub (pv 4) pe_int) (fun _ _ => rfl)) (pa_cons (pe_ix ix_list (pv 3) (pv 4) (fun _ _ => rfl)) pa_nil))) (pa_cons (pe_callB (call_max2 rfl) (by rfl) T.z_max (by decide +kernel) (pa_cons (pe_ix ix_list (pv 3) (pe_op op_sub (pv 4) pe_int) (fun _ _ => rfl)) (pa_cons (pe_ix ix_list (pv 3) (pv 4) (fun _ _ => rfl)) pa_nil))) pa_nil))) pa_nil)))))))
      (pss_one (ps_ret (pe_callB cr_sortedPO (by rfl) T.z_sorted (by decide +kernel) (pa_cons (pv 2) pa_nil)))))), ?_⟩
  refine ⟨Nat.zero_le _, fun tl htl => ?_⟩
  have s1 := same_upd htl (o := .lst [])
  refine ⟨_, rfl, _, rfl, b, xs, rs, m, rfl, s1 _ _ hb, hB.nl (NL.of s1), hlen, fun H2 l cl cs s2 hl el hF hcs0 _ => ?_⟩
  have hcs : cs.Perm ((KMat.ch (PB m) (srtC rs)).map fun c => c.map Rw.num) := by
    rw [hcs0]
    exact srtM_perm _
  have etl2 := s2 _ _ upd_same
  have nlt : l ≠ tl := (ne_of_none upd_same hl).symm
  have hcl := hF.len
  have hsl : (srtC rs).length = rs.length := (srtC_perm rs).length_eq
  obtain ⟨hch1, hch2⟩ := ch_len (P := PB m) (srtC rs)
  have hsum : ((KMat.ch (PB m) (srtC rs)).map fun c => c.map Rw.num).length ≤ 100 ∧ ∀ c ∈ cs, c.length ≤ 100 ∧ c ≠ [] := by
    refine ⟨by rw [List.length_map]; omega, fun c hc => ?_⟩
    obtain ⟨g, hg, rfl⟩ := List.mem_map.mp (hcs.mem_iff.mp hc)
    have := hch2 g hg
    exact ⟨by rw [List.length_map]; omega, fun z => ch_ne g hg (List.map_eq_nil_iff.mp z)⟩
  have hcsl := hcs.length_eq
  refine ⟨l, rfl, ⟨_, SqL.of el⟩, for_list (K := K) (a := l) (xs := cl) (fun i σ H' => ∃ (w3 w4 : Option V) (ys : List V), σ = [some (.ref b), some (.int m), some (.ref tl), w3, w4] ∧ H' tl = some (.lst ys) ∧ F2 (PrV H') ys ((cs.take i).flatMap fun c => (KMat.prs c).map mkp) ∧ ys.length ≤ 50 * i ∧ But tl H2 H') ⟨_, _, [], rfl, etl2, .nil, Nat.le_refl _, But.refl _ _⟩ (fun i σ H' _ h => ?_) ?_ ?_⟩
  · obtain ⟨_, _, _, _, _, _, _, k⟩ := h
    exact SqL.of (k _ _ nlt el)
  · rintro i x σ H3 hi ⟨w3, w4, ys, rfl, etl3, hF3, ly, b3⟩
    have hil : i < cl.length := (List.getElem?_eq_some_iff.mp hi).1
    have hi100 : i ≤ 100 := by have := hsum.1; omega
    obtain ⟨c, hci, a, rfl, ha⟩ := hF.get hi
    have hcm : c ∈ cs := List.mem_of_getElem? hci
    obtain ⟨hc100, hcne⟩ := hsum.2 c hcm
    have nat_ : a ≠ tl := fun z => by
      rw [z, etl2] at ha
      injection ha with ha
      injection ha with ha
      exact hcne (List.map_eq_nil_iff.mp ha.symm)
    have ha3 := b3 _ _ nat_ ha
    have hlc : ((c.map V.int).length : Nat) = c.length := List.length_map ..
    refine ⟨_, rfl, a, _, rfl, .inl (SqL.of ha3), 1, _, 2, c.length / 2, rfl, ?_, for_rangeC (lo := 1) (c := 2) (n := c.length / 2) (fun k σ H' => ∃ (w4 : Option V) (ys : List V), σ = [some (.ref b), some (.int m), some (.ref tl), some (.ref a), w4] ∧ H' tl = some (.lst ys) ∧ F2 (PrV H') ys (((cs.take i).flatMap fun c => (KMat.prs c).map mkp) ++ ((KMat.prs c).take k).map mkp) ∧ ys.length ≤ 50 * i + k ∧ But tl H2 H') ⟨_, ys, rfl, etl3, by rw [List.take_zero, List.map_nil, List.append_nil]; exact hF3, by omega, b3⟩ ?_ ?_⟩
    · rw [hlc]
      exact step2 _ hc100
    · rintro k σ H4 hk ⟨w4, zs, rfl, etl4, hF4, lz, b4⟩
      have ha4 := b4 _ _ nat_ ha
      obtain ⟨x, y, p1, p2, p3⟩ := prs_at hk
      have a1 : atI (c.map V.int) (1 + (k : Int) * 2 - 1) = some (.int x) := by
        rw [show (1 + (k : Int) * 2 - 1) = ((2 * k : Nat) : Int) by omega]
        exact atI_nat (by rw [List.getElem?_map, p2]; rfl)
      have a2 : atI (c.map V.int) (1 + (k : Int) * 2) = some (.int y) := by
        rw [show (1 + (k : Int) * 2) = ((2 * k + 1 : Nat) : Int) by omega]
        exact atI_nat (by rw [List.getElem?_map, p3]; rfl)
      refine ⟨_, rfl, .inl ⟨rfl, _, SqL.of etl4⟩, ?_⟩
      refine ⟨_, rfl, _, rfl, _, _, rfl, rfl, a, _, _, _, rfl, rfl, SqL.of ha4, a1, _, rfl, _, rfl, a, _, _, _, rfl, rfl, SqL.of ha4, a2, _, _, rfl, ?_⟩
      refine ⟨_, rfl, _, rfl, _, _, rfl, rfl, a, _, _, _, rfl, rfl, SqL.of ha4, a1, _, rfl, _, rfl, a, _, _, _, rfl, rfl, SqL.of ha4, a2, _, _, rfl, ?_⟩
      refine ⟨(by show 2 ≤ sizeLine; decide), fun t ht => ?_⟩
      have zt := same_upd ht (o := .tup [.int (mkp (x, y)).1, .int (mkp (x, y)).2])
      have etl5 := zt _ _ etl4
      refine ⟨tl, zs, _, rfl, rfl, etl5, Nat.lt_of_le_of_lt (show zs.length ≤ 100000 by omega) (by decide), ?_⟩
      have nz := (NL.of zt).trans (NL.at_ etl5 (o := .lst (zs ++ [.ref t])))
      refine ⟨_, zs ++ [.ref t], rfl, upd_same, ?_, by rw [List.length_append, List.length_singleton]; omega, (b4.trans (But.of zt)).trans But.at_⟩
      rw [List.take_add_one, p1, List.map_append, ← List.append_assoc]
      exact F2.snoc ⟨t, rfl, NL.at_ etl5 _ _ (fun _ z => by cases z) upd_same⟩ (hF4.mono fun v z h => h.nl nz)
    · rintro σ H4 ⟨w4, zs, rfl, etl4, hF4, lz, b4⟩
      rw [List.take_of_length_le (l := KMat.prs c) (i := c.length / 2) (by rw [prs_len]; exact Nat.le_refl _)] at hF4
      refine ⟨_, _, zs, rfl, etl4, ?_, by omega, b4⟩
      rw [List.take_add_one, hci, List.flatMap_append]
      show F2 _ _ (_ ++ ((KMat.prs c).map mkp ++ []))
      rw [List.append_nil]
      exact hF4
  · rintro σ H3 ⟨w3, w4, ys, rfl, etl3, hF3, ly, b3⟩
    rw [List.take_of_length_le (by omega)] at hF3
    have hzs := f2_map hF3
    have sH : Same H H3 := But.same htl (s1.trans s2) b3
    refine ⟨_, rfl, tl, ys, keyV H3, rfl, SqL.of etl3, fun x hx => ?_, fun ys' p srtd stb hp => ?_⟩
    · obtain ⟨z, _, t, h1, h2⟩ := f2_mem hF3 x hx
      have hk := keyV_of (H := H3) (v := x) (z := z) ⟨t, h1, h2⟩
      rw [hk]
      exact ⟨t, h1, h2⟩
    · have zp := same_upd hp (o := .lst ys')
      have pm := stb.perm
      refine q _ p ys' (ys'.map (keyV H3)) (sH.trans zp) (sH.free hp) upd_same ((f2_self fun y hy => ?_).mono fun v z h => h.nl (NL.of zp)) ?_ ?_
      · obtain ⟨z, _, h⟩ := f2_mem hF3 y (pm.mem_iff.mp hy)
        exact ⟨z, h⟩
      · refine (pm.map _).trans ?_
        rw [← hzs]
        exact pairs_ch m rs hcs
      · exact List.pairwise_map.mpr srtd
end
end KB
namespace KB
open PySem PySem.Spec PyProof.Rows L2 KA

section
variable {P : Program} {w : World} {K : PySem.W.Frag} {mg : Str → Option Value} {base : Heap}
def lkVals (r : Rw) : List V := [.str r.sh, .str r.fo, .bl r.dr]
def lkf (r r' : Rw) (i : Nat) : Bool := match (lkVals r)[i]?, (lkVals r')[i]? with
  | some x, some y => eqV x y
  | _, _ => true
theorem lkf_all (r r' : Rw) : (decide ((lkVals r).length = (lkVals r').length) && allF (lkVals r).length (lkf r r')) = look r r' := by
  show (true && ((r.sh == r'.sh) && ((r.fo == r'.fo) && ((r.dr == r'.dr) && true)))) = _
  unfold look
  rw [Bool.true_and, Bool.and_true]
  rfl
theorem flat_lk {r : Rw} {x : V} (h : x ∈ lkVals r) : flatV x = true := by
  unfold lkVals at h
  simp only [List.mem_cons, List.not_mem_nil, or_false] at h
  rcases h with rfl | rfl | rfl <;> rfl
theorem lk_tup {H : Hp} {s s' : Addr} {r r' : Rw} (h : H s = some (.tup (lkVals r))) (h' : H s' = some (.tup (lkVals r'))) : BTup K BFlat (.ref s) (.ref s') (look r r') H := by
  refine ⟨s, s', lkVals r, lkVals r', lkf r r', rfl, rfl, .inl (.inl h), .inl (.inl h'), fun i x y hx hy => ⟨flat_lk (List.mem_of_getElem? hx), flat_lk (List.mem_of_getElem? hy), ?_⟩, (lkf_all r r').symm⟩
  unfold lkf
  rw [hx, hy]
/-- as the law asks it -/
def DP (m : Int) (a b : Rw) : Bool := PB m a b && !decide (a.num = b.num)
def spDo (C : Addr) : Sp := fun vs H Q _ => ∃ (p p' : Addr) (r r' : Rw) (m : Int), vs = [.ref p, .ref p', .int m] ∧ BeadAt C H p r ∧ BeadAt C H p' r' ∧ ∀ H', Same H H' → Q (.bl (DP m r r')) H'
theorem ok_do_pair (T : Tx K mg) : FnOk P w K mg base CX0 4 T.A_do_pair T.fd_do_pair ["_law_one_here", "_law_other", "_law_wide_by"] (spDo T.C_Bead) := by
  refine T.F_do_pair.ok sc_do_pair (fun vs H Q E h => ?_) (fun cdv A outer s H vs Q E hr h => ?_)
  · obtain ⟨p, p', r, r', m, rfl, ⟨dx, hp⟩, ⟨dx', hp'⟩, q⟩ := h
    rfl
  obtain ⟨p, p', r, r', m, rfl, ⟨dx, hp⟩, ⟨dx', hp'⟩, q⟩ := h
  refine ⟨_, (pss_cons (ps_set (i := 3) sc_do_pair.nd rfl (Or.inl rfl) (pe_cmpR (op_eqB (rcB_tup false monB_flat eqB_flat) (hr.mono (by decide))) (pe_tup (pa_cons (pe_fld (pv 0) rfl) (pa_cons (pe_fld (pv 0) rfl) (pa_cons (pe_fld (pv 0) rfl) pa_nil)))) (pe_tup (pa_cons (pe_fld (pv 1) rfl) (pa_cons (pe_fld (pv 1) rfl) (pa_cons (pe_fld (pv 1) rfl) pa_nil)))) (nomark _)))
      (pss_cons (ps_if (PW.pt (pw_or (pt_not (pt_val (pv 3))) (pw_or1 (pt_cmpR op_eq (pe_fld (pv 0) rfl) (pe_fld (pv 1) rfl) (nomark _))))) (pss_one (ps_ret pe_bl)) pss_nil)
      (pss_one (ps_ret (pe_cmpR op_le (pe_callB call_abs (by rfl) T.z_abs (by decide +kernel) (pa_cons (pe_op op_sub (pe_fld (pv 0) rfl) (pe_fld (pv 1) rfl)) pa_nil)) (pv 2) (nomark _)))))), ?_⟩
  refine ⟨_, rfl, p, _, dx, _, _, rfl, hp, T.cl_Bead, T.n_Bead_shade, bf_shade r, _, rfl, p, _, dx, _, _, rfl, hp, T.cl_Bead, T.n_Bead_form, bf_form r, _, rfl, p, _, dx, _, _, rfl, hp, T.cl_Bead, T.n_Bead_drilled, bf_drilled r, (by show 3 ≤ sizeLine; decide), fun t ht => ?_⟩
  have z1 := same_upd ht (o := .tup (lkVals r))
  refine ⟨_, rfl, p', _, dx', _, _, rfl, z1 _ _ hp', T.cl_Bead, T.n_Bead_shade, bf_shade r', _, rfl, p', _, dx', _, _, rfl, z1 _ _ hp', T.cl_Bead, T.n_Bead_form, bf_form r', _, rfl, p', _, dx', _, _, rfl, z1 _ _ hp', T.cl_Bead, T.n_Bead_drilled, bf_drilled r', (by show 3 ≤ sizeLine; decide), fun t' ht' => ?_⟩
  have z2 := same_upd ht' (o := .tup (lkVals r'))
  refine ⟨_, lk_tup (z2 _ _ upd_same) upd_same, fun H3 z3 => ?_⟩
  have s3 : Same H H3 := (z1.trans z2).trans z3
  have q := q H3 s3
  have e : DP m r r' = (look r r' && decide (gap r r' ≤ m) && !decide (r.num = r'.num)) := rfl
  rw [e] at q
  rw [Bool.false_xor]
  refine ⟨_, rfl, _, rfl, ?_⟩
  cases hL : look r r' with
  | false =>
    rw [hL] at q
    exact iteT q
  | true =>
    rw [hL, Bool.true_and] at q
    refine iteF ?_
    refine ⟨_, rfl, p, _, dx, _, _, rfl, s3 _ _ hp, T.cl_Bead, T.n_Bead_number, bf_number r, _, rfl, p', _, dx', _, _, rfl, s3 _ _ hp', T.cl_Bead, T.n_Bead_number, bf_number r', rfl, _, rfl, ?_⟩
    rw [dec_int]
    by_cases hn : r.num = r'.num
    · rw [decide_eq_true hn, Bool.not_true, Bool.and_false] at q
      rw [decide_eq_true hn]
      exact iteT q
    · rw [decide_eq_false hn, Bool.not_false, Bool.and_true] at q
      rw [decide_eq_false hn]
      exact iteF ⟨_, rfl, p, _, dx, _, _, rfl, s3 _ _ hp, T.cl_Bead, T.n_Bead_across, bf_across r, _, rfl, p', _, dx', _, _, rfl, s3 _ _ hp', T.cl_Bead, T.n_Bead_across, bf_across r', _, _, rfl, rfl, _, rfl, _, rfl, _, _, rfl, rfl, q⟩
/-! ### the pairs told are right -/
def flI (zs : List (Int × Int)) : List Int := zs.flatMap fun z => [z.1, z.2]
def OkPs (m : Int) (rs : List Rw) (zs : List (Int × Int)) : Prop := (∀ z ∈ zs, z.1 < z.2 ∧ ∃ r r', r ∈ rs ∧ r' ∈ rs ∧ r.num = z.1 ∧ r'.num = z.2 ∧ PB m r r' = true) ∧ (flI zs).Nodup
theorem perm_flI {zs ws : List (Int × Int)} (h : zs.Perm ws) : (flI zs).Perm (flI ws) := List.Perm.flatMap_right _ h
theorem flI_nums : ∀ L : List (Rw × Rw), (flI (L.map fun p => mkp (numP p))).Perm ((KMat.flat L).map Rw.num)
  | [] => .refl _
  | p :: L => by
    have ih := flI_nums L
    show ((mkp (numP p)).1 :: (mkp (numP p)).2 :: flI (L.map fun p => mkp (numP p))).Perm (p.1.num :: p.2.num :: (KMat.flat L).map Rw.num)
    unfold mkp numP
    dsimp only
    by_cases c : p.2.num < p.1.num
    · rw [if_pos c, if_neg (by omega)]
      exact (List.Perm.swap _ _ _).trans ((ih.cons _).cons _)
    · rw [if_neg c]
      by_cases c2 : p.2.num > p.1.num
      · rw [if_pos c2]
        exact (ih.cons _).cons _
      · rw [if_neg c2, show p.2.num = p.1.num by omega]
        exact (ih.cons _).cons _
theorem nodup_of_nums {rs : List Rw} (u : (rs.map Rw.num).Nodup) : rs.Nodup := by
  induction rs with
  | nil => exact List.nodup_nil
  | cons r rs ih =>
    rw [List.map_cons, List.nodup_cons] at u
    rw [List.nodup_cons]
    exact ⟨fun h => u.1 (List.mem_map_of_mem h), ih u.2⟩
theorem nodup_nums {rs : List Rw} (u : (rs.map Rw.num).Nodup) : ∀ {ss : List Rw}, ss.Nodup → (∀ s ∈ ss, s ∈ rs) → (ss.map Rw.num).Nodup
  | [], _, _ => List.nodup_nil
  | s :: ss, h, k => by
    rw [List.nodup_cons] at h
    rw [List.map_cons, List.nodup_cons]
    refine ⟨fun hm => ?_, nodup_nums u h.2 fun x hx => k x (List.mem_cons_of_mem _ hx)⟩
    obtain ⟨x, hx, e⟩ := List.mem_map.mp hm
    have := num_inj u (k x (List.mem_cons_of_mem _ hx)) (k s (List.mem_cons_self ..)) e
    rw [this] at hx
    exact h.1 hx
/-- neighbours in order are a matching of the beads -/
theorem gp_rows (m : Int) {rs : List Rw} (u : (rs.map Rw.num).Nodup) : KMat.Mt (PB m) (· ∈ rs) (KMat.gp (PB m) (srtC rs)) :=
  (KMat.gp_mt (srtC rs) ((srtC_perm rs).symm.nodup (nodup_of_nums u))).mono fun r hr => (srtC_perm rs).mem_iff.mp (KMat.gp_sub _ r hr)
theorem pairs_ok {m : Int} {rs : List Rw} (u : (rs.map Rw.num).Nodup) {zs : List (Int × Int)} (h : zs.Perm (pairsOf m rs)) : OkPs m rs zs := by
  have M := gp_rows m u
  refine ⟨fun z hz => ?_, ?_⟩
  · obtain ⟨p, hp, rfl⟩ := List.mem_map.mp (h.mem_iff.mp hz)
    have m1 : p.1 ∈ KMat.flat (KMat.gp (PB m) (srtC rs)) := List.mem_flatMap.mpr ⟨p, hp, List.mem_cons_self ..⟩
    have m2 : p.2 ∈ KMat.flat (KMat.gp (PB m) (srtC rs)) := List.mem_flatMap.mpr ⟨p, hp, List.mem_cons_of_mem _ (List.mem_cons_self ..)⟩
    have hP := M.ok p hp
    have r1 := M.sub _ m1
    have r2 := M.sub _ m2
    have ne : p.1.num ≠ p.2.num := fun e => by
      have e2 := num_inj u r1 r2 e
      obtain ⟨L1, L2, hL⟩ := List.append_of_mem hp
      have nd := M.nd
      rw [hL, KMat.flat_app, KMat.flat_cons, List.nodup_append] at nd
      have := nd.2.1
      rw [List.nodup_cons, e2] at this
      exact this.1 (List.mem_cons_self ..)
    unfold mkp numP
    dsimp only
    by_cases c : p.2.num < p.1.num
    · rw [if_pos c, if_neg (by omega)]
      exact ⟨c, p.2, p.1, r2, r1, rfl, rfl, by rw [pb_sym]; exact hP⟩
    · rw [if_neg c, if_pos (by omega)]
      exact ⟨by show p.1.num < p.2.num; omega, p.1, p.2, r1, r2, rfl, rfl, hP⟩
  · refine (perm_flI h).symm.nodup ?_
    refine (flI_nums _).symm.nodup ?_
    exact nodup_nums u M.nd M.sub
end
end KB
namespace KB
open PySem PySem.Spec PyProof.Rows L2 KA

section
variable {P : Program} {w : World} {K : PySem.W.Frag} {mg : Str → Option Value} {base : Heap}
/-- beads by their numbers -/
def KnB (C : Addr) (H : Hp) (kvs : List (Key × V)) (rs : List Rw) : Prop := (kvs.map (·.1)) = (rs.map Rw.num).map Sum.inl ∧ ∀ r ∈ rs, ∃ p, valV kvs (Sum.inl r.num : Key) = some (.ref p) ∧ BeadAt C H p r
theorem acc_bl {acc xs : List V} {f : V → Bool} (hl : acc.length = xs.length) (h : ∀ (j : Nat) v, acc[j]? = some v → ∃ x, xs[j]? = some x ∧ v = .bl (f x)) : acc = (xs.map f).map V.bl := by
  rw [List.map_map]
  refine List.ext_getElem? fun j => ?_
  rw [List.getElem?_map]
  cases e : acc[j]? with
  | none =>
    have := List.getElem?_eq_none_iff.mp e
    rw [List.getElem?_eq_none (by omega)]
    rfl
  | some v =>
    obtain ⟨x, h1, h2⟩ := h j v e
    rw [h1, h2]
    rfl
theorem acc_bl2 {α : Type} {acc : List V} {xs : List α} {f : α → Bool} (hl : acc.length = xs.length) (h : ∀ (j : Nat) v, acc[j]? = some v → ∃ x, xs[j]? = some x ∧ v = .bl (f x)) : acc = (xs.map f).map V.bl := by
  rw [List.map_map]
  refine List.ext_getElem? fun j => ?_
  rw [List.getElem?_map]
  cases e : acc[j]? with
  | none =>
    have := List.getElem?_eq_none_iff.mp e
    rw [List.getElem?_eq_none (by omega)]
    rfl
  | some v =>
    obtain ⟨x, h1, h2⟩ := h j v e
    rw [h1, h2]
    rfl
def inN (ns : List Int) : V → Bool
  | .int n => decide (n ∈ ns)
  | _ => false
theorem has_key {kvs : List (Key × V)} {ns : List Int} (h : (kvs.map (·.1)) = ns.map Sum.inl) (n : Int) : (valV kvs (Sum.inl n : Key)).isSome = decide (n ∈ ns) := by
  rw [← valV_any, Bool.eq_iff_iff, List.any_eq_true, decide_eq_true_iff]
  constructor
  · rintro ⟨kv, h1, h2⟩
    have h3 : kv.1 ∈ ns.map (Sum.inl : Int → Key) := by rw [← h]; exact List.mem_map_of_mem h1
    obtain ⟨k, h4, h5⟩ := List.mem_map.mp h3
    rw [of_decide_eq_true h2] at h5
    injection h5 with h5
    rw [← h5]
    exact h4
  · intro hn
    have h3 : (Sum.inl n : Key) ∈ kvs.map (·.1) := by rw [h]; exact List.mem_map_of_mem hn
    obtain ⟨kv, h4, h5⟩ := List.mem_map.mp h3
    exact ⟨kv, h4, decide_eq_true h5⟩
theorem all_int {ns : List Int} : ∀ {xs : List V}, xs.all (inN ns) = true → ∃ zs : List Int, xs = zs.map V.int ∧ ∀ z ∈ zs, z ∈ ns
  | [], _ => ⟨[], rfl, fun z h => nomatch h⟩
  | x :: xs, h => by
    rw [List.all_cons, Bool.and_eq_true] at h
    obtain ⟨zs, rfl, hz⟩ := all_int h.2
    cases x with
    | int n => exact ⟨n :: zs, rfl, fun z h2 => by
        rcases List.mem_cons.mp h2 with rfl | h2
        · exact of_decide_eq_true h.1
        · exact hz z h2⟩
    | _ => exact absurd h.1 Bool.false_ne_true
theorem nodup_int {zs : List Int} : (zs.map V.int).Nodup ↔ zs.Nodup := by
  constructor
  · exact fun h => List.Pairwise.of_map V.int (fun a b e e2 => e (by rw [e2])) h
  · exact fun h => List.Pairwise.map V.int (fun a b e e2 => e (by injection e2)) h
def onceB (ns : List Int) (xs : List V) : Bool := xs.all (inN ns) && decide xs.Nodup
def spOnce (K : PySem.W.Frag) : Sp := fun vs H Q _ => ∃ (l kn : Addr) (xs : List V) (ns : List Int) (kvs : List (Key × V)), vs = [.ref l, .ref kn] ∧ H l = some (.lst xs) ∧ (∀ v ∈ xs, Th K H v) ∧ H kn = some (.dK kvs) ∧ kvs.map (·.1) = ns.map Sum.inl ∧ xs.length ≤ 1000 ∧ ∀ H', Same H H' → Q (.bl (onceB ns xs)) H'
theorem ok_are_once (T : Tx K mg) : FnOk P w K mg base CX0 2 T.A_are_once T.fd_are_once ["numbers", "by_number"] (spOnce K) := by
  refine T.F_are_once.ok sc_are_once (fun vs H Q E h => ?_) (fun cdv A outer s H vs Q E hr h => ?_)
  · obtain ⟨l, kn, xs, ns, kvs, rfl, hl, hth, hk, hkn, hlen, q⟩ := h
    rfl
  obtain ⟨l, kn, xs, ns, kvs, rfl, hl, hth, hk, hkn, hlen, q⟩ := h
  refine ⟨_, (pss_cons (ps_if (pt_not (pt_val (pe_callB (cr_all rfl) (by rfl) T.z_all (by decide +kernel) (pa_cons (pe_lc (own := [("number", 2)]) (g := gName 2) (tt := tYes) rfl sc_are_once.nd (pi_list (pv 0)) (blkOk_by (N := ["numbers", "by_number", "number"]) (sc := defScope s_are_once) (by decide +kernel)) (fun _ _ _ _ _ => (pg_name (i := 2) sc_are_once.nd rfl (Or.inl rfl))) (fun _ _ _ _ _ => pts_nil) (fun _ _ _ _ _ => (pe_and (pe_call (ok_is_int T) (hr.mono (by decide)) (by rfl) T.g_is_int T.F_is_int.kp T.b_is_int .nil pass0 (pa_cons (pv 2) pa_nil)) (pe_one (pe_cmp (pc_din (Nat.lt_of_le_of_lt (Nat.add_le_add_left (by decide) _) hr.units) (pv 2) (pv 1))))))) pa_nil)))) (pss_one (ps_ret pe_bl)) pss_nil)
      (pss_one (ps_ret (pe_cmpR op_eq (pe_lenSetD (by rfl) T.z_len (by rfl) T.z_set (pv 0)) (pe_callB call_len_seq (by rfl) T.z_len PySem.boot_len (pa_cons (pv 0) pa_nil)) (nomark _))))), ?_⟩
  refine ⟨_, rfl, l, rfl, ⟨_, SqL.of hl⟩, fun D hD => lc_gen (K := K) hD (SqL.of hl) (by omega) (fun j v _ => ∃ x, xs[j]? = some x ∧ v = .bl (inN ns x)) (fun _ _ _ _ _ h => h) (fun j x H2 R C hx s2 hR => ?_) fun H3 acc s3 eD lD gD => ?_⟩
  · have thx := hth x (List.mem_of_getElem? hx)
    refine ⟨rfl, yesT ⟨_, rfl, x, rfl, thx.same s2, ?_⟩⟩
    cases x with
    | int n => 
      refine ⟨_, rfl, iteT ⟨_, rfl, _, rfl, kn, valV kvs (Sum.inl n), rfl, .inl ⟨kvs, .inl n, .inl (s2 _ _ hk), rfl, rfl⟩, ?_⟩⟩
      rw [has_key hkn]
      exact hR _ _ (Same.refl _) ⟨_, hx, rfl⟩
    | _ => exact ⟨_, rfl, iteF (hR _ _ (Same.refl _) ⟨_, hx, rfl⟩)⟩
  · have ea := acc_bl lD gD
    rw [ea] at eD
    refine ⟨D, _, rfl, SqL.of eD, _, rfl, ?_⟩
    have e : (xs.map (inN ns)).all id = xs.all (inN ns) := by rw [List.all_map]; rfl
    rw [e]
    cases hA : xs.all (inN ns) with
    | false =>
      refine iteT ?_
      have q := q H3 s3
      unfold onceB at q
      rw [hA] at q
      exact q
    | true =>
      refine iteF ?_
      obtain ⟨zs, rfl, hz⟩ := all_int hA
      have hzl : zs.length ≤ 1000 := by rwa [List.length_map] at hlen
      refine ⟨_, rfl, l, zs, rfl, SqL.of (s3 _ _ hl), by omega, _, rfl, l, _, rfl, .inl (SqL.of (s3 _ _ hl)), rfl, ?_⟩
      have q := q H3 s3
      unfold onceB at q
      rw [hA, Bool.true_and] at q
      rw [List.length_map, dec_int]
      have e2 : decide (((lenF zs : Nat) : Int) = ((zs.length : Nat) : Int)) = decide (zs.map V.int).Nodup := by
        refine decide_eq_decide.mpr ?_
        rw [nodup_int, ← lenF_iff]
        omega
      rw [e2]
      exact q
theorem kit_list (K : PySem.W.Frag) : PySem.W.kitOne K (.type "list") (.type "list") = some true := by rfl
theorem kit_tuple (K : PySem.W.Frag) : PySem.W.kitOne K (.type "tuple") (.type "tuple") = some true := by rfl
/-! what may stand for a pair, and for pairs -/
inductive Pq where
  | two (a b : V)
  | odd
def PqAt (K : PySem.W.Frag) (H : Hp) (v : V) : Pq → Prop
  | .two a b => ∃ t, v = .ref t ∧ H t = some (.tup [a, b]) ∧ Th K H a ∧ Th K H b
  | .odd => ∃ ty, TyX K H v ty ∧ (PySem.W.kitOne K ty (.type "tuple") = some false ∨ (PySem.W.kitOne K ty (.type "tuple") = some true ∧ ∃ t xs, v = .ref t ∧ H t = some (.tup xs) ∧ xs.length ≠ 2))
theorem PqAt.same {H H' : Hp} (s : Same H H') : ∀ {q : Pq} {v : V}, PqAt K H v q → PqAt K H' v q
  | .two a b, v, h => by
    obtain ⟨t, rfl, e, h1, h2⟩ := h
    exact ⟨t, rfl, s _ _ e, h1.same s, h2.same s⟩
  | .odd, v, h => by
    obtain ⟨ty, h1, h2⟩ := h
    refine ⟨ty, tyx_same s h1, h2.imp id fun ⟨k, t, xs, e, e2, n⟩ => ⟨k, t, xs, e, s _ _ e2, n⟩⟩
def PsAt (K : PySem.W.Frag) (H : Hp) (v : V) : Option (List Pq) → Prop
  | some qs => ∃ a ys, v = .ref a ∧ H a = some (.lst ys) ∧ F2 (PqAt K H) ys qs
  | none => ∃ ty, TyX K H v ty ∧ PySem.W.kitOne K ty (.type "list") = some false
theorem PsAt.same {H H' : Hp} (s : Same H H') : ∀ {o : Option (List Pq)} {v : V}, PsAt K H v o → PsAt K H' v o
  | some qs, v, h => by
    obtain ⟨a, ys, e, e2, f⟩ := h
    exact ⟨a, ys, e, s _ _ e2, f.mono fun _ _ h => h.same s⟩
  | none, v, h => by
    obtain ⟨ty, h1, h2⟩ := h
    exact ⟨ty, tyx_same s h1, h2⟩
def lenO {α : Type} : Option (List α) → Nat
  | some xs => xs.length
  | none => 0
def twoB : Pq → Bool
  | .two _ _ => true
  | .odd => false
def flQ : Pq → List V
  | .two a b => [a, b]
  | .odd => []
def flP (qs : List Pq) : List V := qs.flatMap flQ
theorem len_flP (qs : List Pq) : (flP qs).length ≤ 2 * qs.length := by
  induction qs with
  | nil => exact Nat.le_refl _
  | cons z zs ih =>
    show (flQ z ++ flP zs).length ≤ 2 * (zs.length + 1)
    rw [List.length_append]
    cases z with
    | two a b => show 2 + _ ≤ _; omega
    | odd => show 0 + _ ≤ _; omega
def rowN (rs : List Rw) (n : Int) : Option Rw := rs.find? fun r => decide (r.num = n)
theorem rowN_mem {rs : List Rw} {n : Int} (h : n ∈ rs.map Rw.num) : ∃ r, rowN rs n = some r ∧ r ∈ rs ∧ r.num = n := by
  obtain ⟨r, hr, e⟩ := List.mem_map.mp h
  cases e2 : rowN rs n with
  | none =>
    have := List.find?_eq_none.mp e2 r hr
    exact absurd (decide_eq_true e) this
  | some r' => exact ⟨r', rfl, List.mem_of_find?_eq_some e2, of_decide_eq_true (List.find?_some (p := fun r : Rw => decide (r.num = n)) e2)⟩
def pbN (m : Int) (rs : List Rw) : V → V → Bool
  | .int a, .int b => match rowN rs a, rowN rs b with
    | some r, some r' => PB m r r'
    | _, _ => false
  | _, _ => false
theorem pbN_of {m : Int} {rs : List Rw} {a b : Int} {r r' : Rw} (h : rowN rs a = some r) (h' : rowN rs b = some r') : pbN m rs (.int a) (.int b) = PB m r r' := by
  simp only [pbN, h, h']
def pbQ (m : Int) (rs : List Rw) : Pq → Bool
  | .two a b => pbN m rs a b
  | .odd => false
def pairsB (m : Int) (rs : List Rw) (qs : List Pq) : Bool := qs.all twoB && (onceB (rs.map Rw.num) (flP qs) && qs.all (pbQ m rs))
def psB (m : Int) (rs : List Rw) : Option (List Pq) → Bool
  | some qs => pairsB m rs qs
  | none => false
def spPairsOk (K : PySem.W.Frag) (C : Addr) : Sp := fun vs H Q _ => ∃ (px : V) (kn : Addr) (m : Int) (o : Option (List Pq)) (kvs : List (Key × V)) (rs : List Rw), vs = [px, .ref kn, .int m] ∧ PsAt K H px o ∧ H kn = some (.dK kvs) ∧ KnB C H kvs rs ∧ lenO o ≤ 400 ∧ ∀ H', Same H H' → Q (.bl (psB m rs o)) H'
theorem ok_are_pairs (T : Tx K mg) : FnOk P w K mg base CX0 9 T.A_are_pairs T.fd_are_pairs ["pairs", "by_number", "match"] (spPairsOk K T.C_Bead) := by
  refine T.F_are_pairs.ok sc_are_pairs (fun vs H Q E h => ?_) (fun cdv A outer s H vs Q E hr h => ?_)
  · obtain ⟨px, kn, m, o, kvs, rs, rfl, hp, hk, hK, hlen, q⟩ := h
    rfl
  obtain ⟨px, kn, m, o, kvs, rs, rfl, hp, hk, hK, hlen, q⟩ := h
  refine ⟨_, (pss_cons (ps_if (PW.pt (pw_or (pt_not (pt_val (pe_callB call_isi (by rfl) T.z_isinstance (by decide +kernel) (pa_cons (pv 0) (pa_cons (pe_bltn (v := .ty "list") (by rfl) T.z_list (by decide +kernel) rfl) pa_nil))))) (pw_or1 (pt_not (pt_val (pe_callB (cr_all rfl) (by rfl) T.z_all (by decide +kernel) (pa_cons (pe_lc (own := [("pair", 5)]) (g := gName 5) (tt := tYes) rfl sc_are_pairs.nd (pi_list (pv 0)) (blkOk_by (N := ["pairs", "by_number", "match", "one", "other", "pair", "number"]) (sc := defScope s_are_pairs) (by decide +kernel)) (fun _ _ _ _ _ => (pg_name (i := 5) sc_are_pairs.nd rfl (Or.inl rfl))) (fun _ _ _ _ _ => pts_nil) (fun _ _ _ _ _ => (pe_and (pe_callB (call_isiB (K' := K) rfl) (by rfl) T.z_isinstance (by decide +kernel) (pa_cons (pv 5) (pa_cons (pe_bltn (v := .ty "tuple") (by rfl) T.z_tuple (by decide +kernel) rfl) pa_nil))) (pe_one (pe_cmpR op_eq (pe_callB (call_len_seqK (K' := K) rfl) (by rfl) T.z_len PySem.boot_len (pa_cons (pv 5) pa_nil)) pe_int (nomark _)))))) pa_nil))))))) (pss_one (ps_ret pe_bl)) pss_nil)
      (pss_cons (ps_if (pt_not (pt_val (pe_call (ok_are_once T) (hr.mono (by decide)) (by rfl) T.g_are_once T.F_are_once.kp T.b_are_once .nil pass0 (pa_cons (pe_lc2 (own := [("pair", 5), ("number", 6)]) (vs1 := [6]) (g := gName 5) (g1 := gName 6) (tt := tYes) (tt1 := tYes) rfl sc_are_pairs.nd (pi_list (pv 0)) (blkOk_by (N := ["pairs", "by_number", "match", "one", "other", "pair", "number"]) (sc := defScope s_are_pairs) (by decide +kernel)) (by decide) (fun _ _ _ _ _ => (pg_name (i := 5) sc_are_pairs.nd rfl (Or.inl rfl))) (fun _ _ _ _ _ => pts_nil) (fun _ _ _ _ _ => (pi_tupK (K' := K) rfl (pv 5))) (fun _ _ _ _ _ => (pg_name (i := 6) sc_are_pairs.nd rfl (Or.inl rfl))) (fun _ _ _ _ _ => pts_nil) (fun _ _ _ _ _ => (pv 6))) (pa_cons (pv 1) pa_nil))))) (pss_one (ps_ret pe_bl)) pss_nil)
      (pss_one (ps_ret (pe_callB (cr_all rfl) (by rfl) T.z_all (by decide +kernel) (pa_cons (pe_lc (own := [("one", 3), ("other", 4)]) (g := gTup K 2 (gCons (gName 3) (gCons (gName 4) gNil))) (tt := tYes) rfl sc_are_pairs.nd (pi_list (pv 0)) (blkOk_by (N := ["pairs", "by_number", "match", "one", "other", "pair", "number"]) (sc := defScope s_are_pairs) (by decide +kernel)) (fun _ _ _ _ _ => (pg_tupK (K' := K) rfl (by rfl) (pgs_cons (pg_name (i := 3) sc_are_pairs.nd rfl (Or.inl rfl)) (pgs_cons (pg_name (i := 4) sc_are_pairs.nd rfl (Or.inl rfl)) pgs_nil)))) (fun _ _ _ _ _ => pts_nil) (fun _ _ _ _ _ => (pe_call (ok_may_pair T) (hr.mono (by decide)) (by rfl) T.g_may_pair T.F_may_pair.kp T.b_may_pair .nil pass0 (pa_cons (pe_dget (Nat.lt_of_le_of_lt (Nat.add_le_add_left (by decide) _) hr.units) (pv 1) (pv 3) (fun _ _ => rfl)) (pa_cons (pe_dget (Nat.lt_of_le_of_lt (Nat.add_le_add_left (by decide) _) hr.units) (pv 1) (pv 4) (fun _ _ => rfl)) (pa_cons (pv 2) pa_nil)))))) pa_nil)))))), ?_⟩
  cases o with
  | none =>
    obtain ⟨ty, t1, t2⟩ := hp
    refine ⟨_, rfl, _, _, ty, _, false, rfl, .ty _, t1, t2, _, rfl, iteT ?_⟩
    exact q _ (Same.refl _)
  | some qs =>
    obtain ⟨pl, ys, rfl, hpl, hF⟩ := hp
    have hlen : qs.length ≤ 400 := hlen
    refine ⟨_, rfl, _, _, .type "list", _, true, rfl, .ty _, .base (.lst hpl), kit_list K, _, rfl, iteF ?_⟩
    refine ⟨_, rfl, pl, rfl, ⟨_, SqL.of hpl⟩, fun D hD => lc_gen (K := K) hD (SqL.of hpl) (by rw [hF.len]; omega) (fun j v _ => ∃ x, qs[j]? = some x ∧ v = .bl (twoB x)) (fun _ _ _ _ _ h => h) (fun j x H2 R C hx s2 hR => ?_) fun H3 acc s3 eD lD gD => ?_⟩
    · obtain ⟨z, hz, hzq⟩ := hF.get hx
      cases z with
      | two a b =>
        obtain ⟨t, rfl, ht, _, _⟩ := hzq
        refine ⟨rfl, yesT ⟨_, rfl, _, _, .type "tuple", _, true, rfl, .ty _, .base (.tup (s2 _ _ ht)), kit_tuple K, _, rfl, iteT ?_⟩⟩
        refine ⟨_, rfl, t, _, rfl, .inr (.inl (.inl (s2 _ _ ht))), rfl, ?_⟩
        exact hR _ _ (Same.refl _) ⟨_, hz, rfl⟩
      | odd =>
        obtain ⟨ty, t1, t2 | ⟨t2, t, ts, rfl, ht, hl2⟩⟩ := hzq
        · refine ⟨rfl, yesT ⟨_, rfl, _, _, ty, _, false, rfl, .ty _, tyx_same s2 t1, t2, _, rfl, iteF ?_⟩⟩
          exact hR _ _ (Same.refl _) ⟨_, hz, rfl⟩
        · refine ⟨rfl, yesT ⟨_, rfl, _, _, ty, _, true, rfl, .ty _, tyx_same s2 t1, t2, _, rfl, iteT ?_⟩⟩
          refine ⟨_, rfl, t, _, rfl, .inr (.inl (.inl (s2 _ _ ht))), rfl, ?_⟩
          rw [dec_int, decide_eq_false (show ¬ ((ts.length : Nat) : Int) = 2 by omega)]
          exact hR _ _ (Same.refl _) ⟨_, hz, rfl⟩
    · have ea := acc_bl2 (lD.trans hF.len) gD
      rw [ea] at eD
      refine ⟨D, _, rfl, SqL.of eD, _, rfl, ?_⟩
      have e : (qs.map twoB).all id = qs.all twoB := by rw [List.all_map]; rfl
      rw [e]
      have q : ∀ H', Same H H' → Q (.bl (pairsB m rs qs)) H' := q
      unfold pairsB at q
      cases hA : qs.all twoB with
      | false =>
        refine iteT ?_
        have q := q H3 s3
        rw [hA] at q
        exact q
      | true =>
        rw [hA] at q
        refine iteF ?_
        have hall : ∀ z ∈ qs, ∃ a b, z = .two a b := fun z hz => by
          have := List.all_eq_true.mp hA z hz
          cases z with
          | two a b => exact ⟨a, b, rfl⟩
          | odd => cases this
        have hF3 := hF.mono (fun _ _ h => h.same s3 : ∀ v z, PqAt K H v z → PqAt K H3 v z)
        refine ⟨_, rfl, pl, rfl, ⟨_, SqL.of (s3 _ _ hpl)⟩, fun D2 hD2 => ?_⟩
        refine itl_loop (K := K) (a := pl) (xs := ys) (fun i H' => Same H3 H' ∧ H' D2 = some (.lst (flP (qs.take i)))) ⟨same_upd hD2, upd_same⟩ (fun i H' _ h => SqL.of (h.1 _ _ (s3 _ _ hpl))) ?_ ?_
        · rintro i x H4 hx ⟨s4, e4⟩
          obtain ⟨z, hz, hzq⟩ := hF3.get hx
          have hi : i < qs.length := (List.getElem?_eq_some_iff.mp hz).1
          obtain ⟨a, b, rfl⟩ := hall z (List.mem_of_getElem? hz)
          obtain ⟨t, rfl, ht, _, _⟩ := hzq
          refine ⟨rfl, yesT ⟨_, rfl, t, rfl, ⟨_, .inl (.inl (s4 _ _ ht))⟩, itt_loop (K := K) (a := t) (xs := [a, b]) (fun j H' => Same H3 H' ∧ H' D2 = some (.lst (flP (qs.take i) ++ [a, b].take j))) ⟨s4, by rw [List.take_zero, List.append_nil]; exact e4⟩ (fun j H' _ h => .inl (.inl (h.1 _ _ ht))) ?_ ?_⟩⟩
          · rintro j v H5 hv ⟨s5, e5⟩
            have hfl := len_flP (qs.take i)
            rw [List.length_take] at hfl
            refine ⟨rfl, yesT ⟨_, rfl, _, e5, ?_, fun b o h => by rw [upd_ne (ne_of_none h hD2)]; exact s5 _ _ h, ?_⟩⟩
            · refine Nat.lt_of_le_of_lt (show _ ≤ 10000 from ?_) (by decide)
              rw [List.length_append, List.length_take]
              show _ + min j 2 ≤ 10000
              omega
            · rw [upd_same, List.take_add_one, hv, ← List.append_assoc]
              rfl
          · rintro H5 ⟨s5, e5⟩
            refine ⟨s5, ?_⟩
            rw [List.take_add_one, hz]
            show _ = some (HO.lst (flP (qs.take i ++ [.two a b])))
            unfold flP at e5 ⊢
            rw [List.flatMap_append]
            exact e5
        · rintro H4 ⟨s4, e4⟩
          rw [List.take_of_length_le (by rw [hF.len]; exact Nat.le_refl _)] at e4
          have s04 := s3.trans s4
          have hfl := len_flP qs
          refine ⟨_, rfl, D2, kn, flP qs, rs.map Rw.num, kvs, rfl, e4, fun v hv => ?_, s04 _ _ hk, hK.1, by omega, fun H5 s5 => ⟨_, rfl, ?_⟩⟩
          · obtain ⟨z, hz, hv⟩ := List.mem_flatMap.mp hv
            obtain ⟨j, hj⟩ := List.getElem?_of_mem hz
            obtain ⟨a, b, rfl⟩ := hall z hz
            have hjl : j < ys.length := by rw [hF.len]; exact (List.getElem?_eq_some_iff.mp hj).1
            obtain ⟨z2, hz2, hq2⟩ := hF.get (List.getElem?_eq_getElem hjl)
            rw [hj] at hz2
            cases hz2
            obtain ⟨t, _, _, h1, h2⟩ := hq2
            have hv : v ∈ [a, b] := hv
            simp only [List.mem_cons, List.not_mem_nil, or_false] at hv
            rcases hv with rfl | rfl
            · exact h1.same s04
            · exact h2.same s04
          cases hO : onceB (rs.map Rw.num) (flP qs) with
          | false =>
            refine iteT ?_
            have q := q H5 (s04.trans s5)
            rw [hO] at q
            exact q
          | true =>
            rw [hO, Bool.true_and] at q
            refine iteF ?_
            have s05 := s04.trans s5
            have hin : (flP qs).all (inN (rs.map Rw.num)) = true := (Bool.and_eq_true _ _ ▸ hO).1
            have hF5 := hF.mono (fun _ _ h => h.same s05 : ∀ v z, PqAt K H v z → PqAt K H5 v z)
            refine ⟨_, rfl, pl, rfl, ⟨_, SqL.of (s05 _ _ hpl)⟩, fun D5 hD5 => lc_gen (K := K) hD5 (SqL.of (s05 _ _ hpl)) (by rw [hF.len]; omega) (fun j v _ => ∃ x, qs[j]? = some x ∧ v = .bl (pbQ m rs x)) (fun _ _ _ _ _ h => h) (fun j x H6 R C hx s6 hR => ?_) fun H6 acc s6 eD6 lD6 gD6 => ?_⟩
            · obtain ⟨z, hz, hzq⟩ := hF5.get hx
              obtain ⟨a, b, rfl⟩ := hall z (List.mem_of_getElem? hz)
              obtain ⟨t, rfl, ht, _, _⟩ := hzq
              have hmem : ∀ v ∈ [a, b], v ∈ flP qs := fun v hv => List.mem_flatMap.mpr ⟨_, List.mem_of_getElem? hz, hv⟩
              have isn : ∀ v ∈ [a, b], ∃ n, v = .int n ∧ n ∈ rs.map Rw.num := fun v hv => by
                have := List.all_eq_true.mp hin v (hmem v hv)
                cases v with
                | int n => exact ⟨n, rfl, of_decide_eq_true this⟩
                | _ => cases this
              obtain ⟨n, rfl, hn⟩ := isn a (by simp)
              obtain ⟨n', rfl, hn'⟩ := isn b (by simp)
              obtain ⟨r, er, hr, rfl⟩ := rowN_mem hn
              obtain ⟨r', er', hr', rfl⟩ := rowN_mem hn'
              obtain ⟨p, k1, hp⟩ := hK.2 r hr
              obtain ⟨p', k2, hp'⟩ := hK.2 r' hr'
              have s06 := s05.trans s6
              refine ⟨t, _, rfl, .inl (.inl (s6 _ _ ht)), rfl, _, _, rfl, _, _, rfl, rfl, ?_⟩
              refine ⟨rfl, yesT ⟨_, rfl, _, rfl, kn, .ref p, rfl, .inl ⟨_, .inl r.num, .inl (s06 _ _ hk), rfl, k1.symm⟩, _, rfl, _, rfl, kn, .ref p', rfl, .inl ⟨_, .inl r'.num, .inl (s06 _ _ hk), rfl, k2.symm⟩, ?_⟩⟩
              refine ⟨_, rfl, p, p', r, r', m, rfl, hp.nl (NL.of s06), hp'.nl (NL.of s06), ?_⟩
              refine hR _ _ (Same.refl _) ⟨_, hz, ?_⟩
              show V.bl (PB m r r') = .bl (pbN m rs (.int r.num) (.int r'.num))
              rw [pbN_of er er']
            · have ea6 := acc_bl2 (lD6.trans hF.len) gD6
              rw [ea6] at eD6
              refine ⟨D5, _, rfl, SqL.of eD6, ?_⟩
              have e : (qs.map (pbQ m rs)).all id = qs.all (pbQ m rs) := by rw [List.all_map]; rfl
              rw [e]
              exact q _ (s05.trans s6)
/-! groups -/
inductive Gq where
  | grp (xs : List V)
  | odd
def GqAt (K : PySem.W.Frag) (H : Hp) (v : V) : Gq → Prop
  | .grp xs => ∃ t, v = .ref t ∧ H t = some (.lst xs) ∧ ∀ x ∈ xs, Th K H x
  | .odd => ∃ ty, TyX K H v ty ∧ PySem.W.kitOne K ty (.type "list") = some false
theorem GqAt.same {H H' : Hp} (s : Same H H') : ∀ {q : Gq} {v : V}, GqAt K H v q → GqAt K H' v q
  | .grp a, v, h => by
    obtain ⟨t, rfl, e, h1⟩ := h
    exact ⟨t, rfl, s _ _ e, fun x hx => (h1 x hx).same s⟩
  | .odd, v, h => by
    obtain ⟨ty, h1, h2⟩ := h
    exact ⟨ty, tyx_same s h1, h2⟩
def GsAt (K : PySem.W.Frag) (H : Hp) (v : V) : Option (List Gq) → Prop
  | some qs => ∃ a ys, v = .ref a ∧ H a = some (.lst ys) ∧ F2 (GqAt K H) ys qs
  | none => ∃ ty, TyX K H v ty ∧ PySem.W.kitOne K ty (.type "list") = some false
theorem GsAt.same {H H' : Hp} (s : Same H H') : ∀ {o : Option (List Gq)} {v : V}, GsAt K H v o → GsAt K H' v o
  | some qs, v, h => by
    obtain ⟨a, ys, e, e2, f⟩ := h
    exact ⟨a, ys, e, s _ _ e2, f.mono fun _ _ h => h.same s⟩
  | none, v, h => by
    obtain ⟨ty, h1, h2⟩ := h
    exact ⟨ty, tyx_same s h1, h2⟩
def grpB : Gq → Bool
  | .grp _ => true
  | .odd => false
def itG : Gq → List V
  | .grp xs => xs
  | .odd => []
def flG (qs : List Gq) : List V := qs.flatMap itG
def groupsB (rs : List Rw) (qs : List Gq) : Bool := qs.all grpB && (onceB (rs.map Rw.num) (flG qs) && decide ((flG qs).length = rs.length))
def gsB (rs : List Rw) : Option (List Gq) → Bool
  | some qs => groupsB rs qs
  | none => false
def flGO : Option (List Gq) → List V
  | some qs => flG qs
  | none => []
theorem flG_cut {qs : List Gq} {k : Nat} {z : Gq} (hc : qs[k]? = some z) : (flG (qs.take k)).length + (itG z).length ≤ (flG qs).length := by
  have e : flG qs = flG (qs.take (k + 1)) ++ flG (qs.drop (k + 1)) := by
    unfold flG
    rw [← List.flatMap_append, List.take_append_drop]
  rw [e, List.take_add_one, hc, List.length_append]
  unfold flG
  rw [List.flatMap_append, List.length_append]
  show _ ≤ _ + (itG z ++ []).length + _
  rw [List.append_nil]
  omega
theorem all_grp {qs : List Gq} (hA : qs.all grpB = true) : ∀ z ∈ qs, ∃ xs, z = .grp xs := fun z hz => by
  have := List.all_eq_true.mp hA z hz
  cases z with
  | grp a => exact ⟨a, rfl⟩
  | odd => cases this
def spGroupsOk (K : PySem.W.Frag) (C : Addr) : Sp := fun vs H Q _ => ∃ (px : V) (kn : Addr) (o : Option (List Gq)) (kvs : List (Key × V)) (rs : List Rw), vs = [px, .ref kn] ∧ GsAt K H px o ∧ H kn = some (.dK kvs) ∧ KnB C H kvs rs ∧ lenO o ≤ 400 ∧ (flGO o).length ≤ 400 ∧ ∀ H', Same H H' → Q (.bl (gsB rs o)) H'
theorem ok_are_groups (T : Tx K mg) : FnOk P w K mg base CX0 3 T.A_are_groups T.fd_are_groups ["groups", "by_number"] (spGroupsOk K T.C_Bead) := by
  refine T.F_are_groups.ok sc_are_groups (fun vs H Q E h => ?_) (fun cdv A outer s H vs Q E hr h => ?_)
  · obtain ⟨px, kn, o, kvs, rs, rfl, hp, hk, hK, hlen, hfl, q⟩ := h
    rfl
  obtain ⟨px, kn, o, kvs, rs, rfl, hp, hk, hK, hlen, hfl, q⟩ := h
  refine ⟨_, (pss_cons (ps_if (PW.pt (pw_or (pt_not (pt_val (pe_callB call_isi (by rfl) T.z_isinstance (by decide +kernel) (pa_cons (pv 0) (pa_cons (pe_bltn (v := .ty "list") (by rfl) T.z_list (by decide +kernel) rfl) pa_nil))))) (pw_or1 (pt_not (pt_val (pe_callB (cr_all rfl) (by rfl) T.z_all (by decide +kernel) (pa_cons (pe_lc (own := [("group", 3)]) (g := gName 3) (tt := tYes) rfl sc_are_groups.nd (pi_list (pv 0)) (blkOk_by (N := ["groups", "by_number", "numbers", "group", "number"]) (sc := defScope s_are_groups) (by decide +kernel)) (fun _ _ _ _ _ => (pg_name (i := 3) sc_are_groups.nd rfl (Or.inl rfl))) (fun _ _ _ _ _ => pts_nil) (fun _ _ _ _ _ => (pe_callB (call_isiB (K' := K) rfl) (by rfl) T.z_isinstance (by decide +kernel) (pa_cons (pv 3) (pa_cons (pe_bltn (v := .ty "list") (by rfl) T.z_list (by decide +kernel) rfl) pa_nil))))) pa_nil))))))) (pss_one (ps_ret pe_bl)) pss_nil)
      (pss_cons (ps_setLc2 (i := 2) (own := [("group", 3), ("number", 4)]) (vs1 := [4]) (g := gName 3) (g1 := gName 4) (tt := tYes) (tt1 := tYes) rfl sc_are_groups.nd rfl rfl (sw_true rfl rfl rfl (by decide +kernel)) (pi_list (pv 0)) (blkOk_by (N := ["groups", "by_number", "numbers", "group", "number"]) (sc := defScope s_are_groups) (by decide +kernel)) (by decide) (fun _ _ _ _ _ => (pg_name (i := 3) sc_are_groups.nd rfl (Or.inl rfl))) (fun _ _ _ _ _ => pts_nil) (fun _ _ _ _ _ => (pi_listK (K' := K) rfl (pv 3))) (fun _ _ _ _ _ => (pg_name (i := 4) sc_are_groups.nd rfl (Or.inl rfl))) (fun _ _ _ _ _ => pts_nil) (fun _ _ _ _ _ => (pv 4)))
      (pss_one (ps_ret (pe_and (pe_call (ok_are_once T) (hr.mono (by decide)) (by rfl) T.g_are_once T.F_are_once.kp T.b_are_once .nil pass0 (pa_cons (pv 2) (pa_cons (pv 1) pa_nil))) (pe_one (pe_cmpR op_eq (pe_callB call_len_seq (by rfl) T.z_len PySem.boot_len (pa_cons (pv 2) pa_nil)) (pe_callB call_lenD (by rfl) T.z_len PySem.boot_len (pa_cons (pv 1) pa_nil)) (nomark _)))))))), ?_⟩
  cases o with
  | none =>
    obtain ⟨ty, t1, t2⟩ := hp
    refine ⟨_, rfl, _, _, ty, _, false, rfl, .ty _, t1, t2, _, rfl, iteT ?_⟩
    exact q _ (Same.refl _)
  | some qs =>
    obtain ⟨gl, ys, rfl, hgl, hF⟩ := hp
    have hlen : qs.length ≤ 400 := hlen
    have hfl : (flG qs).length ≤ 400 := hfl
    refine ⟨_, rfl, _, _, .type "list", _, true, rfl, .ty _, .base (.lst hgl), kit_list K, _, rfl, iteF ?_⟩
    refine ⟨_, rfl, gl, rfl, ⟨_, SqL.of hgl⟩, fun D hD => lc_gen (K := K) hD (SqL.of hgl) (by rw [hF.len]; omega) (fun j v _ => ∃ x, qs[j]? = some x ∧ v = .bl (grpB x)) (fun _ _ _ _ _ h => h) (fun j x H2 R C hx s2 hR => ?_) fun H3 acc s3 eD lD gD => ?_⟩
    · obtain ⟨z, hz, hzq⟩ := hF.get hx
      cases z with
      | grp a =>
        obtain ⟨t, rfl, ht, _⟩ := hzq
        refine ⟨rfl, yesT ⟨_, rfl, _, _, .type "list", _, true, rfl, .ty _, .base (.lst (s2 _ _ ht)), kit_list K, ?_⟩⟩
        exact hR _ _ (Same.refl _) ⟨_, hz, rfl⟩
      | odd =>
        obtain ⟨ty, t1, t2⟩ := hzq
        refine ⟨rfl, yesT ⟨_, rfl, _, _, ty, _, false, rfl, .ty _, tyx_same s2 t1, t2, ?_⟩⟩
        exact hR _ _ (Same.refl _) ⟨_, hz, rfl⟩
    · have ea := acc_bl2 (lD.trans hF.len) gD
      rw [ea] at eD
      refine ⟨D, _, rfl, SqL.of eD, _, rfl, ?_⟩
      have e : (qs.map grpB).all id = qs.all grpB := by rw [List.all_map]; rfl
      rw [e]
      have q : ∀ H', Same H H' → Q (.bl (groupsB rs qs)) H' := q
      unfold groupsB at q
      cases hA : qs.all grpB with
      | false =>
        refine iteT ?_
        have q := q H3 s3
        rw [hA] at q
        exact q
      | true =>
        rw [hA, Bool.true_and] at q
        refine iteF ?_
        have hall := all_grp hA
        have hF3 := hF.mono (fun _ _ h => h.same s3 : ∀ v z, GqAt K H v z → GqAt K H3 v z)
        refine ⟨_, rfl, gl, rfl, ⟨_, SqL.of (s3 _ _ hgl)⟩, fun D2 hD2 => ?_⟩
        refine itl_loop (K := K) (a := gl) (xs := ys) (fun i H' => Same H3 H' ∧ H' D2 = some (.lst (flG (qs.take i)))) ⟨same_upd hD2, upd_same⟩ (fun i H' _ h => SqL.of (h.1 _ _ (s3 _ _ hgl))) ?_ ?_
        · rintro i x H4 hx ⟨s4, e4⟩
          obtain ⟨z, hz, hzq⟩ := hF3.get hx
          have hcut := flG_cut hz
          obtain ⟨c, rfl⟩ := hall z (List.mem_of_getElem? hz)
          obtain ⟨t, rfl, ht, _⟩ := hzq
          have hcut : (flG (qs.take i)).length + c.length ≤ (flG qs).length := hcut
          refine ⟨rfl, yesT ⟨_, rfl, t, rfl, ⟨_, SqL.of (s4 _ _ ht)⟩, itl_loop (K := K) (a := t) (xs := c) (fun j H' => Same H3 H' ∧ H' D2 = some (.lst (flG (qs.take i) ++ c.take j))) ⟨s4, by rw [List.take_zero, List.append_nil]; exact e4⟩ (fun j H' _ h => SqL.of (h.1 _ _ ht)) ?_ ?_⟩⟩
          · rintro j v H5 hv ⟨s5, e5⟩
            refine ⟨rfl, yesT ⟨_, rfl, _, e5, ?_, fun b o h => by rw [upd_ne (ne_of_none h hD2)]; exact s5 _ _ h, ?_⟩⟩
            · refine Nat.lt_of_le_of_lt (show _ ≤ 10000 from ?_) (by decide)
              rw [List.length_append, List.length_take]
              omega
            · rw [upd_same, List.take_add_one, hv, ← List.append_assoc]
              rfl
          · rintro H5 ⟨s5, e5⟩
            refine ⟨s5, ?_⟩
            rw [List.take_of_length_le (Nat.le_refl _)] at e5
            rw [List.take_add_one, hz]
            show _ = some (HO.lst (flG (qs.take i ++ [.grp c])))
            unfold flG at e5 ⊢
            rw [List.flatMap_append]
            show _ = some (HO.lst (_ ++ (c ++ [])))
            rw [List.append_nil]
            exact e5
        · rintro H4 ⟨s4, e4⟩
          rw [List.take_of_length_le (by rw [hF.len]; exact Nat.le_refl _)] at e4
          have s04 := s3.trans s4
          refine ⟨_, rfl, _, rfl, D2, kn, flG qs, rs.map Rw.num, kvs, rfl, e4, fun v hv => ?_, s04 _ _ hk, hK.1, by omega, fun H5 s5 => ⟨_, rfl, ?_⟩⟩
          · obtain ⟨z, hz, hv⟩ := List.mem_flatMap.mp hv
            obtain ⟨j, hj⟩ := List.getElem?_of_mem hz
            obtain ⟨a, rfl⟩ := hall z hz
            have hjl : j < ys.length := by rw [hF.len]; exact (List.getElem?_eq_some_iff.mp hj).1
            obtain ⟨z2, hz2, hq2⟩ := hF.get (List.getElem?_eq_getElem hjl)
            rw [hj] at hz2
            cases hz2
            obtain ⟨t, _, _, h1⟩ := hq2
            exact (h1 v hv).same s04
          cases hO : onceB (rs.map Rw.num) (flG qs) with
          | false =>
            refine iteF ?_
            have q := q H5 (s04.trans s5)
            rw [hO] at q
            exact q
          | true =>
            rw [hO, Bool.true_and] at q
            refine iteT ?_
            have hkl : kvs.length = rs.length := by
              have := congrArg List.length hK.1
              simpa using this
            refine ⟨_, rfl, D2, _, rfl, .inl (SqL.of (s5 _ _ e4)), _, rfl, kn, kvs, rfl, (s04.trans s5) _ _ hk, rfl, ?_⟩
            rw [hkl, dec_int]
            have e2 : decide ((((flG qs).length : Nat) : Int) = ((rs.length : Nat) : Int)) = decide ((flG qs).length = rs.length) := decide_eq_decide.mpr (by omega)
            rw [e2]
            exact q _ (s04.trans s5)
end
end KB
namespace KB
open PySem PySem.Spec PyProof.Rows L2 KA

section
variable {P : Program} {w : World} {K : PySem.W.Frag} {mg : Str → Option Value} {base : Heap}
theorem cut_take {ys : List V} {i : Nat} (h : i ≤ ys.length) : cutV ys none (some (i : Int)) = ys.take i := by
  unfold cutV
  rw [HT.sIx_nat, HT.sIx_none, List.drop_zero, Nat.sub_zero, Nat.min_eq_left h]
theorem flat_cut {cs : List (List Int)} {k : Nat} {c : List Int} (hc : cs[k]? = some c) : (cs.take k).flatten.length + c.length ≤ cs.flatten.length := by
  have e : cs.flatten = (cs.take (k + 1)).flatten ++ (cs.drop (k + 1)).flatten := by rw [← List.flatten_append, List.take_append_drop]
  rw [e, List.take_add_one, hc, List.length_append, List.flatten_append, List.length_append]
  show _ ≤ _ + (c ++ []).length + _
  rw [List.append_nil]
  omega
theorem flat_cut_le (cs : List (List Int)) (k : Nat) : (cs.take k).flatten.length ≤ cs.flatten.length := by
  have e : cs.flatten = (cs.take k).flatten ++ (cs.drop k).flatten := by rw [← List.flatten_append, List.take_append_drop]
  rw [e, List.length_append]
  omega
def pbI (m : Int) (rs : List Rw) (n n2 : Int) : Bool := pbN m rs (.int n) (.int n2)
def RowV (C : Addr) (H : Hp) (rs : List Rw) (v : V) (n : Int) : Prop := ∃ p r, v = .ref p ∧ BeadAt C H p r ∧ rowN rs n = some r
/-- a bead of a group pairs with one of a group ahead -/
def AcP (m : Int) (rs : List Rw) (cs : List (List Int)) (k : Nat) : Prop := ∃ i c, i < k ∧ cs[i]? = some c ∧ ∃ n ∈ c, ∃ n2 ∈ (cs.take i).flatten, pbI m rs n n2 = true
def spAcross (C : Addr) : Sp := fun vs H Q _ => ∃ (gl kn : Addr) (m : Int) (ys : List V) (cs : List (List Int)) (kvs : List (Key × V)) (rs : List Rw), vs = [.ref gl, .ref kn, .int m] ∧ H gl = some (.lst ys) ∧ F2 (LI H) ys cs ∧ H kn = some (.dK kvs) ∧ KnB C H kvs rs ∧
  (∀ c ∈ cs, ∀ n ∈ c, n ∈ rs.map Rw.num) ∧ cs.flatten.length ≤ 400 ∧ cs.length ≤ 400 ∧ ∀ H' b, Same H H' → (b = true ↔ AcP m rs cs cs.length) → Q (.bl b) H'
theorem ok_pairs_across (T : Tx K mg) : FnOk P w K mg base CX0 9 T.A_pairs_across T.fd_pairs_across ["groups", "by_number", "match"] (spAcross T.C_Bead) := by
  refine T.F_pairs_across.ok sc_pairs_across (fun vs H Q E h => ?_) (fun cdv A outer s H vs Q E hr h => ?_)
  · obtain ⟨gl, kn, m, ys, cs, kvs, rs, rfl, hgl, hF, hk, hK, hin, hfl, hcl, q⟩ := h
    rfl
  obtain ⟨gl, kn, m, ys, cs, kvs, rs, rfl, hgl, hF, hk, hK, hin, hfl, hcl, q⟩ := h
  refine ⟨_, (pss_cons (ps_for PassesOwn.never rfl (pi_enum (by rfl) T.z_enumerate (pa_cons (pv 0) pa_nil)) (pg_tup (by rfl) (pgs_cons (pg_name (i := 3) sc_pairs_across.nd rfl (Or.inl rfl)) (pgs_cons (pg_name (i := 4) sc_pairs_across.nd rfl (Or.inl rfl)) pgs_nil)))
        (pss_cons (ps_setLc2 (i := 5) (own := [("other", 7), ("number", 6)]) (vs1 := [6]) (g := gName 7) (g1 := gName 6) (tt := tYes) (tt1 := tYes) rfl sc_pairs_across.nd rfl rfl (sw_true rfl rfl rfl (by decide +kernel)) (pi_list (pe_slice sl_list (pv 0) po_none (po_some (pv 3)))) (blkOk_by (N := ["groups", "by_number", "match", "at", "group", "others", "number", "other"]) (sc := defScope s_pairs_across) (by decide +kernel)) (by decide) (fun _ _ _ _ _ => (pg_name (i := 7) sc_pairs_across.nd rfl (Or.inl rfl))) (fun _ _ _ _ _ => pts_nil) (fun _ _ _ _ _ => (pi_listK (K' := K) rfl (pv 7))) (fun _ _ _ _ _ => (pg_name (i := 6) sc_pairs_across.nd rfl (Or.inl rfl))) (fun _ _ _ _ _ => pts_nil) (fun _ _ _ _ _ => (pe_dget (Nat.lt_of_le_of_lt (Nat.add_le_add_left (by decide) _) hr.units) (pv 1) (pv 6) (fun _ _ => rfl))))
      (pss_one (ps_for PassesOwn.never rfl (pi_list (pv 4)) (pg_name (i := 6) sc_pairs_across.nd rfl (Or.inr rfl))
        (pss_one (ps_if (pt_val (pe_callB (cr_any rfl) (by rfl) T.z_any (by decide +kernel) (pa_cons (pe_lc (own := [("other", 7)]) (g := gName 7) (tt := tYes) rfl sc_pairs_across.nd (pi_list (pv 5)) (blkOk_by (N := ["groups", "by_number", "match", "at", "group", "others", "number", "other"]) (sc := defScope s_pairs_across) (by decide +kernel)) (fun _ _ _ _ _ => (pg_name (i := 7) sc_pairs_across.nd rfl (Or.inl rfl))) (fun _ _ _ _ _ => pts_nil) (fun _ _ _ _ _ => (pe_call (ok_may_pair T) (hr.mono (by decide)) (by rfl) T.g_may_pair T.F_may_pair.kp T.b_may_pair .nil pass0 (pa_cons (pe_dget (Nat.lt_of_le_of_lt (Nat.add_le_add_left (by decide) _) hr.units) (pv 1) (pv 6) (fun _ _ => rfl)) (pa_cons (pv 7) (pa_cons (pv 2) pa_nil)))))) pa_nil))) (pss_one (ps_ret pe_bl)) pss_nil))))))
      (pss_one (ps_ret pe_bl))), ?_⟩
  refine ⟨_, rfl, gl, _, rfl, SqL.of hgl, for_it (walk_enum (K := K) (a := gl) (xs := ys)) (fun i σ H' => ∃ w3 w4 w5 w6 w7, σ = [some (.ref gl), some (.ref kn), some (.int m), w3, w4, w5, w6, w7] ∧ Same H H' ∧ ¬ AcP m rs cs i) ⟨_, _, _, _, _, rfl, Same.refl _, fun ⟨i, c, h, _⟩ => absurd h (Nat.not_lt_zero _)⟩ (fun i σ H' _ h => ?_) ?_ ?_⟩
  · obtain ⟨_, _, _, _, _, _, s, _⟩ := h
    exact SqL.of (s _ _ hgl)
  · rintro i x σ H1 H2 hi ⟨w3, w4, w5, w6, w7, rfl, s1, hno⟩ ⟨T2, u2, v, rfl, nT, rfl, c1, c2⟩
    have c1 : some (V.int (i : Nat)) = some u2 := c1
    cases c1
    have c2 : ys[i]? = some v := c2
    have sT := same_upd nT (o := .tup [.int (i : Nat), v])
    have eT : (upd H1 T2 (.tup [.int (i : Nat), v])) T2 = some (.tup [.int (i : Nat), v]) := upd_same
    have s02 := s1.trans sT
    revert eT s02
    generalize upd H1 T2 (.tup [.int (i : Nat), v]) = H2
    intro eT s02
    obtain ⟨c, hc, g, rfl, hg⟩ := hF.get c2
    have hicl : i < cs.length := (List.getElem?_eq_some_iff.mp hc).1
    refine ⟨T2, _, rfl, .inl (.inl eT), rfl, _, _, rfl, _, _, rfl, rfl, ?_⟩
    refine ⟨_, rfl, _, rfl, _, rfl, gl, _, rfl, SqL.of (s02 _ _ hgl), fun lo hlo => ?_⟩
    have hyl : ys.length = cs.length := hF.len
    rw [cut_take (by omega)]
    have s3 := same_upd hlo (o := .lst (ys.take i))
    have elo : (upd H2 lo (.lst (ys.take i))) lo = some (.lst (ys.take i)) := upd_same
    have s03 := s02.trans s3
    revert elo s03
    generalize upd H2 lo (.lst (ys.take i)) = H3
    intro elo s03
    refine ⟨lo, rfl, ⟨_, SqL.of elo⟩, fun D hD => ?_⟩
    refine itl_loop (K := K) (a := lo) (xs := ys.take i) (fun k H' => Same H3 H' ∧ ∃ acc, H' D = some (.lst acc) ∧ F2 (RowV T.C_Bead H rs) acc (cs.take k).flatten) ⟨same_upd hD, [], upd_same, .nil⟩ (fun k H' _ h => SqL.of (h.1 _ _ elo)) ?_ ?_
    · rintro k x H4 hx ⟨s4, acc, e4, la⟩
      have hki : k < i := by
        have := (List.getElem?_eq_some_iff.mp hx).1
        rw [List.length_take] at this
        omega
      rw [List.getElem?_take_of_lt hki] at hx
      obtain ⟨c', hc', g', rfl, hg'⟩ := hF.get hx
      have s04 := s03.trans s4
      have hcut : (cs.take k).flatten.length + c'.length ≤ cs.flatten.length := flat_cut hc'
      refine ⟨rfl, yesT ⟨_, rfl, g', rfl, ⟨_, SqL.of (s04 _ _ hg')⟩, itl_loop (K := K) (a := g') (xs := c'.map V.int) (fun j H' => Same H3 H' ∧ ∃ acc, H' D = some (.lst acc) ∧ F2 (RowV T.C_Bead H rs) acc ((cs.take k).flatten ++ c'.take j)) ⟨s4, acc, e4, by rw [List.take_zero, List.append_nil]; exact la⟩ (fun j H' _ h => SqL.of ((s03.trans h.1) _ _ hg')) ?_ ?_⟩⟩
      · rintro j v H5 hv ⟨s5, acc, e5, la⟩
        have hj : j < c'.length := by
          have := (List.getElem?_eq_some_iff.mp hv).1
          rwa [List.length_map] at this
        rw [List.getElem?_map, List.getElem?_eq_getElem hj] at hv
        cases hv
        obtain ⟨r, er, hr, en⟩ := rowN_mem (hin c' (List.mem_of_getElem? hc') _ (List.getElem_mem hj))
        obtain ⟨p, k1, hp⟩ := hK.2 r hr
        have hll := la.len
        rw [List.length_append, List.length_take] at hll
        refine ⟨rfl, yesT ⟨_, rfl, _, rfl, kn, .ref p, rfl, .inl ⟨_, .inl c'[j], .inl ((s03.trans s5) _ _ hk), rfl, by rw [← en]; exact k1.symm⟩, acc, e5, Nat.lt_of_le_of_lt (show acc.length ≤ 10000 by omega) (by decide), fun b o h => by rw [upd_ne (ne_of_none h hD)]; exact s5 _ _ h, acc ++ [.ref p], upd_same, ?_⟩⟩
        rw [List.take_add_one, List.getElem?_eq_getElem hj, ← List.append_assoc]
        exact F2.snoc ⟨p, r, rfl, hp, er⟩ la
      · rintro H5 ⟨s5, acc, e5, la⟩
        refine ⟨s5, acc, e5, ?_⟩
        rw [List.length_map, List.take_of_length_le (Nat.le_refl _)] at la
        rw [List.take_add_one, hc', List.flatten_append]
        show F2 _ _ (_ ++ (c' ++ []))
        rw [List.append_nil]
        exact la
    · rintro H4 ⟨s4, acc, e4, la⟩
      have s04 := s03.trans s4
      rw [show (cs.take (ys.take i).length).flatten = (cs.take i).flatten by rw [List.length_take]; congr 2; omega] at la
      have hal : acc.length ≤ 400 := by
        have h1 := flat_cut_le cs i
        have h2 := la.len
        omega
      refine ⟨_, rfl, g, rfl, ⟨_, SqL.of (s04 _ _ hg)⟩, for_list (K := K) (a := g) (xs := c.map V.int) (fun j σ H' => ∃ w6 w7, σ = [some (.ref gl), some (.ref kn), some (.int m), some (.int (i : Nat)), some (.ref g), some (.ref D), w6, w7] ∧ Same H4 H' ∧ ∀ n ∈ c.take j, ∀ n2 ∈ (cs.take i).flatten, pbI m rs n n2 = false) ⟨_, _, rfl, Same.refl _, fun n hn => by rw [List.take_zero] at hn; cases hn⟩ (fun j σ H' _ h => ?_) ?_ ?_⟩
      · obtain ⟨_, _, _, s, _⟩ := h
        exact SqL.of (s _ _ (s04 _ _ hg))
      · rintro j x σ H5 hj ⟨w6, w7, rfl, s5, hno2⟩
        have hjl : j < c.length := by
          have := (List.getElem?_eq_some_iff.mp hj).1
          rwa [List.length_map] at this
        rw [List.getElem?_map, List.getElem?_eq_getElem hjl] at hj
        cases hj
        obtain ⟨r, er, hr, en⟩ := rowN_mem (hin c (List.mem_of_getElem? hc) _ (List.getElem_mem hjl))
        obtain ⟨p, k1, hp⟩ := hK.2 r hr
        have s05 := s04.trans s5
        refine ⟨_, rfl, D, rfl, ⟨_, SqL.of (s5 _ _ e4)⟩, fun D5 hD5 => lc_gen (K := K) hD5 (SqL.of (s5 _ _ e4)) (by omega) (fun j2 v _ => ∃ x, (cs.take i).flatten[j2]? = some x ∧ v = .bl (pbI m rs c[j] x)) (fun _ _ _ _ _ h => h) (fun j2 x H6 R C hx s6 hR => ?_) fun H6 acc6 s6 eD6 lD6 gD6 => ?_⟩
        · obtain ⟨n2, hn2, p2, r2, rfl, hp2, er2⟩ := la.get hx
          have s06 := s05.trans s6
          refine ⟨rfl, yesT ⟨_, rfl, _, rfl, kn, .ref p, rfl, .inl ⟨_, .inl c[j], .inl (s06 _ _ hk), rfl, by rw [← en]; exact k1.symm⟩, ?_⟩⟩
          refine ⟨_, rfl, _, rfl, p, p2, r, r2, m, rfl, hp.nl (NL.of s06), hp2.nl (NL.of s06), ?_⟩
          refine hR _ _ (Same.refl _) ⟨n2, hn2, ?_⟩
          unfold pbI
          rw [pbN_of er er2]
        · have ea6 := acc_bl2 (lD6.trans la.len) gD6
          rw [ea6] at eD6
          refine ⟨D5, _, rfl, SqL.of eD6, _, rfl, ?_⟩
          cases hA : ((cs.take i).flatten.map (pbI m rs c[j])).any id with
          | true =>
            refine iteT ?_
            refine q _ _ (s05.trans s6) ⟨fun _ => ?_, fun _ => rfl⟩
            obtain ⟨b, hb, hb2⟩ := List.any_eq_true.mp hA
            obtain ⟨n2, hn2, rfl⟩ := List.mem_map.mp hb
            exact ⟨i, c, hicl, hc, c[j], List.getElem_mem hjl, n2, hn2, hb2⟩
          | false =>
            refine iteF ⟨_, _, rfl, s5.trans s6, fun n hn n2 hn2 => ?_⟩
            rw [List.take_add_one, List.getElem?_eq_getElem hjl] at hn
            rcases List.mem_append.mp hn with hn | hn
            · exact hno2 n hn n2 hn2
            · rw [List.mem_singleton.mp hn]
              have := List.any_eq_false.mp hA _ (List.mem_map_of_mem hn2)
              exact Bool.eq_false_iff.mpr this
      · rintro σ H5 ⟨w6, w7, rfl, s5, hno2⟩
        refine ⟨_, _, _, _, _, rfl, s04.trans s5, ?_⟩
        rintro ⟨i', c', hi', hc', n, hn, n2, hn2, hp⟩
        rcases Nat.lt_or_ge i' i with h | h
        · exact hno ⟨i', c', h, hc', n, hn, n2, hn2, hp⟩
        · have e : i' = i := by omega
          subst e
          rw [hc] at hc'
          cases hc'
          rw [List.length_map, List.take_of_length_le (Nat.le_refl _)] at hno2
          rw [hno2 n hn n2 hn2] at hp
          cases hp
  · rintro σ H1 ⟨w3, w4, w5, w6, w7, rfl, s1, hno⟩
    rw [hF.len] at hno
    exact q _ _ s1 ⟨(fun h => by cases h), fun h => absurd h hno⟩
end
end KB
namespace KB
open PySem PySem.Spec PyProof.Rows L2 KA

section
variable {P : Program} {w : World} {K : PySem.W.Frag} {mg : Str → Option Value} {base : Heap}
def kvsOf : List Rw → List V → List (Key × V)
  | r :: rs, x :: xs => (.inl r.num, x) :: kvsOf rs xs
  | _, _ => []
theorem kvs_keys : ∀ (rs : List Rw) (xs : List V), xs.length = rs.length → (kvsOf rs xs).map (·.1) = (rs.map Rw.num).map Sum.inl
  | [], [], _ => rfl
  | [], _ :: _, h => by simp at h
  | _ :: _, [], h => by simp at h
  | r :: rs, x :: xs, h => by
    show Sum.inl r.num :: (kvsOf rs xs).map (·.1) = _
    rw [kvs_keys rs xs (by simpa using h)]
    rfl
theorem kvs_get : ∀ (rs : List Rw) (xs : List V) {i : Nat} {r : Rw} {x : V}, (rs.map Rw.num).Nodup → rs[i]? = some r → xs[i]? = some x → valV (kvsOf rs xs) (Sum.inl r.num : Key) = some x
  | [], _, _, _, _, _, h, _ => by simp at h
  | _ :: _, [], _, _, _, _, _, h => by simp at h
  | r0 :: rs, x0 :: xs, 0, r, x, u, h1, h2 => by
    cases h1
    cases h2
    exact valV_pos rfl
  | r0 :: rs, x0 :: xs, i + 1, r, x, u, h1, h2 => by
    rw [List.map_cons, List.nodup_cons] at u
    have h1 : rs[i]? = some r := h1
    show valV ((Sum.inl r0.num, x0) :: kvsOf rs xs) _ = _
    rw [valV_neg (fun e => by
      injection e with e
      exact u.1 (by rw [e]; exact List.mem_map_of_mem (List.mem_of_getElem? h1)))]
    exact kvs_get rs xs u.2 h1 h2
theorem kvs_len : ∀ (rs : List Rw) (xs : List V), xs.length = rs.length → (kvsOf rs xs).length = rs.length
  | [], [], _ => rfl
  | [], _ :: _, h => by simp at h
  | _ :: _, [], h => by simp at h
  | r :: rs, x :: xs, h => by
    show (kvsOf rs xs).length + 1 = rs.length + 1
    rw [kvs_len rs xs (by simpa using h)]
theorem kvs_at : ∀ (rs : List Rw) (xs : List V) {i : Nat} {r : Rw} {x : V}, rs[i]? = some r → xs[i]? = some x → (kvsOf rs xs)[i]? = some (Sum.inl r.num, x)
  | [], _, _, _, _, h, _ => by simp at h
  | _ :: _, [], _, _, _, _, h => by simp at h
  | r0 :: rs, x0 :: xs, 0, r, x, h1, h2 => by
    cases h1
    cases h2
    rfl
  | r0 :: rs, x0 :: xs, i + 1, r, x, h1, h2 => kvs_at rs xs (i := i) h1 h2
theorem put_new {kvs : List (Key × V)} {k : Key} {v : V} (h : k ∉ kvs.map (·.1)) : putK kvs k v = kvs ++ [(k, v)] := by
  unfold putK
  rw [if_neg]
  intro h2
  obtain ⟨q, hq, e⟩ := List.any_eq_true.mp h2
  exact h (by rw [← of_decide_eq_true e]; exact List.mem_map_of_mem hq)
theorem kvs_snoc : ∀ (rs : List Rw) (xs : List V) (r : Rw) (x : V), xs.length = rs.length → kvsOf (rs ++ [r]) (xs ++ [x]) = kvsOf rs xs ++ [(.inl r.num, x)]
  | [], [], _, _, _ => rfl
  | [], _ :: _, _, _, h => by simp at h
  | _ :: _, [], _, _, h => by simp at h
  | r0 :: rs, x0 :: xs, r, x, h => by
    show (Sum.inl r0.num, x0) :: kvsOf (rs ++ [r]) (xs ++ [x]) = (Sum.inl r0.num, x0) :: (kvsOf rs xs ++ [(.inl r.num, x)])
    rw [kvs_snoc rs xs r x (by simpa using h)]
/-- the groups as lists of numbers, where they are nothing else -/
theorem li_of {ns : List Int} {H : Hp} : ∀ {ys : List V} {qs : List Gq}, F2 (GqAt K H) ys qs → qs.all grpB = true → (flG qs).all (inN ns) = true → ∃ cs : List (List Int), F2 (LI H) ys cs ∧ qs = cs.map (fun c => .grp (c.map V.int)) ∧ flG qs = cs.flatten.map V.int ∧ ∀ c ∈ cs, ∀ n ∈ c, n ∈ ns
  | _, _, .nil, _, _ => ⟨[], .nil, rfl, rfl, fun c h => nomatch h⟩
  | _, _, .cons (b := q) h t, hA, hI => by
    rw [List.all_cons, Bool.and_eq_true] at hA
    cases q with
    | odd => exact absurd hA.1 Bool.false_ne_true
    | grp xs =>
      have hI : (xs ++ flG _).all (inN ns) = true := hI
      rw [List.all_append, Bool.and_eq_true] at hI
      obtain ⟨cs, f, e1, e2, e3⟩ := li_of t hA.2 hI.2
      obtain ⟨zs, rfl, hz⟩ := all_int hI.1
      obtain ⟨a, e, ea, _⟩ := h
      refine ⟨zs :: cs, .cons ⟨a, e, ea⟩ f, by rw [e1]; rfl, ?_, fun c hc => ?_⟩
      · show zs.map V.int ++ flG _ = (zs ++ cs.flatten).map V.int
        rw [e2, List.map_append]
      · rcases List.mem_cons.mp hc with rfl | hc
        · exact hz
        · exact e3 c hc
theorem map_injD {α β : Type} {f : α → β} (hf : ∀ a b, f a = f b → a = b) : ∀ {xs ys : List α}, xs.map f = ys.map f → xs = ys
  | [], [], _ => rfl
  | [], _ :: _, h => by cases h
  | _ :: _, [], h => by cases h
  | x :: xs, y :: ys, h => by
    rw [List.map_cons, List.map_cons] at h
    injection h with h1 h2
    rw [hf _ _ h1, map_injD hf h2]
def oddN (cs : List (List Int)) : Nat := (cs.filter fun c => decide (c.length % 2 = 1)).length
/-- the four things -/
def ShowsP (m : Int) (rs : List Rw) (op : Option (List Pq)) (og : Option (List Gq)) : Prop := psB m rs op = true ∧ gsB rs og = true ∧ ∀ qs gs (cs : List (List Int)), op = some qs → og = some gs → gs = cs.map (fun c => .grp (c.map V.int)) → ¬ AcP m rs cs cs.length ∧ rs.length = 2 * qs.length + oddN cs
def spShows (K : PySem.W.Frag) (C : Addr) : Sp := fun vs H Q _ => ∃ (b : Addr) (px gx : V) (m : Int) (xs : List V) (rs : List Rw) (op : Option (List Pq)) (og : Option (List Gq)), vs = [.ref b, px, gx, .int m] ∧ H b = some (.lst xs) ∧ BdL C H xs rs ∧ rs.length ≤ 200 ∧ (rs.map Rw.num).Nodup ∧
  PsAt K H px op ∧ GsAt K H gx og ∧ lenO op ≤ 200 ∧ lenO og ≤ 200 ∧ (flGO og).length ≤ 400 ∧ ∀ H' r, Same H H' → (r = true ↔ ShowsP m rs op og) → Q (.bl r) H'
theorem ok_shows (T : Tx K mg) : FnOk P w K mg base CX0 16 T.A_shows T.fd_shows ["beads", "pairs", "groups", "match"] (spShows K T.C_Bead) := by
  refine okD T.F_shows sc_shows (fun vs H Q E h => ?_) (fun cdv A outer s H vs Q E hr h => ?_)
  · obtain ⟨b, px, gx, m, xs, rs, op, og, rfl, hb, hB, hlen, hu, hP, hG, hpl, hgl, hfl, q⟩ := h
    rfl
  obtain ⟨b, px, gx, m, xs, rs, op, og, rfl, hb, hB, hlen, hu, hP, hG, hpl, hgl, hfl, q⟩ := h
  refine ⟨_, (pss_cons (ps_setDc (i := 4) (own := [("bead", 6)]) (g := gName 6) (tt := tYes) rfl sc_shows.nd rfl rfl (swd_true rfl rfl rfl (by decide +kernel)) (pi_list (pv 0)) (blkOk_by (N := ["beads", "pairs", "groups", "match", "by_number", "odd", "bead", "group"]) (sc := defScope s_shows) (by decide +kernel)) (fun _ _ _ _ _ => (pg_name (i := 6) sc_shows.nd rfl (Or.inl rfl))) (fun _ _ _ _ _ => pts_nil) (fun _ _ _ _ _ => (pe_fldK (K' := K) rfl (pv 6) rfl)) (fun _ _ _ _ _ => (pv 6)))
      (pss_cons (ps_if (PW.pt (pw_or (pt_not (pt_val (pe_call (ok_are_pairs T) (hr.mono (by decide)) (by rfl) T.g_are_pairs T.F_are_pairs.kp T.b_are_pairs .nil pass0 (pa_cons (pv 1) (pa_cons (pv 4) (pa_cons (pv 3) pa_nil)))))) (pw_or1 (pt_not (pt_val (pe_call (ok_are_groups T) (hr.mono (by decide)) (by rfl) T.g_are_groups T.F_are_groups.kp T.b_are_groups .nil pass0 (pa_cons (pv 2) (pa_cons (pv 4) pa_nil)))))))) (pss_one (ps_ret pe_bl)) pss_nil)
      (pss_cons (ps_if (pt_val (pe_call (ok_pairs_across T) (hr.mono (by decide)) (by rfl) T.g_pairs_across T.F_pairs_across.kp T.b_pairs_across .nil pass0 (pa_cons (pv 2) (pa_cons (pv 4) (pa_cons (pv 3) pa_nil))))) (pss_one (ps_ret pe_bl)) pss_nil)
      (pss_cons (ps_setLc (i := 5) (own := [("group", 7)]) (g := gName 7) (tt := _) rfl sc_shows.nd rfl rfl (sw_true rfl rfl rfl (by decide +kernel)) (pi_list (pv 2)) (blkOk_by (N := ["beads", "pairs", "groups", "match", "by_number", "odd", "bead", "group"]) (sc := defScope s_shows) (by decide +kernel)) (fun _ _ _ _ _ => (pg_name (i := 7) sc_shows.nd rfl (Or.inl rfl))) (fun _ _ _ _ _ => (pts_one (pt_cmpR op_eq (pe_op op_mod (pe_callB (call_len_seqK (K' := K) rfl) (by rfl) T.z_len PySem.boot_len (pa_cons (pv 7) pa_nil)) pe_int) pe_int (nomark _)))) (fun _ _ _ _ _ => (pv 7)))
      (pss_one (ps_ret (pe_cmpR op_eq (pe_op op_sub (pe_callB call_lenD (by rfl) T.z_len PySem.boot_len (pa_cons (pv 4) pa_nil)) (pe_op op_mul pe_int (pe_callB call_len_seq (by rfl) T.z_len PySem.boot_len (pa_cons (pv 1) pa_nil)))) (pe_callB call_len_seq (by rfl) T.z_len PySem.boot_len (pa_cons (pv 5) pa_nil)) (nomark _)))))))), ?_⟩
  have hxl := hB.1
  refine ⟨_, rfl, b, rfl, ⟨_, SqL.of hb⟩, fun D hD => ?_⟩
  refine itl_loop (K := K) (a := b) (xs := xs) (fun i H' => Same H H' ∧ H' D = some (.dK (kvsOf (rs.take i) (xs.take i)))) ⟨same_upd hD, upd_same⟩ (fun i H' _ h => SqL.of (h.1 _ _ hb)) ?_ ?_
  · rintro i x H2 hx ⟨s2, e2⟩
    have hi : i < xs.length := (List.getElem?_eq_some_iff.mp hx).1
    have hir : rs[i]? = some rs[i] := List.getElem?_eq_getElem (by omega)
    obtain ⟨p, h1, dp, hp⟩ := hB.2 i _ hir
    rw [h1] at hx
    cases hx
    have hl1 : (xs.take i).length = (rs.take i).length := by rw [List.length_take, List.length_take, hxl]
    refine ⟨rfl, yesT ⟨_, rfl, p, _, dp, _, _, rfl, s2 _ _ hp, T.cl_Bead, T.n_Bead_number, bf_number _, _, rfl, _, .inl rs[i].num, rfl, e2, ?_, fun c o h => by rw [upd_ne (ne_of_none h hD)]; exact s2 _ _ h, ?_⟩⟩
    · rw [kvs_len _ _ hl1, List.length_take]
      exact Nat.lt_of_le_of_lt (show _ ≤ 1000 by omega) (by decide)
    · rw [upd_same, put_new, List.take_add_one, List.take_add_one, hir, h1]
      · show _ = some (HO.dK (kvsOf (rs.take i ++ [rs[i]]) (xs.take i ++ [.ref p])))
        rw [kvs_snoc _ _ _ _ hl1]
      · rw [kvs_keys _ _ hl1]
        intro hm
        obtain ⟨n, hn, e⟩ := List.mem_map.mp hm
        injection e with e
        obtain ⟨r, hr, rfl⟩ := List.mem_map.mp hn
        obtain ⟨k, hk, e3⟩ := List.getElem_of_mem hr
        rw [List.length_take] at hk
        rw [List.getElem_take] at e3
        have := num_inj hu (List.getElem_mem (by omega : k < rs.length)) (List.getElem_mem (by omega : i < rs.length)) (by rw [e3]; exact e)
        have := (List.getElem_inj (nodup_of_nums hu)).mp this
        omega
  rintro H2 ⟨s2, e2⟩
  rw [List.take_of_length_le (l := rs) (by omega), List.take_of_length_le (l := xs) (Nat.le_refl _)] at e2
  have hK : KnB T.C_Bead H2 (kvsOf rs xs) rs := ⟨kvs_keys rs xs hxl, fun r hr => by
    obtain ⟨k, hk, e3⟩ := List.getElem_of_mem hr
    have q1 : rs[k]? = some r := by rw [List.getElem?_eq_getElem hk, e3]
    obtain ⟨p, x1, hp⟩ := hB.2 k r q1
    exact ⟨p, kvs_get rs xs hu q1 x1, hp.nl (NL.of s2)⟩⟩
  refine ⟨_, rfl, _, rfl, _, rfl, px, D, m, op, _, rs, rfl, hP.same s2, e2, hK, by omega, fun H3 s3 => ⟨_, rfl, ?_⟩⟩
  have s03 := s2.trans s3
  cases h1 : psB m rs op with
  | false =>
    refine iteT (q _ _ s03 ⟨(fun h => by cases h), fun h => ?_⟩)
    rw [← h1]
    exact h.1
  | true =>
  refine iteF ?_
  have hK3 : KnB T.C_Bead H3 (kvsOf rs xs) rs := ⟨hK.1, fun r hr => by
    obtain ⟨p, a, b⟩ := hK.2 r hr
    exact ⟨p, a, b.nl (NL.of s3)⟩⟩
  refine ⟨_, rfl, _, rfl, gx, D, og, _, rs, rfl, hG.same s03, s3 _ _ e2, hK3, by omega, hfl, fun H4 s4 => ⟨_, rfl, ?_⟩⟩
  have s04 := s03.trans s4
  cases h2 : gsB rs og with
  | false =>
    refine iteT (q _ _ s04 ⟨(fun h => by cases h), fun h => ?_⟩)
    rw [← h2]
    exact h.2.1
  | true =>
  refine iteF ?_
  cases op with
  | none => cases h1
  | some qs =>
  cases og with
  | none => cases h2
  | some gq =>
  obtain ⟨pl, ys, rfl, hpa, hF⟩ := hP
  obtain ⟨gl, gs, rfl, hga, hGF⟩ := hG
  have h2' : groupsB rs gq = true := h2
  unfold groupsB onceB at h2'
  rw [Bool.and_eq_true, Bool.and_eq_true, Bool.and_eq_true] at h2'
  obtain ⟨a1, ⟨a2, a3⟩, a4⟩ := h2'
  obtain ⟨cs, hL, ecs, efl, hin⟩ := li_of hGF a1 a2
  have hcl : cs.length ≤ 200 := by
    have : lenO (some gq) ≤ 200 := hgl
    rw [ecs] at this
    show cs.length ≤ 200
    have e : lenO (some (cs.map fun c => Gq.grp (c.map V.int))) = cs.length := by show (cs.map _).length = _; rw [List.length_map]
    omega
  have hfl2 : cs.flatten.length ≤ 400 := by
    have : (flG gq).length ≤ 400 := hfl
    rw [efl, List.length_map] at this
    exact this
  have hG4 := hL.mono (fun _ _ ⟨a, h1, h2⟩ => ⟨a, h1, s04 _ _ h2⟩ : ∀ v z, LI H v z → LI H4 v z)
  have hK4 : KnB T.C_Bead H4 (kvsOf rs xs) rs := ⟨hK.1, fun r hr => by
    obtain ⟨p, a, b⟩ := hK3.2 r hr
    exact ⟨p, a, b.nl (NL.of s4)⟩⟩
  refine ⟨_, rfl, _, rfl, _, rfl, gl, D, m, _, cs, _, rs, rfl, s04 _ _ hga, hG4, (s3.trans s4) _ _ e2, hK4, hin, hfl2, by omega, fun H5 bA s5 hbA => ⟨_, rfl, ?_⟩⟩
  have s05 := s04.trans s5
  have uniq : ∀ cs' : List (List Int), gq = cs'.map (fun c => .grp (c.map V.int)) → cs' = cs := fun cs' e => by
    rw [ecs] at e
    have inj : ∀ a b : List Int, Gq.grp (a.map V.int) = Gq.grp (b.map V.int) → a = b := fun a b e => by
      injection e with e
      exact map_injD (fun x y h => by injection h) e
    exact (map_injD (fun x y h => inj x y h) e).symm
  cases bA with
  | true =>
    refine iteT (q _ _ s05 ⟨(fun h => by cases h), fun h => ?_⟩)
    exact absurd (hbA.mp rfl) (h.2.2 qs gq cs rfl rfl ecs).1
  | false =>
  have hnA : ¬ AcP m rs cs cs.length := fun h => by
    have := hbA.mpr h
    cases this
  refine iteF ?_
  have hG5 := hL.mono (fun _ _ ⟨a, h1, h2⟩ => ⟨a, h1, s05 _ _ h2⟩ : ∀ v z, LI H v z → LI H5 v z)
  refine ⟨_, rfl, gl, rfl, ⟨_, SqL.of (s05 _ _ hga)⟩, fun D5 hD5 => ?_⟩
  refine itl_loop (K := K) (a := gl) (xs := gs) (fun i H' => Same H5 H' ∧ ∃ acc, H' D5 = some (.lst acc) ∧ acc.length = ((cs.take i).filter fun c => decide (c.length % 2 = 1)).length) ⟨same_upd hD5, [], upd_same, rfl⟩ (fun i H' _ h => SqL.of (h.1 _ _ (s05 _ _ hga))) ?_ ?_
  · rintro i x H6 hx ⟨s6, acc, e6, la⟩
    obtain ⟨c, hc, g, rfl, hg⟩ := hG5.get hx
    have hlc : acc.length ≤ cs.length := by
      rw [la]
      exact Nat.le_trans (List.length_filter_le _ _) (by rw [List.length_take]; omega)
    refine ⟨rfl, _, rfl, g, _, rfl, .inl (SqL.of (s6 _ _ hg)), _, _, rfl, rfl, (by show (0 : Int) < 2; decide), rfl, _, rfl, ?_⟩
    rw [dec_int, List.length_map, show (decide (((c.length : Nat) : Int) % 2 = 1)) = decide (c.length % 2 = 1) from decide_eq_decide.mpr (by omega)]
    have tk : (cs.take (i + 1)).filter (fun c => decide (c.length % 2 = 1)) = (cs.take i).filter (fun c => decide (c.length % 2 = 1)) ++ [c].filter (fun c => decide (c.length % 2 = 1)) := by
      rw [List.take_add_one, hc, List.filter_append]
      rfl
    cases ho : decide (c.length % 2 = 1) with
    | true =>
      refine iteT ⟨_, rfl, acc, e6, Nat.lt_of_le_of_lt (show acc.length ≤ 1000 by omega) (by decide), fun b o h => by rw [upd_ne (ne_of_none h hD5)]; exact s6 _ _ h, _, upd_same, ?_⟩
      rw [tk, List.filter_cons_of_pos (p := fun c : List Int => decide (c.length % 2 = 1)) ho, List.length_append, List.length_append, la]
      rfl
    | false =>
      refine iteF ⟨s6, acc, e6, ?_⟩
      rw [tk, List.filter_cons_of_neg (p := fun c : List Int => decide (c.length % 2 = 1)) (by rw [ho]; exact Bool.false_ne_true), List.length_append, la]
      rfl
  rintro H6 ⟨s6, acc, e6, la⟩
  rw [List.take_of_length_le (by rw [hL.len]; exact Nat.le_refl _)] at la
  have la : acc.length = oddN cs := la
  have s06 := s05.trans s6
  have e26 := (s3.trans (s4.trans (s5.trans s6))) _ _ e2
  have hkl := kvs_len rs xs hxl
  have hyl := hF.len
  have hql : qs.length ≤ 200 := hpl
  have e64 : (2 : Int) ^ 64 = 18446744073709551616 := by decide
  refine ⟨_, rfl, D, _, rfl, e26, _, rfl, pl, _, rfl, .inl (SqL.of (s06 _ _ hpa)), _, _, rfl, rfl, ?_, _, _, rfl, rfl, _, rfl, D5, _, rfl, .inl (SqL.of e6), rfl, ?_⟩
  · exact .inl ⟨by decide, by decide⟩
  · rw [dec_int]
    refine q _ _ s06 ?_
    rw [decide_eq_true_iff]
    constructor
    · intro h
      refine ⟨h1, h2, fun qs' gs' cs' e1 e2 e3 => ?_⟩
      cases e1
      cases e2
      rw [uniq cs' e3]
      exact ⟨hnA, by omega⟩
    · intro h
      have := (h.2.2 qs gq cs rfl rfl ecs).2
      omega
end
end KB
namespace KB
open PySem PySem.Spec PyProof.Rows L2 KA

section
variable {P : Program} {w : World} {K : PySem.W.Frag} {mg : Str → Option Value} {base : Heap}
/-! dicts put together -/
open Classical in
theorem nd_le {α : Type} : ∀ {L M : List α}, L.Nodup → (∀ x ∈ L, x ∈ M) → L.length ≤ M.length
  | [], M, _, _ => Nat.zero_le _
  | a :: L, M, h, hs => by
    rw [List.nodup_cons] at h
    have ha := hs a (List.mem_cons_self ..)
    have ih := nd_le (M := M.erase a) h.2 fun x hx => (List.mem_erase_of_ne (fun e => h.1 (by rw [← e]; exact hx))).mpr (hs x (List.mem_cons_of_mem _ hx))
    rw [List.length_erase_of_mem ha] at ih
    have := List.length_pos_of_mem ha
    rw [List.length_cons]
    omega
open Classical in
theorem nd_count {α : Type} : ∀ {M L : List α}, L.Nodup → (∀ x ∈ L, x ∈ M) → M.length ≤ L.length → M.Nodup
  | [], _, _, _, _ => List.nodup_nil
  | a :: M, L, h, hs, hl => by
    rw [List.length_cons] at hl
    have hna : a ∉ M := fun ha => by
      have := nd_le h (M := M) fun x hx => by
        rcases List.mem_cons.mp (hs x hx) with rfl | h2
        · exact ha
        · exact h2
      omega
    refine List.nodup_cons.mpr ⟨hna, nd_count (L := L.erase a) (h.erase a) (fun x hx => ?_) ?_⟩
    · have hxl := List.mem_of_mem_erase hx
      rcases List.mem_cons.mp (hs x hxl) with rfl | h2
      · exact absurd hx (h.not_mem_erase)
      · exact h2
    · rw [List.length_erase]
      split <;> omega
theorem keys_put1 {kvs : List (Key × V)} {k : Key} {v : V} (h : k ∈ kvs.map (·.1)) : (putK kvs k v).map (·.1) = kvs.map (·.1) := by
  unfold putK
  rw [if_pos, List.map_map]
  · refine List.map_congr_left fun kv _ => ?_
    show (if kv.1 = k then (kv.1, v) else kv).1 = kv.1
    split <;> rfl
  · obtain ⟨kv, h3, h4⟩ := List.mem_map.mp h
    exact List.any_eq_true.mpr ⟨kv, h3, decide_eq_true h4⟩
theorem nd_putK {kvs : List (Key × V)} {k : Key} {v : V} (h : (kvs.map (·.1)).Nodup) : ((putK kvs k v).map (·.1)).Nodup := by
  by_cases hn : k ∈ kvs.map (·.1)
  · rw [keys_put1 hn]
    exact h
  · rw [put_new hn, List.map_append]
    exact List.nodup_append.mpr ⟨h, List.nodup_cons.mpr ⟨List.not_mem_nil, List.nodup_nil⟩, fun a ha b hb e => hn (by have hb : b = k := List.mem_singleton.mp hb; rw [← hb, ← e]; exact ha)⟩
theorem mem_putK {kvs : List (Key × V)} {k j : Key} {v : V} : j ∈ (putK kvs k v).map (·.1) ↔ j ∈ kvs.map (·.1) ∨ j = k := by
  by_cases hk : k ∈ kvs.map (·.1)
  · rw [keys_put1 hk]
    exact ⟨.inl, fun h => h.elim id fun e => by rw [e]; exact hk⟩
  · rw [put_new hk, List.map_append, List.mem_append]
    show _ ∨ j ∈ [k] ↔ _
    rw [List.mem_singleton]
theorem nd_mergeK : ∀ (more kvs : List (Key × V)), (kvs.map (·.1)).Nodup → ((mergeK kvs more).map (·.1)).Nodup
  | [], _, h => h
  | p :: more, kvs, h => nd_mergeK more (putK kvs p.1 p.2) (nd_putK h)
theorem mem_mergeK {j : Key} : ∀ (more kvs : List (Key × V)), j ∈ (mergeK kvs more).map (·.1) ↔ j ∈ kvs.map (·.1) ∨ j ∈ more.map (·.1)
  | [], kvs => by
    show j ∈ kvs.map (·.1) ↔ _
    simp
  | p :: more, kvs => by
    show j ∈ (mergeK (putK kvs p.1 p.2) more).map (·.1) ↔ _
    rw [mem_mergeK more, mem_putK, List.map_cons, List.mem_cons, or_assoc]
theorem merge_nd : ∀ (more kvs : List (Key × V)), (more.map Prod.fst).Nodup → (∀ k ∈ more.map Prod.fst, k ∉ kvs.map (·.1)) → mergeK kvs more = kvs ++ more
  | [], kvs, _, _ => (List.append_nil _).symm
  | p :: more, kvs, h, hn => by
    rw [List.map_cons, List.nodup_cons] at h
    show mergeK (putK kvs p.1 p.2) more = _
    have e : putK kvs p.1 p.2 = kvs ++ [p] := put_new (hn _ (by simp))
    rw [e, merge_nd more _ h.2, List.append_assoc]
    · rfl
    · intro k hk hk2
      rw [List.map_append, List.mem_append] at hk2
      rcases hk2 with hk2 | hk2
      · exact hn k (by rw [List.map_cons]; exact List.mem_cons_of_mem _ hk) hk2
      · have : k = p.1 := by simpa using hk2
        rw [this] at hk
        exact h.1 hk
theorem pair_of {K : PySem.W.Frag} {H : Hp} : ∀ {acc : List V} {kvs : List (Key × V)}, acc.length = kvs.length → (∀ (j : Nat) v, acc[j]? = some v → ∃ t kv, kvs[j]? = some kv ∧ v = .ref t ∧ H t = some (.tup [kV kv.1, kv.2])) → ∃ ps : List Addr, acc = ps.map V.ref ∧ Paired (fun p kv => SqT K H p [kV kv.1, kv.2]) ps kvs
  | [], [], _, _ => ⟨[], rfl, .nil⟩
  | [], _ :: _, h, _ => by simp at h
  | _ :: _, [], h, _ => by simp at h
  | v :: acc, kv :: kvs, h, g => by
    obtain ⟨ps, e, p⟩ := pair_of (K := K) (H := H) (acc := acc) (kvs := kvs) (by simpa using h) fun j v hv => g (j + 1) v hv
    obtain ⟨t, kv', e1, rfl, e2⟩ := g 0 v rfl
    cases e1
    exact ⟨t :: ps, by rw [e]; rfl, .cons (.of e2) p⟩
/-- the groups' numbers with the groups' places -/
def gPairs (k : Nat) : List (List Int) → List (Key × V)
  | [] => []
  | c :: cs => (c.map fun n => ((.inl n : Key), V.int (k : Nat))) ++ gPairs (k + 1) cs
theorem gPairs_app : ∀ (cs ds : List (List Int)) (k : Nat), gPairs k (cs ++ ds) = gPairs k cs ++ gPairs (k + cs.length) ds
  | [], ds, k => rfl
  | c :: cs, ds, k => by
    show _ ++ gPairs (k + 1) (cs ++ ds) = _ ++ gPairs (k + 1) cs ++ _
    rw [gPairs_app cs ds (k + 1), List.append_assoc, List.length_cons, show k + 1 + cs.length = k + (cs.length + 1) by omega]
theorem gPairs_keys : ∀ (cs : List (List Int)) (k : Nat), (gPairs k cs).map (·.1) = cs.flatten.map Sum.inl
  | [], k => rfl
  | c :: cs, k => by
    show (_ ++ gPairs (k + 1) cs).map _ = (c ++ cs.flatten).map _
    rw [List.map_append, List.map_append, gPairs_keys cs (k + 1), List.map_map]
    rfl
/-- what is known of the dict of groups behind some of them -/
structure GI (cs : List (List Int)) (kvs : List (Key × V)) : Prop where
  nd : (kvs.map (·.1)).Nodup
  mem : ∀ j, j ∈ kvs.map (·.1) ↔ j ∈ cs.flatten.map (Sum.inl : Int → Key)
  eq : cs.flatten.Nodup → kvs = gPairs 0 cs
theorem inl_nd {xs : List Int} : (xs.map (Sum.inl : Int → Key)).Nodup ↔ xs.Nodup := by
  constructor
  · exact fun h => List.Pairwise.of_map Sum.inl (fun a b e e2 => e (by rw [e2])) h
  · exact fun h => List.Pairwise.map Sum.inl (fun a b e e2 => e (by injection e2)) h
theorem GI.step {cs : List (List Int)} {kvs : List (Key × V)} (h : GI cs kvs) (c : List Int) : GI (cs ++ [c]) (mergeK kvs (mergeK [] (c.map fun n => ((.inl n : Key), V.int (cs.length : Nat))))) := by
  have ek : (c.map fun n => ((.inl n : Key), V.int (cs.length : Nat))).map (·.1) = c.map Sum.inl := by rw [List.map_map]; rfl
  have ef : (cs ++ [c]).flatten = cs.flatten ++ c := by
    rw [List.flatten_append]
    show _ ++ (c ++ []) = _
    rw [List.append_nil]
  refine ⟨nd_mergeK _ _ h.nd, fun j => ?_, fun hn => ?_⟩
  · rw [mem_mergeK, mem_mergeK, ek, ef, List.map_append, List.mem_append, h.mem j]
    simp
  · rw [ef, List.nodup_append] at hn
    obtain ⟨n1, n2, n3⟩ := hn
    rw [merge_nd _ [] (by rw [show List.map Prod.fst _ = _ from ek]; exact inl_nd.mpr n2) (fun k _ h => by simp at h), List.nil_append, merge_nd _ kvs (by rw [show List.map Prod.fst _ = _ from ek]; exact inl_nd.mpr n2), h.eq n1, gPairs_app]
    · show _ = _ ++ (_ ++ [])
      rw [List.append_nil, Nat.zero_add]
    · intro k hk hk2
      rw [show List.map Prod.fst _ = _ from ek] at hk
      rw [h.mem] at hk2
      obtain ⟨a, ha, rfl⟩ := List.mem_map.mp hk
      obtain ⟨b, hb, e⟩ := List.mem_map.mp hk2
      injection e with e
      exact n3 b hb a ha e
theorem GI.len {cs : List (List Int)} {kvs : List (Key × V)} (h : GI cs kvs) : kvs.length = cs.flatten.length ↔ cs.flatten.Nodup := by
  constructor
  · intro e
    refine inl_nd.mp (nd_count h.nd (fun x hx => (h.mem x).mp hx) ?_)
    rw [List.length_map, List.length_map]
    omega
  · intro hn
    have := congrArg List.length (gPairs_keys cs 0)
    rw [List.length_map, List.length_map] at this
    rw [h.eq hn, this]
theorem gPairs_val : ∀ {cs : List (List Int)} {k j : Nat} {c : List Int} {n : Int}, cs.flatten.Nodup → cs[j]? = some c → n ∈ c → valV (gPairs k cs) (Sum.inl n : Key) = some (.int ((k + j : Nat)))
  | [], _, _, _, _, _, h, _ => by simp at h
  | c0 :: cs, k, j, c, n, hn, h, hc => by
    have hn : (c0 ++ cs.flatten).Nodup := hn
    rw [List.nodup_append] at hn
    obtain ⟨n1, n2, n3⟩ := hn
    have hfind : ∀ {xs : List Int} {v : V} {rest : List (Key × V)}, valV ((xs.map fun n => ((.inl n : Key), v)) ++ rest) (Sum.inl n) = if n ∈ xs then some v else valV rest (Sum.inl n) := by
      intro xs v rest
      induction xs with
      | nil => rfl
      | cons x xs ih =>
        show valV ((Sum.inl x, v) :: (_ ++ rest)) _ = _
        by_cases e : x = n
        · rw [valV_pos (by rw [e]), if_pos (by rw [e]; exact List.mem_cons_self ..)]
        · rw [valV_neg (fun e2 => by injection e2 with e2; exact e e2), ih]
          by_cases h2 : n ∈ xs
          · rw [if_pos h2, if_pos (List.mem_cons_of_mem _ h2)]
          · rw [if_neg h2, if_neg (fun h3 => by
              rcases List.mem_cons.mp h3 with e2 | h3
              · exact e e2.symm
              · exact h2 h3)]
    show valV (_ ++ gPairs (k + 1) cs) _ = _
    rw [hfind]
    match j, h with
    | 0, h =>
      cases h
      rw [if_pos hc]
      rfl
    | j + 1, h =>
      have h : cs[j]? = some c := h
      have hm : n ∈ cs.flatten := List.mem_flatten.mpr ⟨c, List.mem_of_getElem? h, hc⟩
      rw [if_neg (fun h2 => n3 n h2 n hm rfl), gPairs_val n2 h hc]
      rw [show k + 1 + j = k + (j + 1) by omega]
end
end KB
namespace KB
open PySem PySem.Spec PyProof.Rows L2 KA

section
variable {P : Program} {w : World} {K : PySem.W.Frag} {mg : Str → Option Value} {base : Heap}
theorem inV_ints {n : Int} {ns : List Int} : inV (.int n) (ns.map V.int) = decide (n ∈ ns) := by
  unfold inV
  rw [List.any_map, Bool.eq_iff_iff, List.any_eq_true, decide_eq_true_iff]
  constructor
  · rintro ⟨x, hx, e⟩
    have e : (x == n) = true := e
    rw [← eq_of_beq e]
    exact hx
  · intro h
    exact ⟨n, h, show (n == n) = true from beq_self_eq_true _⟩
theorem flat_ints {ns : List Int} : (ns.map V.int).all flatV = true := by
  rw [List.all_map, List.all_eq_true]
  exact fun _ _ => rfl
def spLNum (K : PySem.W.Frag) : Sp := fun vs H Q _ => ∃ (v : V) (l : Addr) (ns : List Int), vs = [v, .ref l] ∧ Th K H v ∧ SqL K H l (ns.map V.int) ∧ Q (.bl (inN ns v)) H
theorem ok_Lis_number (T : Tx K mg) : FnOk P w K mg base CX0 1 T.A_Lis_number T.fd_Lis_number ["_law_thing", "_law_numbers_here"] (spLNum K) := by
  refine T.F_Lis_number.ok sc_Lis_number (fun vs H Q E h => ?_) (fun cdv A outer s H vs Q E hr h => ?_)
  · obtain ⟨v, l, ns, rfl, th, hl, q⟩ := h
    rfl
  obtain ⟨v, l, ns, rfl, th, hl, q⟩ := h
  refine ⟨_, (pss_one (ps_ret (pe_and (pe_callB call_isi (by rfl) T.z_isinstance (by decide +kernel) (pa_cons (pv 0) (pa_cons (pe_bltn (v := .ty "int") (by rfl) T.z_int (by decide +kernel) rfl) pa_nil))) (pe_and (pe_not (pe_callB call_isi (by rfl) T.z_isinstance (by decide +kernel) (pa_cons (pv 0) (pa_cons (pe_bltn (v := .ty "bool") (by rfl) T.z_bool (by decide +kernel) rfl) pa_nil)))) (pe_one (pe_cmpR op_in_seq (pv 0) (pv 1) (by rfl))))))), ?_⟩
  obtain ⟨t1, ty1, k1⟩ := isi_int th
  obtain ⟨t2, ty2, k2⟩ := isi_bool th
  refine ⟨_, rfl, v, _, t1, _, _, rfl, .ty _, ty1, k1, _, rfl, ?_⟩
  cases v with
  | int n =>
    refine iteT ?_
    refine ⟨_, rfl, _, _, t2, _, _, rfl, .ty _, ty2, k2, _, rfl, ?_⟩
    refine ⟨_, rfl, iteT ⟨_, rfl, _, rfl, l, _, rfl, .inl hl, rfl, flat_ints, ?_⟩⟩
    show Q (.bl (inV _ _)) H
    rw [inV_ints]
    exact q
  | bl b => 
    refine iteT ?_
    refine ⟨_, rfl, _, _, t2, _, _, rfl, .ty _, ty2, k2, _, rfl, ?_⟩
    exact ⟨_, rfl, iteF q⟩
  | _ => exact iteF q
/-! the four things as the law asks them -/
def dueQ (m : Int) (rs : List Rw) : Pq → Bool
  | .two (.int a) (.int b) => match rowN rs a, rowN rs b with
    | some r, some r' => DP m r r'
    | _, _ => false
  | _ => false
def gofV (cs : List (List Int)) (n : Int) : Option V := valV (gPairs 0 cs) (Sum.inl n : Key)
theorem inV_false {xs : List V} {f : V → Bool} : inV (.bl false) ((xs.map f).map V.bl) = !(xs.all f) := by
  unfold inV
  induction xs with
  | nil => rfl
  | cons x xs ih =>
    rw [List.map_cons, List.map_cons, List.any_cons, ih, List.all_cons]
    cases f x <;> rfl
theorem flat_bls {bs : List Bool} : (bs.map V.bl).all flatV = true := by
  rw [List.all_map, List.all_eq_true]
  exact fun _ _ => rfl
theorem dueQ_in {m : Int} {rs : List Rw} {a b : V} (h : dueQ m rs (.two a b) = true) : [a, b].all (inN (rs.map Rw.num)) = true := by
  cases a with
  | int x =>
    cases b with
    | int y =>
      simp only [dueQ] at h
      cases e1 : rowN rs x with
      | none => rw [e1] at h; cases h
      | some r =>
        cases e2 : rowN rs y with
        | none => rw [e1, e2] at h; cases h
        | some r' =>
          have k1 : x ∈ rs.map Rw.num := List.mem_map.mpr ⟨r, List.mem_of_find?_eq_some e1, of_decide_eq_true (List.find?_some (p := fun r : Rw => decide (r.num = x)) e1)⟩
          have k2 : y ∈ rs.map Rw.num := List.mem_map.mpr ⟨r', List.mem_of_find?_eq_some e2, of_decide_eq_true (List.find?_some (p := fun r : Rw => decide (r.num = y)) e2)⟩
          show (decide _ && (decide _ && true)) = true
          rw [decide_eq_true k1, decide_eq_true k2]
          rfl
    | _ => cases h
  | _ => cases h
theorem dueQ_of {m : Int} {rs : List Rw} {a b : Int} {r r' : Rw} (h : rowN rs a = some r) (h' : rowN rs b = some r') : dueQ m rs (.two (.int a) (.int b)) = DP m r r' := by
  simp only [dueQ, h, h']
theorem grp_take {gq : List Gq} {cs : List (List Int)} {i : Nat} {z : Gq} (h : gq = cs.map fun c => .grp (c.map V.int)) (hz : gq[i]? = some z) : ∃ c, cs[i]? = some c ∧ z = .grp (c.map V.int) := by
  rw [h, List.getElem?_map] at hz
  cases e : cs[i]? with
  | none => rw [e] at hz; cases hz
  | some c => rw [e] at hz; cases hz; exact ⟨c, rfl, rfl⟩
theorem nd_full {L M : List Int} (h : L.Nodup) (hs : ∀ x ∈ L, x ∈ M) (hl : M.length ≤ L.length) {x : Int} (hx : x ∈ M) : x ∈ L := by
  refine Classical.byContradiction fun hn => ?_
  have := nd_le (L := x :: L) (M := M) (List.nodup_cons.mpr ⟨hn, h⟩) fun y hy => by
    rcases List.mem_cons.mp hy with rfl | hy
    · exact hx
    · exact hs y hy
  rw [List.length_cons] at this
  omega
theorem due_ints {m : Int} {rs : List Rw} : ∀ {qs : List Pq}, (∀ z ∈ qs, dueQ m rs z = true) → ∃ us : List Int, flP qs = us.map V.int
  | [], _ => ⟨[], rfl⟩
  | q :: qs, h => by
    obtain ⟨us, e⟩ := due_ints fun z hz => h z (List.mem_cons_of_mem _ hz)
    have hq := h q (List.mem_cons_self ..)
    cases q with
    | odd => cases hq
    | two a b =>
      obtain ⟨zs, hz, _⟩ := all_int (dueQ_in hq)
      refine ⟨zs ++ us, ?_⟩
      show [a, b] ++ flP qs = _
      rw [e, hz, List.map_append]
def gI (cs : List (List Int)) (n : Int) : Int := match gofV cs n with
  | some (.int i) => i
  | _ => 0
theorem gof_gI {cs : List (List Int)} {n : Int} (h : cs.flatten.Nodup) (hn : n ∈ cs.flatten) : gofV cs n = some (.int (gI cs n)) := by
  obtain ⟨c, hc, hn⟩ := List.mem_flatten.mp hn
  obtain ⟨j, hj⟩ := List.getElem?_of_mem hc
  have e : gofV cs n = some (.int ((0 + j : Nat))) := gPairs_val h hj hn
  simp only [gI, e]
theorem grp_inj {cs ds : List (List Int)} (h : cs.map (fun c => Gq.grp (c.map V.int)) = ds.map (fun c => Gq.grp (c.map V.int))) : cs = ds := by
  refine map_injD (fun a b e => ?_) h
  injection e with e
  exact map_injD (fun x y h => by injection h) e
def BdV (C : Addr) (H : Hp) (v : V) (r : Rw) : Prop := ∃ p, v = .ref p ∧ BeadAt C H p r
theorem f2_bdl {C : Addr} {H : Hp} {xs : List V} {rs : List Rw} (h : BdL C H xs rs) : F2 (BdV C H) xs rs := by
  obtain ⟨h1, h2⟩ := h
  induction rs generalizing xs with
  | nil =>
    cases xs with
    | nil => exact .nil
    | cons x xs => simp at h1
  | cons r rs ih =>
    cases xs with
    | nil => simp at h1
    | cons x xs =>
      obtain ⟨p, e, hp⟩ := h2 0 r rfl
      cases e
      exact .cons ⟨p, rfl, hp⟩ (ih (by simpa using h1) fun i r' hr => h2 (i + 1) r' hr)
theorem filter_take {α : Type} {f : α → Bool} {xs : List α} {j : Nat} {x : α} (h : xs[j]? = some x) : (xs.take (j + 1)).filter f = (xs.take j).filter f ++ (if f x = true then [x] else []) := by
  rw [List.take_add_one, h, List.filter_append]
  congr 1
  show [x].filter f = _
  cases e : f x with
  | true => rw [List.filter_cons_of_pos e, if_pos rfl]; rfl
  | false => rw [List.filter_cons_of_neg (by rw [e]; exact Bool.false_ne_true), if_neg Bool.false_ne_true]; rfl
structure DueP (m : Int) (rs : List Rw) (qs : List Pq) (gs : List Gq) (cs : List (List Int)) : Prop where
  pr : ∀ q ∈ qs, dueQ m rs q = true
  gr : gs = cs.map fun c => .grp (c.map V.int)
  inn : ∀ c ∈ cs, ∀ n ∈ c, n ∈ rs.map Rw.num
  nd : (flP qs).Nodup
  many : cs.flatten.length = rs.length
  ndg : cs.flatten.Nodup
  near : ∀ r ∈ rs, ∀ r' ∈ rs, DP m r r' = true → gofV cs r'.num = gofV cs r.num
  odd : rs.length = (flP qs).length + oddN cs
def spDue (K : PySem.W.Frag) (C : Addr) : Sp := fun vs H Q _ => ∃ (b : Addr) (px gx : V) (m : Int) (xs : List V) (rs : List Rw) (op : Option (List Pq)) (og : Option (List Gq)), vs = [.ref b, px, gx, .int m] ∧ H b = some (.lst xs) ∧ BdL C H xs rs ∧ rs.length ≤ 200 ∧ (rs.map Rw.num).Nodup ∧
  PsAt K H px op ∧ GsAt K H gx og ∧ lenO op ≤ 200 ∧ lenO og ≤ 200 ∧ (flGO og).length ≤ 400 ∧ ∀ H' r, Same H H' → (r = true ↔ ∃ qs gs cs, op = some qs ∧ og = some gs ∧ DueP m rs qs gs cs) → Q (.bl r) H'
theorem ok_due (T : Tx K mg) : FnOk P w K mg base CX0 13 T.A_due T.fd_due ["_law_beads_here", "_law_pairs", "_law_heaps", "_law_wide_by"] (spDue K T.C_Bead) := by
  refine T.F_due.ok sc_due (fun vs H Q E h => ?_) (fun cdv A outer s H vs Q E hr h => ?_)
  · obtain ⟨b, px, gx, m, xs, rs, op, og, rfl, hb, hB, hlen, hu, hP, hG, hpl, hgl, hfl, q⟩ := h
    rfl
  obtain ⟨b, px, gx, m, xs, rs, op, og, rfl, hb, hB, hlen, hu, hP, hG, hpl, hgl, hfl, q⟩ := h
  refine ⟨_, (pss_cons (ps_set (i := 4) sc_due.nd rfl (Or.inr rfl) (pe_callTy (call_dictP rfl) (by rfl) T.z_dict (by decide +kernel) (pa_cons (pe_lc (own := [("_law_bead", 13)]) (g := gName 13) (tt := tYes) rfl sc_due.nd (pi_list (pv 0)) (blkOk_by (N := ["_law_beads_here", "_law_pairs", "_law_heaps", "_law_wide_by", "_law_known", "_law_used", "_law_pair", "_law_group_of", "_law_many", "_law_at", "_law_group", "_law_one_here", "_law_near", "_law_bead", "_law_number"]) (sc := defScope s_due) (by decide +kernel)) (fun _ _ _ _ _ => (pg_name (i := 13) sc_due.nd rfl (Or.inl rfl))) (fun _ _ _ _ _ => pts_nil) (fun _ _ _ _ _ => (pe_tup (pa_cons (pe_fldK (K' := K) rfl (pv 13) rfl) (pa_cons (pv 13) pa_nil))))) pa_nil)))
      (pss_cons (ps_if (PW.pt (pw_or (pt_not (pt_val (pe_callB call_isi (by rfl) T.z_isinstance (by decide +kernel) (pa_cons (pv 1) (pa_cons (pe_bltn (v := .ty "list") (by rfl) T.z_list (by decide +kernel) rfl) pa_nil))))) (pw_or1 (pt_not (pt_val (pe_callB call_isi (by rfl) T.z_isinstance (by decide +kernel) (pa_cons (pv 2) (pa_cons (pe_bltn (v := .ty "list") (by rfl) T.z_list (by decide +kernel) rfl) pa_nil)))))))) (pss_one (ps_ret pe_bl)) pss_nil)
      (pss_cons (ps_set (i := 5) sc_due.nd rfl (Or.inl rfl) (pe_lst pa_nil))
      (pss_cons (ps_for PassesOwn.never rfl (pi_list (pv 1)) (pg_name (i := 6) sc_due.nd rfl (Or.inl rfl))
        (pss_cons (ps_if (PW.pt (pw_or (pt_not (pt_val (pe_callB call_isi (by rfl) T.z_isinstance (by decide +kernel) (pa_cons (pv 6) (pa_cons (pe_bltn (v := .ty "tuple") (by rfl) T.z_tuple (by decide +kernel) rfl) pa_nil))))) (pw_or1 (pt_cmpR op_ne (pe_callB call_len_seq (by rfl) T.z_len PySem.boot_len (pa_cons (pv 6) pa_nil)) pe_int (nomark _))))) (pss_one (ps_ret pe_bl)) pss_nil)
      (pss_cons (ps_set (i := 5) sc_due.nd rfl (Or.inl rfl) (pe_op op_cat (pv 5) (pe_callTy call_list_of (by rfl) T.z_list (by decide +kernel) (pa_cons (pv 6) pa_nil))))
      (pss_cons (ps_if (pt_cmpR op_in_seq pe_bl (pe_lc (own := [("_law_number", 14)]) (g := gName 14) (tt := tYes) rfl sc_due.nd (pi_tup (pv 6)) (blkOk_by (N := ["_law_beads_here", "_law_pairs", "_law_heaps", "_law_wide_by", "_law_known", "_law_used", "_law_pair", "_law_group_of", "_law_many", "_law_at", "_law_group", "_law_one_here", "_law_near", "_law_bead", "_law_number"]) (sc := defScope s_due) (by decide +kernel)) (fun _ _ _ _ _ => (pg_name (i := 14) sc_due.nd rfl (Or.inl rfl))) (fun _ _ _ _ _ => pts_nil) (fun _ _ _ _ _ => (pe_call (ok_Lis_number T) (hr.mono (by decide)) (by rfl) T.g_Lis_number T.F_Lis_number.kp T.b_Lis_number .nil pass0 (pa_cons (pv 14) (pa_cons (pe_callTy (call_listD rfl) (by rfl) T.z_list (by decide +kernel) (pa_cons (pv 4) pa_nil)) pa_nil))))) (by rfl)) (pss_one (ps_ret pe_bl)) pss_nil)
      (pss_one (ps_if (pt_not (pt_val (pe_call (ok_do_pair T) (hr.mono (by decide)) (by rfl) T.g_do_pair T.F_do_pair.kp T.b_do_pair .nil pass0 (pa_cons (pe_dget (Nat.lt_of_le_of_lt (Nat.add_le_add_left (by decide) _) hr.units) (pv 4) (pe_ix ix_tup (pv 6) pe_int (fun _ _ => rfl)) (fun _ _ => rfl)) (pa_cons (pe_dget (Nat.lt_of_le_of_lt (Nat.add_le_add_left (by decide) _) hr.units) (pv 4) (pe_ix ix_tup (pv 6) pe_int (fun _ _ => rfl)) (fun _ _ => rfl)) (pa_cons (pv 3) pa_nil)))))) (pss_one (ps_ret pe_bl)) pss_nil))))))
      (pss_cons (ps_set (i := 7) sc_due.nd rfl (Or.inr rfl) pe_dnewK)
      (pss_cons (ps_set (i := 8) sc_due.nd rfl (Or.inl rfl) pe_int)
      (pss_cons (ps_for PassesOwn.never rfl (pi_enum (by rfl) T.z_enumerate (pa_cons (pv 2) pa_nil)) (pg_tup (by rfl) (pgs_cons (pg_name (i := 9) sc_due.nd rfl (Or.inr rfl)) (pgs_cons (pg_name (i := 10) sc_due.nd rfl (Or.inl rfl)) pgs_nil)))
        (pss_cons (ps_if (PW.pt (pw_or (pt_not (pt_val (pe_callB call_isi (by rfl) T.z_isinstance (by decide +kernel) (pa_cons (pv 10) (pa_cons (pe_bltn (v := .ty "list") (by rfl) T.z_list (by decide +kernel) rfl) pa_nil))))) (pw_or1 (pt_cmpR op_in_seq pe_bl (pe_lc (own := [("_law_number", 14)]) (g := gName 14) (tt := tYes) rfl sc_due.nd (pi_list (pv 10)) (blkOk_by (N := ["_law_beads_here", "_law_pairs", "_law_heaps", "_law_wide_by", "_law_known", "_law_used", "_law_pair", "_law_group_of", "_law_many", "_law_at", "_law_group", "_law_one_here", "_law_near", "_law_bead", "_law_number"]) (sc := defScope s_due) (by decide +kernel)) (fun _ _ _ _ _ => (pg_name (i := 14) sc_due.nd rfl (Or.inl rfl))) (fun _ _ _ _ _ => pts_nil) (fun _ _ _ _ _ => (pe_call (ok_Lis_number T) (hr.mono (by decide)) (by rfl) T.g_Lis_number T.F_Lis_number.kp T.b_Lis_number .nil pass0 (pa_cons (pv 14) (pa_cons (pe_callTy (call_listD rfl) (by rfl) T.z_list (by decide +kernel) (pa_cons (pv 4) pa_nil)) pa_nil))))) (by rfl))))) (pss_one (ps_ret pe_bl)) pss_nil)
      (pss_cons (ps_set (i := 8) sc_due.nd rfl (Or.inl rfl) (pe_op op_add (pv 8) (pe_callB call_len_seq (by rfl) T.z_len PySem.boot_len (pa_cons (pv 10) pa_nil))))
      (pss_one (ps_expr (pe_dupd (pv 7) (pe_callTy (call_dictP rfl) (by rfl) T.z_dict (by decide +kernel) (pa_cons (pe_lc (own := [("_law_number", 14)]) (g := gName 14) (tt := tYes) rfl sc_due.nd (pi_list (pv 10)) (blkOk_by (N := ["_law_beads_here", "_law_pairs", "_law_heaps", "_law_wide_by", "_law_known", "_law_used", "_law_pair", "_law_group_of", "_law_many", "_law_at", "_law_group", "_law_one_here", "_law_near", "_law_bead", "_law_number"]) (sc := defScope s_due) (by decide +kernel)) (fun _ _ _ _ _ => (pg_name (i := 14) sc_due.nd rfl (Or.inl rfl))) (fun _ _ _ _ _ => pts_nil) (fun _ _ _ _ _ => (pe_tup (pa_cons (pv 14) (pa_cons (pv 9) pa_nil))))) pa_nil)) ⟨rfl, by rfl, by rfl, rfl⟩))))))
      (pss_cons (ps_if (PW.pt (pw_or (pt_cmpR op_lt (pe_lenSetD (by rfl) T.z_len (by rfl) T.z_set (pv 5)) (pe_callB call_len_seq (by rfl) T.z_len PySem.boot_len (pa_cons (pv 5) pa_nil)) (nomark _)) (pw_or (pt_cmpR op_ne (pv 8) (pe_callB call_len_seq (by rfl) T.z_len PySem.boot_len (pa_cons (pv 0) pa_nil)) (nomark _)) (pw_or1 (pt_cmpR op_ne (pe_callB call_lenD (by rfl) T.z_len PySem.boot_len (pa_cons (pv 7) pa_nil)) (pv 8) (nomark _)))))) (pss_one (ps_ret pe_bl)) pss_nil)
      (pss_cons (ps_for PassesOwn.never rfl (pi_list (pv 0)) (pg_name (i := 11) sc_due.nd rfl (Or.inr rfl))
        (pss_cons (ps_setLc (i := 12) (own := [("_law_bead", 13)]) (g := gName 13) (tt := _) rfl sc_due.nd rfl rfl (sw_true rfl rfl rfl (by decide +kernel)) (pi_list (pv 0)) (blkOk_by (N := ["_law_beads_here", "_law_pairs", "_law_heaps", "_law_wide_by", "_law_known", "_law_used", "_law_pair", "_law_group_of", "_law_many", "_law_at", "_law_group", "_law_one_here", "_law_near", "_law_bead", "_law_number"]) (sc := defScope s_due) (by decide +kernel)) (fun _ _ _ _ _ => (pg_name (i := 13) sc_due.nd rfl (Or.inl rfl))) (fun _ _ _ _ _ => (pts_one (pt_val (pe_call (ok_do_pair T) (hr.mono (by decide)) (by rfl) T.g_do_pair T.F_do_pair.kp T.b_do_pair .nil pass0 (pa_cons (pv 11) (pa_cons (pv 13) (pa_cons (pv 3) pa_nil))))))) (fun _ _ _ _ _ => (pv 13)))
      (pss_one (ps_if (pt_cmpR (op_neB (rcB_list true monB_flat eqB_flat) (hr.mono (by decide))) (pe_lc (own := [("_law_bead", 13)]) (g := gName 13) (tt := _) rfl sc_due.nd (pi_list (pv 12)) (blkOk_by (N := ["_law_beads_here", "_law_pairs", "_law_heaps", "_law_wide_by", "_law_known", "_law_used", "_law_pair", "_law_group_of", "_law_many", "_law_at", "_law_group", "_law_one_here", "_law_near", "_law_bead", "_law_number"]) (sc := defScope s_due) (by decide +kernel)) (fun _ _ _ _ _ => (pg_name (i := 13) sc_due.nd rfl (Or.inl rfl))) (fun _ _ _ _ _ => (pts_one (pt_cmpR op_ne (pe_dget (Nat.lt_of_le_of_lt (Nat.add_le_add_left (by decide) _) hr.units) (pv 7) (pe_fldK (K' := K) rfl (pv 13) rfl) (fun _ _ => rfl)) (pe_dget (Nat.lt_of_le_of_lt (Nat.add_le_add_left (by decide) _) hr.units) (pv 7) (pe_fldK (K' := K) rfl (pv 11) rfl) (fun _ _ => rfl)) (nomark _)))) (fun _ _ _ _ _ => (pv 13))) (pe_lst pa_nil) (nomark _)) (pss_one (ps_ret pe_bl)) pss_nil))))
      (pss_one (ps_ret (pe_cmpR op_eq (pe_op op_sub (pe_callB call_len_seq (by rfl) T.z_len PySem.boot_len (pa_cons (pv 0) pa_nil)) (pe_callB call_len_seq (by rfl) T.z_len PySem.boot_len (pa_cons (pv 5) pa_nil))) (pe_callB call_len_seq (by rfl) T.z_len PySem.boot_len (pa_cons (pe_lc (own := [("_law_group", 10)]) (g := gName 10) (tt := _) rfl sc_due.nd (pi_list (pv 2)) (blkOk_by (N := ["_law_beads_here", "_law_pairs", "_law_heaps", "_law_wide_by", "_law_known", "_law_used", "_law_pair", "_law_group_of", "_law_many", "_law_at", "_law_group", "_law_one_here", "_law_near", "_law_bead", "_law_number"]) (sc := defScope s_due) (by decide +kernel)) (fun _ _ _ _ _ => (pg_name (i := 10) sc_due.nd rfl (Or.inl rfl))) (fun _ _ _ _ _ => (pts_one (pt_cmpR op_eq (pe_op op_mod (pe_callB (call_len_seqK (K' := K) rfl) (by rfl) T.z_len PySem.boot_len (pa_cons (pv 10) pa_nil)) pe_int) pe_int (nomark _)))) (fun _ _ _ _ _ => (pv 10))) pa_nil)) (nomark _))))))))))))), ?_⟩
  have hxl := hB.1
  refine ⟨_, rfl, b, rfl, ⟨_, SqL.of hb⟩, fun D hD => lc_gen (K := K) hD (SqL.of hb) (by omega) (fun j v H' => ∃ t kv, (kvsOf rs xs)[j]? = some kv ∧ v = .ref t ∧ H' t = some (.tup [kV kv.1, kv.2])) (fun j v H1 H2 nl ⟨t, kv, h1, h2, h3⟩ => ⟨t, kv, h1, h2, nl _ _ (fun _ z => by cases z) h3⟩) (fun j x H2 R C hx s2 hR => ?_) fun H3 acc s3 eD lD gD => ?_⟩
  · have hi : j < xs.length := (List.getElem?_eq_some_iff.mp hx).1
    have hir : rs[j]? = some rs[j] := List.getElem?_eq_getElem (by omega)
    obtain ⟨p, h1, dp, hp⟩ := hB.2 j _ hir
    have hx0 := hx
    rw [h1] at hx
    cases hx
    refine ⟨rfl, yesT ⟨_, rfl, p, _, dp, _, _, rfl, s2 _ _ hp, T.cl_Bead, T.n_Bead_number, bf_number _, _, rfl, (by show 2 ≤ sizeLine; decide), fun t ht => ?_⟩⟩
    exact hR _ _ (same_upd ht) ⟨t, _, kvs_at rs xs hir h1, rfl, upd_same⟩
  obtain ⟨ps, eps, hps⟩ := pair_of (K := K) (lD.trans (by rw [kvs_len rs xs hxl, hxl])) gD
  rw [eps] at eD
  have hmk : mergeK [] (kvsOf rs xs) = kvsOf rs xs := by
    rw [merge_nd _ [] _ (fun k _ h => by simp at h), List.nil_append]
    rw [show (kvsOf rs xs).map Prod.fst = _ from kvs_keys rs xs hxl]
    exact inl_nd.mpr hu
  refine ⟨D, ps, kvsOf rs xs, rfl, .of eD, hps, fun Kn hKn => ?_⟩
  rw [hmk]
  have sK := s3.trans (same_upd hKn (o := .dK (kvsOf rs xs)))
  have eK : (upd H3 Kn (.dK (kvsOf rs xs))) Kn = some (.dK (kvsOf rs xs)) := upd_same
  revert sK eK
  generalize upd H3 Kn (.dK (kvsOf rs xs)) = H4
  intro sK eK
  have hK : ∀ {H'}, Same H4 H' → KnB T.C_Bead H' (kvsOf rs xs) rs := fun {H'} s => ⟨kvs_keys rs xs hxl, fun r hr => by
    obtain ⟨k, hk, e3⟩ := List.getElem_of_mem hr
    have q1 : rs[k]? = some r := by rw [List.getElem?_eq_getElem hk, e3]
    obtain ⟨p, x1, hp⟩ := hB.2 k r q1
    exact ⟨p, kvs_get rs xs hu q1 x1, hp.nl (NL.of (sK.trans s))⟩⟩
  have ekn : (kvsOf rs xs).map (fun kv => kV kv.1) = (rs.map Rw.num).map V.int := by
    have := congrArg (List.map kV) (kvs_keys rs xs hxl)
    rw [List.map_map, List.map_map] at this
    exact this
  cases op with
  | none =>
    obtain ⟨ty, t1, t2⟩ := hP.same sK
    exact ⟨_, rfl, _, _, ty, _, false, rfl, .ty _, t1, t2, _, rfl, iteT (iteT (q _ _ sK ⟨(fun h => by cases h), fun ⟨_, _, _, h, _⟩ => by cases h⟩))⟩
  | some qs =>
  obtain ⟨pl, ys, rfl, hpa, hF⟩ := hP
  refine ⟨_, rfl, _, _, .type "list", _, true, rfl, .ty _, .base (.lst (sK _ _ hpa)), kit_list K, _, rfl, iteF ?_⟩
  cases og with
  | none =>
    obtain ⟨ty, t1, t2⟩ := hG.same sK
    exact ⟨_, rfl, _, _, ty, _, false, rfl, .ty _, t1, t2, _, rfl, iteT (q _ _ sK ⟨(fun h => by cases h), fun ⟨_, _, _, _, h, _⟩ => by cases h⟩)⟩
  | some gq =>
  obtain ⟨gl, gs, rfl, hga, hGF⟩ := hG
  refine ⟨_, rfl, _, _, .type "list", _, true, rfl, .ty _, .base (.lst (sK _ _ hga)), kit_list K, _, rfl, iteF ?_⟩
  have hpl : qs.length ≤ 200 := hpl
  have hgl : gq.length ≤ 200 := hgl
  have hfl : (flG gq).length ≤ 400 := hfl
  refine ⟨Nat.zero_le _, fun u0 hu0 => ?_⟩
  have z0 := same_upd hu0 (o := .lst [])
  have eu0 : (upd H4 u0 (.lst [])) u0 = some (.lst []) := upd_same
  revert z0 eu0
  generalize upd H4 u0 (.lst []) = H5
  intro z0 eu0
  refine ⟨_, rfl, pl, rfl, ⟨_, SqL.of ((sK.trans z0) _ _ hpa)⟩, for_list (K := K) (a := pl) (xs := ys) (fun i σ H' => ∃ (ua : Addr) (w6 w7 w8 w9 w10 w11 w12 w13 w14 : Option V), σ = [some (.ref b), some (.ref pl), some (.ref gl), some (.int m), some (.ref Kn), some (.ref ua), w6, w7, w8, w9, w10, w11, w12, w13, w14] ∧ Same H4 H' ∧ H' ua = some (.lst (flP (qs.take i))) ∧ ∀ z ∈ qs.take i, dueQ m rs z = true) ⟨_, _, _, _, _, _, _, _, _, _, rfl, z0, eu0, fun z hz => by rw [List.take_zero] at hz; cases hz⟩ (fun i σ H' _ h => ?_) ?_ ?_⟩
  · obtain ⟨_, _, _, _, _, _, _, _, _, _, _, s, _⟩ := h
    exact SqL.of ((sK.trans s) _ _ hpa)
  · rintro i x σ H6 hi ⟨ua, w6, w7, w8, w9, w10, w11, w12, w13, w14, rfl, s6, eu, hd6⟩
    have s06 := sK.trans s6
    obtain ⟨z, hz, hzq⟩ := hF.get hi
    have no : ∀ H', Same H4 H' → dueQ m rs z = false → Q (.bl false) H' := fun H' s e => q _ _ (sK.trans s) ⟨(fun h => by cases h), fun ⟨qs', gs', cs', h1, h2, h3⟩ => by
      cases h1
      have := h3.pr z (List.mem_of_getElem? hz)
      rw [e] at this
      cases this⟩
    cases z with
    | odd =>
      obtain ⟨ty, t1, t2 | ⟨t2, t, ts, rfl, ht, hl2⟩⟩ := hzq
      · exact ⟨_, rfl, _, _, ty, _, false, rfl, .ty _, tyx_same s06 t1, t2, _, rfl, iteT (iteT (no _ s6 rfl))⟩
      · refine ⟨_, rfl, _, _, ty, _, true, rfl, .ty _, tyx_same s06 t1, t2, _, rfl, iteF ?_⟩
        refine ⟨_, rfl, t, _, rfl, .inr (.inl (.inl (s06 _ _ ht))), rfl, _, rfl, ?_⟩
        rw [dec_int, decide_eq_false (show ¬ ((ts.length : Nat) : Int) = 2 by omega)]
        exact iteT (no _ s6 rfl)
    | two a c =>
      obtain ⟨t, rfl, ht, tha, thc⟩ := hzq
      refine ⟨_, rfl, _, _, .type "tuple", _, true, rfl, .ty _, .base (.tup (s06 _ _ ht)), kit_tuple K, _, rfl, iteF ?_⟩
      refine ⟨_, rfl, t, _, rfl, .inr (.inl (.inl (s06 _ _ ht))), rfl, _, rfl, iteF ?_⟩
      refine ⟨_, rfl, _, rfl, t, _, rfl, .inr (.inl (.inl (s06 _ _ ht))), fun l hl => ?_⟩
      have hfi := len_flP (qs.take i)
      rw [List.length_take] at hfi
      refine ⟨ua, l, _, _, rfl, rfl, (same_upd hl (o := .lst [a, c])) _ _ eu, upd_same, Nat.le_trans (show _ ≤ 10000 from ?_) (by decide), fun u2 hu2 => ?_⟩
      · show (flP (qs.take i)).length + 2 ≤ 10000
        omega
      have z7 := (same_upd hl (o := .lst [a, c])).trans (same_upd hu2 (o := .lst (flP (qs.take i) ++ [a, c])))
      have eu2 : (upd (upd H6 l (.lst [a, c])) u2 (.lst (flP (qs.take i) ++ [a, c]))) u2 = some (.lst (flP (qs.take i) ++ [a, c])) := upd_same
      have s7 := s6.trans z7
      revert s7 eu2
      generalize upd (upd H6 l (.lst [a, c])) u2 (.lst (flP (qs.take i) ++ [a, c])) = H7
      intro eu2 s7
      have s07 := sK.trans s7
      refine ⟨_, rfl, t, rfl, ⟨_, .inl (.inl (s07 _ _ ht))⟩, fun D7 hD7 => lc_genT (K := K) hD7 (s07 _ _ ht) (by show 2 ≤ 10000; decide) (fun j v _ => ∃ x, [a, c][j]? = some x ∧ v = .bl (inN (rs.map Rw.num) x)) (fun _ _ _ _ _ h => h) (fun j x H8 R C hx s8 hR => ?_) fun H8 acc8 s8 eD8 lD8 gD8 => ?_⟩
      · have s78 := s7.trans s8
        have thx : Th K H8 x := by
          have hm := List.mem_of_getElem? hx
          simp only [List.mem_cons, List.not_mem_nil, or_false] at hm
          rcases hm with rfl | rfl
          · exact tha.same (sK.trans s78)
          · exact thc.same (sK.trans s78)
        refine ⟨rfl, yesT ⟨_, rfl, _, rfl, Kn, _, rfl, .inl (s78 _ _ eK), fun p hp => ?_⟩⟩
        refine ⟨x, p, rs.map Rw.num, rfl, thx.same (same_upd hp), .of (by rw [upd_same, ekn]), ?_⟩
        exact hR _ _ (same_upd hp) ⟨_, hx, rfl⟩
      have ea8 := acc_bl2 lD8 gD8
      rw [ea8] at eD8
      refine ⟨D7, _, rfl, .inl (SqL.of eD8), rfl, flat_bls, ?_⟩
      show ∃ k, V.bl (inV _ _) = .bl k ∧ _
      rw [inV_false]
      refine ⟨_, rfl, ?_⟩
      have s48 := s7.trans s8
      cases hA : [a, c].all (inN (rs.map Rw.num)) with
      | false =>
        refine iteT (no _ s48 ?_)
        cases hd : dueQ m rs (.two a c) with
        | false => rfl
        | true =>
          rw [dueQ_in hd] at hA
          cases hA
      | true =>
        refine iteF ?_
        have isn : ∀ v ∈ [a, c], ∃ n, v = .int n ∧ n ∈ rs.map Rw.num := fun v hv => by
          have := List.all_eq_true.mp hA v hv
          cases v with
          | int n => exact ⟨n, rfl, of_decide_eq_true this⟩
          | _ => cases this
        obtain ⟨n, rfl, hn⟩ := isn a (by simp)
        obtain ⟨n', rfl, hn'⟩ := isn c (by simp)
        obtain ⟨r, er, hr, rfl⟩ := rowN_mem hn
        obtain ⟨r', er', hr', rfl⟩ := rowN_mem hn'
        have hK8 := hK s48
        obtain ⟨p, k1, hp⟩ := hK8.2 r hr
        obtain ⟨p', k2, hp'⟩ := hK8.2 r' hr'
        have s08 := sK.trans s48
        have hat0 : atI [V.int r.num, V.int r'.num] 0 = some (V.int r.num) := rfl
        have hat1 : atI [V.int r.num, V.int r'.num] 1 = some (V.int r'.num) := rfl
        refine ⟨_, rfl, _, rfl, t, _, _, _, rfl, rfl, .inl (.inl (s08 _ _ ht)), hat0, Kn, .ref p, rfl, .inl ⟨_, .inl r.num, .inl (s48 _ _ eK), rfl, k1.symm⟩, ?_⟩
        refine ⟨_, rfl, _, rfl, t, _, _, _, rfl, rfl, .inl (.inl (s08 _ _ ht)), hat1, Kn, .ref p', rfl, .inl ⟨_, .inl r'.num, .inl (s48 _ _ eK), rfl, k2.symm⟩, ?_⟩
        refine ⟨_, rfl, p, p', r, r', m, rfl, hp, hp', fun H9 s9 => ⟨_, rfl, ?_⟩⟩
        have s49 := s48.trans s9
        cases hdp : DP m r r' with
        | false => exact iteT (no _ s49 (by rw [dueQ_of er er', hdp]))
        | true =>
          refine iteF ⟨_, _, _, _, _, _, _, _, _, _, rfl, s49, ?_, fun z2 hz2 => ?_⟩
          · rw [List.take_add_one, hz]
            show _ = some (HO.lst (flP (qs.take i ++ [_])))
            unfold flP
            rw [List.flatMap_append]
            exact (s8.trans s9) _ _ eu2
          · rw [List.take_add_one, hz] at hz2
            rcases List.mem_append.mp hz2 with h2 | h2
            · exact hd6 z2 h2
            · rw [List.mem_singleton.mp h2, dueQ_of er er', hdp]
  rintro σ H6 ⟨ua, w6, w7, w8, w9, w10, w11, w12, w13, w14, rfl, s6, eu, hd6⟩
  rw [List.take_of_length_le (by rw [hF.len]; exact Nat.le_refl _)] at eu hd6
  refine fun G hG => ?_
  have hG4 : H4 G = none := s6.free hG
  have neG : ∀ {c : Addr} {o : HO}, H6 c = some o → c ≠ G := fun e => ne_of_none e hG
  have b7 : But G H6 (upd H6 G (.dK [])) := But.new hG
  have eG0 : (upd H6 G (.dK [])) G = some (.dK []) := upd_same
  revert b7 eG0
  generalize upd H6 G (.dK []) = H7
  intro b7 eG0
  have s06 := sK.trans s6
  have s07 := sK.trans (But.same hG4 s6 b7)
  refine ⟨_, rfl, gl, _, rfl, SqL.of (s07 _ _ hga), for_it (walk_enum (K := K) (a := gl) (xs := gs)) (fun i σ H' => ∃ (w6 w9 w10 w11 w12 w13 w14 : Option V) (cs : List (List Int)) (kvs : List (Key × V)), σ = [some (.ref b), some (.ref pl), some (.ref gl), some (.int m), some (.ref Kn), some (.ref ua), w6, some (.ref G), some (.int (cs.flatten.length : Nat)), w9, w10, w11, w12, w13, w14] ∧ But G H6 H' ∧ H' G = some (.dK kvs) ∧ GI cs kvs ∧ gq.take i = cs.map (fun c => .grp (c.map V.int)) ∧ cs.length = i ∧ ∀ c ∈ cs, ∀ n ∈ c, n ∈ rs.map Rw.num) ⟨_, _, _, _, _, _, _, [], [], rfl, b7, eG0, ⟨List.nodup_nil, fun j => Iff.rfl, fun _ => rfl⟩, rfl, rfl, fun c h => nomatch h⟩ (fun i σ H' _ h => ?_) ?_ ?_⟩
  · obtain ⟨_, _, _, _, _, _, _, _, _, _, bb, _⟩ := h
    exact SqL.of ((sK.trans (But.same hG4 s6 bb)) _ _ hga)
  · rintro i x σ H1 H2 hi ⟨w6, w9, w10, w11, w12, w13, w14, cs, kvs, rfl, b1, eG, gi, etk, hcl, hin⟩ ⟨T2, ux, v, rfl, nT, rfl, c1, c2⟩
    have c1 : some (V.int (i : Nat)) = some ux := c1
    cases c1
    have c2 : gs[i]? = some v := c2
    have zT := same_upd nT (o := .tup [.int (i : Nat), v])
    have eT : (upd H1 T2 (.tup [.int (i : Nat), v])) T2 = some (.tup [.int (i : Nat), v]) := upd_same
    have b2 := b1.trans (But.of zT)
    have eG2 := zT _ _ eG
    revert eT b2 eG2
    generalize upd H1 T2 (.tup [.int (i : Nat), v]) = H2
    intro eT b2 eG2
    obtain ⟨z, hz, hzq⟩ := hGF.get c2
    have hig : i < gq.length := (List.getElem?_eq_some_iff.mp hz).1
    have s42 := But.same hG4 s6 b2
    have s02 := sK.trans s42
    have no : ∀ H', Same H4 H' → (∀ c : List Int, z = .grp (c.map V.int) → (∀ n ∈ c, n ∈ rs.map Rw.num) → False) → Q (.bl false) H' := fun H' s e => q _ _ (sK.trans s) ⟨(fun h => by cases h), fun ⟨qs', gs', cs', h1, h2, h3⟩ => by
      cases h2
      obtain ⟨c, k1, k2⟩ := grp_take h3.gr hz
      exact (e c k2 (h3.inn c (List.mem_of_getElem? k1))).elim⟩
    refine ⟨T2, _, rfl, .inl (.inl eT), rfl, _, _, rfl, _, _, rfl, rfl, ?_⟩
    cases z with
    | odd =>
      obtain ⟨ty, t1, t2⟩ := hzq
      exact ⟨_, rfl, _, _, ty, _, false, rfl, .ty _, tyx_same s02 t1, t2, _, rfl, iteT (iteT (no _ s42 fun c h => by cases h))⟩
    | grp cv =>
      obtain ⟨t, rfl, ht, hth⟩ := hzq
      have hcv := flG_cut hz
      have hcv : (flG (gq.take i)).length + cv.length ≤ (flG gq).length := hcv
      have ecf : flG (gq.take i) = cs.flatten.map V.int := by
        rw [etk]
        unfold flG
        rw [List.flatMap_map, List.map_flatten, ← List.flatMap_def]
        rfl
      rw [ecf, List.length_map] at hcv
      refine ⟨_, rfl, _, _, .type "list", _, true, rfl, .ty _, .base (.lst (s02 _ _ ht)), kit_list K, _, rfl, iteF ?_⟩
      refine ⟨_, rfl, t, rfl, ⟨_, SqL.of (s02 _ _ ht)⟩, fun D7 hD7 => lc_gen (K := K) hD7 (SqL.of (s02 _ _ ht)) (by omega) (fun j v _ => ∃ x, cv[j]? = some x ∧ v = .bl (inN (rs.map Rw.num) x)) (fun _ _ _ _ _ h => h) (fun j x H8 R C hx s8 hR => ?_) fun H8 acc8 s8 eD8 lD8 gD8 => ?_⟩
      · have s48 := s42.trans s8
        refine ⟨rfl, yesT ⟨_, rfl, _, rfl, Kn, _, rfl, .inl (s48 _ _ eK), fun p hp => ?_⟩⟩
        refine ⟨x, p, rs.map Rw.num, rfl, (hth x (List.mem_of_getElem? hx)).same ((sK.trans s48).trans (same_upd hp)), .of (by rw [upd_same, ekn]), ?_⟩
        exact hR _ _ (same_upd hp) ⟨_, hx, rfl⟩
      have ea8 := acc_bl2 lD8 gD8
      rw [ea8] at eD8
      refine ⟨D7, _, rfl, .inl (SqL.of eD8), rfl, flat_bls, ?_⟩
      show ∃ k, V.bl (inV _ _) = .bl k ∧ _
      rw [inV_false]
      refine ⟨_, rfl, ?_⟩
      have s48 := s42.trans s8
      have s08 := sK.trans s48
      cases hA : cv.all (inN (rs.map Rw.num)) with
      | false =>
        refine iteT (no _ s48 fun c h1 h2 => ?_)
        injection h1 with h1
        rw [h1, Bool.eq_false_iff] at hA
        refine hA ?_
        rw [List.all_map, List.all_eq_true]
        exact fun n hn => decide_eq_true (h2 n hn)
      | true =>
      obtain ⟨zs, rfl, hzs⟩ := all_int hA
      rw [List.length_map] at hcv
      refine iteF ?_
      refine ⟨_, rfl, _, rfl, t, _, rfl, .inl (SqL.of (s08 _ _ ht)), _, _, rfl, rfl, ?_⟩
      have eG8 := s8 _ _ eG2
      refine ⟨_, rfl, G, rfl, .inl ⟨kvs, .inl eG8⟩, ?_⟩
      refine ⟨_, rfl, t, rfl, ⟨_, SqL.of (s08 _ _ ht)⟩, fun D9 hD9 => lc_gen (K := K) hD9 (SqL.of (s08 _ _ ht)) (by rw [List.length_map]; omega) (fun j v H' => ∃ t kv, (zs.map fun n => ((.inl n : Key), V.int (cs.length : Nat)))[j]? = some kv ∧ v = .ref t ∧ H' t = some (.tup [kV kv.1, kv.2])) (fun j v H1 H2 nl ⟨t, kv, h1, h2, h3⟩ => ⟨t, kv, h1, h2, nl _ _ (fun _ z => by cases z) h3⟩) (fun j x H9 R C hx s9 hR => ?_) fun H9 acc9 s9 eD9 lD9 gD9 => ?_⟩
      · obtain ⟨n, hn, rfl⟩ : ∃ n, zs[j]? = some n ∧ x = .int n := by
          rw [List.getElem?_map] at hx
          cases e : zs[j]? with
          | none => rw [e] at hx; cases hx
          | some n =>
            rw [e] at hx
            exact ⟨n, rfl, (Option.some.inj hx).symm⟩
        refine ⟨rfl, yesT ⟨_, rfl, _, rfl, (by show 2 ≤ sizeLine; decide), fun t ht => ?_⟩⟩
        exact hR _ _ (same_upd ht) ⟨t, _, by rw [List.getElem?_map, hn]; rfl, rfl, by rw [upd_same, hcl]; rfl⟩
      obtain ⟨ps9, eps9, hps9⟩ := pair_of (K := K) (lD9.trans (by rw [List.length_map, List.length_map])) gD9
      rw [eps9] at eD9
      refine ⟨D9, ps9, _, rfl, .of eD9, hps9, fun p hp => ?_⟩
      have eG9 := (s8.trans s9) _ _ eG2
      have nep : G ≠ p := ne_of_none eG9 hp
      have zp := same_upd hp (o := .dK (mergeK [] (zs.map fun n => ((.inl n : Key), V.int (cs.length : Nat)))))
      have hkl : kvs.length ≤ cs.flatten.length := by
        have := nd_le gi.nd fun x hx => (gi.mem x).mp hx
        rwa [List.length_map, List.length_map] at this
      have hml := length_mergeK (zs.map fun n => ((.inl n : Key), V.int (cs.length : Nat))) []
      rw [List.length_map, List.length_nil, Nat.zero_add] at hml
      refine ⟨p, kvs, _, rfl, zp _ _ eG9, upd_same, nep, Nat.le_trans (show _ ≤ 10000 by omega) (by decide), ?_⟩
      have ef : (cs ++ [zs]).flatten = cs.flatten ++ zs := by
        rw [List.flatten_append]
        show _ ++ (zs ++ []) = _
        rw [List.append_nil]
      refine ⟨w6, some (.int (i : Nat)), some (.ref t), w11, w12, w13, w14, cs ++ [zs], _, ?_, ((b2.trans (But.of (s8.trans (s9.trans zp)))).trans But.at_), upd_same, gi.step zs, ?_, by rw [List.length_append, hcl]; rfl, fun c hc => ?_⟩
      · rw [ef, List.length_append, List.length_map]
        rfl
      · rw [List.take_add_one, hz, etk, List.map_append]
        rfl
      · rcases List.mem_append.mp hc with hc | hc
        · exact hin c hc
        · rw [List.mem_singleton.mp hc]
          exact hzs
  rintro σ H8 ⟨w6, w9, w10, w11, w12, w13, w14, cs, kvs, rfl, b8, eG, gi, etk, hcl, hin⟩
  rw [List.take_of_length_le (by rw [hGF.len]; exact Nat.le_refl _)] at etk
  have s48 := But.same hG4 s6 b8
  have s08 := sK.trans s48
  have eu8 := b8 _ _ (neG eu) eu
  obtain ⟨us, eus⟩ := due_ints hd6
  have hul := len_flP qs
  rw [eus] at eu8 hul
  rw [List.length_map] at hul
  have uniq : ∀ {qs' gs' cs'}, (some qs = some qs' ∧ some gq = some gs' ∧ DueP m rs qs' gs' cs') → DueP m rs qs gq cs := fun {qs' gs' cs'} ⟨h1, h2, h3⟩ => by
    cases h1
    cases h2
    have := h3.gr
    rw [etk] at this
    rw [grp_inj this]
    exact h3
  have no : ∀ H', Same H4 H' → (DueP m rs qs gq cs → False) → Q (.bl false) H' := fun H' s e => q _ _ (sK.trans s) ⟨(fun h => by cases h), fun ⟨_, _, _, h⟩ => (e (uniq h)).elim⟩
  have hcf : cs.flatten.length ≤ 400 := by
    have ecf : flG gq = cs.flatten.map V.int := by
      rw [etk]
      unfold flG
      rw [List.flatMap_map, List.map_flatten, ← List.flatMap_def]
      rfl
    rw [ecf, List.length_map] at hfl
    exact hfl
  refine ⟨_, rfl, ua, us, rfl, .of eu8, by omega, _, rfl, ua, _, rfl, .inl (.of eu8), _, _, rfl, rfl, _, rfl, ?_⟩
  have hlf := lenF_le us
  have hli := lenF_iff us
  rw [List.length_map]
  by_cases hnd : us.Nodup
  · rw [decide_eq_false (show ¬ ((lenF us : Nat) : Int) < ((us.length : Nat) : Int) by have := hli.mpr hnd; omega)]
    refine iteF ?_
    refine ⟨_, rfl, _, rfl, b, _, rfl, .inl (SqL.of (s08 _ _ hb)), rfl, _, rfl, ?_⟩
    rw [dec_int]
    by_cases hmany : cs.flatten.length = rs.length
    · rw [decide_eq_true (show ((cs.flatten.length : Nat) : Int) = ((xs.length : Nat) : Int) by omega)]
      refine iteF ?_
      refine ⟨_, rfl, G, kvs, rfl, eG, _, rfl, rfl, _, rfl, ?_⟩
      rw [dec_int]
      by_cases hgd : cs.flatten.Nodup
      · rw [decide_eq_true (show ((kvs.length : Nat) : Int) = ((cs.flatten.length : Nat) : Int) by have := gi.len.mpr hgd; omega)]
        refine iteF ?_
        have ekv := gi.eq hgd
        have hfull : ∀ r ∈ rs, r.num ∈ cs.flatten := fun r hr => nd_full hgd (M := rs.map Rw.num) (fun n hn => by
          obtain ⟨c, hc, hn⟩ := List.mem_flatten.mp hn
          exact hin c hc n hn) (by rw [List.length_map]; omega) (List.mem_map_of_mem hr)
        have hgof : ∀ r ∈ rs, valV kvs (Sum.inl r.num : Key) = some (.int (gI cs r.num)) := fun r hr => by
          rw [ekv]
          exact gof_gI hgd (hfull r hr)
        have hFB := f2_bdl hB
        have s4G : ∀ {H'}, Same H8 H' → Same H H' := fun s => s08.trans s
        refine ⟨_, rfl, b, rfl, ⟨_, SqL.of (s08 _ _ hb)⟩, for_list (K := K) (a := b) (xs := xs) (fun i σ H' => ∃ (w6 w9 w10 w11 w12 w13 w14 : Option V), σ = [some (.ref b), some (.ref pl), some (.ref gl), some (.int m), some (.ref Kn), some (.ref ua), w6, some (.ref G), some (.int (cs.flatten.length : Nat)), w9, w10, w11, w12, w13, w14] ∧ Same H8 H' ∧ ∀ r ∈ rs.take i, ∀ r' ∈ rs, DP m r r' = true → gI cs r'.num = gI cs r.num) ⟨_, _, _, _, _, _, _, rfl, Same.refl _, fun r hr => by rw [List.take_zero] at hr; cases hr⟩ (fun i σ H' _ h => ?_) ?_ ?_⟩
        · obtain ⟨_, _, _, _, _, _, _, _, s, _⟩ := h
          exact SqL.of ((s4G s) _ _ hb)
        · rintro i x σ H9 hi ⟨w6, w9, w10, w11, w12, w13, w14, rfl, s9, hnr⟩
          obtain ⟨r, hr, p, rfl, hp⟩ := hFB.get hi
          have hrm := List.mem_of_getElem? hr
          refine ⟨_, rfl, b, rfl, ⟨_, SqL.of ((s4G s9) _ _ hb)⟩, fun D hD => ?_⟩
          refine itl_loop (K := K) (a := b) (xs := xs) (fun j H' => Same H9 H' ∧ ∃ acc, H' D = some (.lst acc) ∧ F2 (BdV T.C_Bead H) acc ((rs.take j).filter (DP m r))) ⟨same_upd hD, [], upd_same, .nil⟩ (fun j H' _ h => SqL.of ((s4G (s9.trans h.1)) _ _ hb)) ?_ ?_
          · rintro j x H10 hx ⟨s10, acc, e10, fa⟩
            obtain ⟨r2, hr2, p2, rfl, hp2⟩ := hFB.get hx
            have s010 := s4G (s9.trans s10)
            have hal : acc.length ≤ 200 := by
              have h1 := fa.len
              have h2 := List.length_filter_le (DP m r) (rs.take j)
              rw [List.length_take] at h2
              omega
            refine ⟨rfl, _, rfl, _, rfl, _, rfl, p, p2, r, r2, m, rfl, hp.nl (NL.of s010), hp2.nl (NL.of s010), fun H11 s11 => ⟨_, rfl, ?_⟩⟩
            cases hdp : DP m r r2 with
            | true =>
              refine iteT ⟨_, rfl, acc, s11 _ _ e10, Nat.lt_of_le_of_lt hal (by decide), fun c o h => by rw [upd_ne (ne_of_none h hD)]; exact s11 _ _ (s10 _ _ h), acc ++ [.ref p2], upd_same, ?_⟩
              rw [filter_take hr2, hdp, if_pos rfl]
              exact F2.snoc ⟨p2, rfl, hp2⟩ fa
            | false =>
              refine iteF ⟨s10.trans s11, acc, s11 _ _ e10, ?_⟩
              rw [filter_take hr2, hdp, if_neg Bool.false_ne_true, List.append_nil]
              exact fa
          · rintro H10 ⟨s10, acc, e10, fa⟩
            rw [hxl, List.take_of_length_le (Nat.le_refl _)] at fa
            have hal : acc.length ≤ 200 := by
              have h1 := fa.len
              have h2 := List.length_filter_le (DP m r) rs
              omega
            have s810 := s9.trans s10
            refine ⟨_, rfl, D, rfl, ⟨_, SqL.of e10⟩, fun D2 hD2 => ?_⟩
            refine itl_loop (K := K) (a := D) (xs := acc) (fun j H' => Same H10 H' ∧ ∃ ac2, H' D2 = some (.lst ac2) ∧ ac2.length = (((rs.filter (DP m r)).take j).filter fun r' => !decide (gI cs r'.num = gI cs r.num)).length) ⟨same_upd hD2, [], upd_same, rfl⟩ (fun j H' _ h => SqL.of (h.1 _ _ e10)) ?_ ?_
            · rintro j x H11 hx ⟨s11, ac2, e11, la⟩
              obtain ⟨r2, hr2, p2, rfl, hp2⟩ := fa.get hx
              have hr2m : r2 ∈ rs := (List.mem_filter.mp (List.mem_of_getElem? hr2)).1
              have s811 := s810.trans s11
              have s011 := s4G s811
              obtain ⟨dp, hpp⟩ := hp.nl (NL.of s011)
              obtain ⟨dp2, hpp2⟩ := hp2.nl (NL.of s011)
              have hal2 : ac2.length ≤ 200 := by
                have h1 := List.length_filter_le (fun r' => !decide (gI cs r'.num = gI cs r.num)) ((rs.filter (DP m r)).take j)
                rw [List.length_take] at h1
                have h2 := fa.len
                omega
              refine ⟨rfl, _, rfl, _, rfl, p2, _, dp2, _, _, rfl, hpp2, T.cl_Bead, T.n_Bead_number, bf_number r2, G, _, rfl, .inl ⟨_, .inl r2.num, .inl (s811 _ _ eG), rfl, (hgof r2 hr2m).symm⟩, ?_⟩
              refine ⟨_, rfl, _, rfl, p, _, dp, _, _, rfl, hpp, T.cl_Bead, T.n_Bead_number, bf_number r, G, _, rfl, .inl ⟨_, .inl r.num, .inl (s811 _ _ eG), rfl, (hgof r hrm).symm⟩, rfl, _, rfl, ?_⟩
              rw [dec_int]
              have hft := filter_take (f := fun r' : Rw => !decide (gI cs r'.num = gI cs r.num)) hr2
              cases hg : decide (gI cs r2.num = gI cs r.num) with
              | true =>
                refine iteF ⟨s11, ac2, e11, ?_⟩
                rw [hft, hg, Bool.not_true, if_neg Bool.false_ne_true, List.append_nil, la]
              | false =>
                refine iteT ⟨_, rfl, ac2, e11, Nat.lt_of_le_of_lt hal2 (by decide), fun c o h => by rw [upd_ne (ne_of_none h hD2)]; exact s11 _ _ h, _, upd_same, ?_⟩
                rw [hft, hg, Bool.not_false, if_pos rfl, List.length_append, List.length_append, la]
                rfl
            · rintro H11 ⟨s11, ac2, e11, la⟩
              rw [fa.len, List.take_of_length_le (Nat.le_refl _)] at la
              refine ⟨Nat.zero_le _, fun l0 hl0 => ?_⟩
              have e11' := (same_upd hl0 (o := .lst [])) _ _ e11
              refine ⟨_, ⟨D2, l0, ac2, [], fun _ => true, rfl, rfl, e11', upd_same, fun hl i x y h1 h2 => by simp at h2, rfl⟩, fun H12 s12 => ⟨_, rfl, ?_⟩⟩
              have s812 := s810.trans (s11.trans ((same_upd hl0).trans s12))
              cases hac : ac2 with
              | nil =>
                refine iteF ⟨_, _, _, _, _, _, _, rfl, s812, fun r1 hr1 r' hr' hd => ?_⟩
                rw [List.take_add_one, hr] at hr1
                rcases List.mem_append.mp hr1 with h1 | h1
                · exact hnr r1 h1 r' hr' hd
                · have e1 : r1 = r := List.mem_singleton.mp h1
                  rw [e1] at hd ⊢
                  rw [hac] at la
                  have h0 := List.eq_nil_of_length_eq_zero la.symm
                  have h2 := List.filter_eq_nil_iff.mp h0 r' (List.mem_filter.mpr ⟨hr', hd⟩)
                  simpa using h2
              | cons v0 ac3 =>
                refine iteT (no _ (s48.trans s812) fun h => ?_)
                rw [hac] at la
                obtain ⟨r', hr'⟩ := List.exists_mem_of_length_pos (show 0 < ((rs.filter (DP m r)).filter fun r' => !decide (gI cs r'.num = gI cs r.num)).length by rw [← la]; exact Nat.zero_lt_succ _)
                obtain ⟨h1, h2⟩ := List.mem_filter.mp hr'
                obtain ⟨h3, h4⟩ := List.mem_filter.mp h1
                have h5 := h.near r hrm r' h3 h4
                rw [gof_gI hgd (hfull r hrm), gof_gI hgd (hfull r' h3)] at h5
                injection h5 with h5
                injection h5 with h5
                rw [h5, decide_eq_true rfl] at h2
                cases h2
        · rintro σ H9 ⟨w6, w9, w10, w11, w12, w13, w14, rfl, s9, hnr⟩
          have s09 := s4G s9
          have s49 := s48.trans s9
          rw [hxl, List.take_of_length_le (Nat.le_refl _)] at hnr
          refine ⟨_, rfl, b, _, rfl, .inl (SqL.of (s09 _ _ hb)), _, rfl, ua, _, rfl, .inl (SqL.of (s9 _ _ eu8)), _, _, rfl, rfl, _, rfl, gl, rfl, ⟨_, SqL.of (s09 _ _ hga)⟩, fun D hD => ?_⟩
          have hGL : F2 (LI H) gs cs := by
            have := li_of (ns := rs.map Rw.num) hGF (by rw [etk, List.all_map, List.all_eq_true]; exact fun _ _ => rfl) (by
              rw [etk]
              unfold flG
              rw [List.flatMap_map, List.all_flatMap, List.all_eq_true]
              intro c hc
              show (c.map V.int).all _ = true
              rw [List.all_map, List.all_eq_true]
              exact fun n hn => decide_eq_true (hin c hc n hn))
            obtain ⟨ds, f, e, _⟩ := this
            rw [etk] at e
            rw [grp_inj e]
            exact f
          refine itl_loop (K := K) (a := gl) (xs := gs) (fun i H' => Same H9 H' ∧ ∃ acc, H' D = some (.lst acc) ∧ acc.length = ((cs.take i).filter fun c => decide (c.length % 2 = 1)).length) ⟨same_upd hD, [], upd_same, rfl⟩ (fun i H' _ h => SqL.of (h.1 _ _ (s09 _ _ hga))) ?_ ?_
          · rintro i x H10 hx ⟨s10, acc, e10, la⟩
            obtain ⟨c, hc, g, rfl, hg⟩ := hGL.get hx
            have hlc : acc.length ≤ cs.length := by
              rw [la]
              exact Nat.le_trans (List.length_filter_le _ _) (by rw [List.length_take]; omega)
            have hcsl : cs.length ≤ 200 := by
              rw [← hGL.len, hGF.len]
              exact hgl
            refine ⟨rfl, _, rfl, g, _, rfl, .inl (SqL.of ((s09.trans s10) _ _ hg)), _, _, rfl, rfl, (by show (0 : Int) < 2; decide), rfl, _, rfl, ?_⟩
            rw [dec_int, List.length_map, show (decide (((c.length : Nat) : Int) % 2 = 1)) = decide (c.length % 2 = 1) from decide_eq_decide.mpr (by omega)]
            have tk := filter_take (f := fun c : List Int => decide (c.length % 2 = 1)) hc
            cases ho : decide (c.length % 2 = 1) with
            | true =>
              refine iteT ⟨_, rfl, acc, e10, Nat.lt_of_le_of_lt (show acc.length ≤ 1000 by omega) (by decide), fun b o h => by rw [upd_ne (ne_of_none h hD)]; exact s10 _ _ h, _, upd_same, ?_⟩
              rw [tk, ho, if_pos rfl, List.length_append, List.length_append, la]
              rfl
            | false =>
              refine iteF ⟨s10, acc, e10, ?_⟩
              rw [tk, ho, if_neg Bool.false_ne_true, List.append_nil, la]
          · rintro H10 ⟨s10, acc, e10, la⟩
            rw [hGL.len, List.take_of_length_le (Nat.le_refl _)] at la
            have la : acc.length = oddN cs := la
            refine ⟨D, _, rfl, .inl (SqL.of e10), rfl, ?_⟩
            rw [dec_int]
            refine q _ _ (s09.trans s10) ?_
            rw [decide_eq_true_iff, List.length_map]
            have huf : (flP qs).length = us.length := by rw [eus, List.length_map]
            constructor
            · intro h
              refine ⟨qs, gq, cs, rfl, rfl, ⟨hd6, etk, hin, by rw [eus]; exact nodup_int.mpr hnd, hmany, hgd, fun r hr r' hr' hd => ?_, by rw [huf]; omega⟩⟩
              rw [gof_gI hgd (hfull r hr), gof_gI hgd (hfull r' hr'), hnr r hr r' hr' hd]
            · rintro ⟨_, _, _, h⟩
              have h3 := (uniq h).odd
              rw [huf] at h3
              omega
      · rw [decide_eq_false (show ¬ ((kvs.length : Nat) : Int) = ((cs.flatten.length : Nat) : Int) from fun h => hgd (gi.len.mp (by omega)))]
        exact iteT (no _ s48 fun h => hgd h.ndg)
    · rw [decide_eq_false (show ¬ ((cs.flatten.length : Nat) : Int) = ((xs.length : Nat) : Int) by omega)]
      exact iteT (iteT (no _ s48 fun h => hmany h.many))
  · rw [decide_eq_true (show ((lenF us : Nat) : Int) < ((us.length : Nat) : Int) by have : lenF us ≠ us.length := fun e => hnd (hli.mp e); omega)]
    refine iteT (iteT (no _ s48 fun h => hnd ?_))
    have := h.nd
    rw [eus] at this
    exact nodup_int.mp this
end
end KB
namespace KB
open PySem PySem.Spec PyProof.Rows L2 KA

section
variable {P : Program} {w : World} {K : PySem.W.Frag} {mg : Str → Option Value} {base : Heap}
theorem grp_cs {ns : List Int} : ∀ {qs : List Gq}, qs.all grpB = true → (flG qs).all (inN ns) = true → ∃ cs : List (List Int), qs = cs.map (fun c => .grp (c.map V.int)) ∧ flG qs = cs.flatten.map V.int ∧ ∀ c ∈ cs, ∀ n ∈ c, n ∈ ns
  | [], _, _ => ⟨[], rfl, rfl, fun c h => nomatch h⟩
  | q :: qs, hA, hI => by
    rw [List.all_cons, Bool.and_eq_true] at hA
    cases q with
    | odd => exact absurd hA.1 Bool.false_ne_true
    | grp xs =>
      have hI : (xs ++ flG _).all (inN ns) = true := hI
      rw [List.all_append, Bool.and_eq_true] at hI
      obtain ⟨cs, e1, e2, e3⟩ := grp_cs hA.2 hI.2
      obtain ⟨zs, rfl, hz⟩ := all_int hI.1
      refine ⟨zs :: cs, by rw [e1]; rfl, ?_, fun c hc => ?_⟩
      · show zs.map V.int ++ flG _ = (zs ++ cs.flatten).map V.int
        rw [e2, List.map_append]
      · rcases List.mem_cons.mp hc with rfl | hc
        · exact hz
        · exact e3 c hc
theorem flG_cs (cs : List (List Int)) : flG (cs.map fun c => .grp (c.map V.int)) = cs.flatten.map V.int := by
  unfold flG
  rw [List.flatMap_map, List.map_flatten, ← List.flatMap_def]
  rfl
theorem rowN_self {rs : List Rw} (hu : (rs.map Rw.num).Nodup) {r : Rw} (hr : r ∈ rs) : rowN rs r.num = some r := by
  obtain ⟨r', e, hr', en⟩ := rowN_mem (List.mem_map_of_mem (f := Rw.num) hr)
  rw [e, num_inj hu hr' hr en]
theorem two_len : ∀ {qs : List Pq}, qs.all twoB = true → (flP qs).length = 2 * qs.length
  | [], _ => rfl
  | q :: qs, h => by
    rw [List.all_cons, Bool.and_eq_true] at h
    cases q with
    | odd => exact absurd h.1 Bool.false_ne_true
    | two a b =>
      show (flP qs).length + 1 + 1 = 2 * (qs.length + 1)
      rw [two_len h.2]
      omega
theorem nd_two {qs : List Pq} {a b : V} (h : (flP qs).Nodup) (hq : .two a b ∈ qs) : a ≠ b := by
  obtain ⟨l1, l2, rfl⟩ := List.append_of_mem hq
  unfold flP at h
  rw [List.flatMap_append, List.nodup_append] at h
  have h2 := h.2.1
  have h2 : (a :: b :: flP l2).Nodup := h2
  rw [List.nodup_cons] at h2
  exact fun e => h2.1 (by rw [e]; exact List.mem_cons_self ..)
theorem cs_at {cs : List (List Int)} {n : Int} (h : n ∈ cs.flatten) : ∃ (i : Nat) (c : List Int), cs[i]? = some c ∧ n ∈ c := by
  obtain ⟨c, hc, hn⟩ := List.mem_flatten.mp h
  obtain ⟨i, hi⟩ := List.getElem?_of_mem hc
  exact ⟨i, c, hi, hn⟩
theorem in_take {cs : List (List Int)} {i k : Nat} {c : List Int} {n : Int} (hk : cs[k]? = some c) (hn : n ∈ c) (h : k < i) : n ∈ (cs.take i).flatten :=
  List.mem_flatten.mpr ⟨c, List.mem_of_getElem? (i := k) (by rw [List.getElem?_take_of_lt h]; exact hk), hn⟩
theorem of_take {cs : List (List Int)} {i : Nat} {n : Int} (h : n ∈ (cs.take i).flatten) : ∃ (k : Nat) (c : List Int), k < i ∧ cs[k]? = some c ∧ n ∈ c := by
  obtain ⟨c, hc, hn⟩ := List.mem_flatten.mp h
  obtain ⟨k, hk⟩ := List.getElem?_of_mem hc
  have hlt : k < i := by
    have := (List.getElem?_eq_some_iff.mp hk).1
    rw [List.length_take] at this
    omega
  rw [List.getElem?_take_of_lt hlt] at hk
  exact ⟨k, c, hlt, hk, hn⟩
theorem gof_at {cs : List (List Int)} {j : Nat} {c : List Int} {n : Int} (h : cs.flatten.Nodup) (hj : cs[j]? = some c) (hn : n ∈ c) : gofV cs n = some (.int (j : Nat)) := by
  have e : gofV cs n = some (.int ((0 + j : Nat))) := gPairs_val h hj hn
  rw [e, Nat.zero_add]
/-- what the program and the law ask is the same -/
theorem shows_due {m : Int} {rs : List Rw} {op : Option (List Pq)} {og : Option (List Gq)} (hu : (rs.map Rw.num).Nodup) : ShowsP m rs op og ↔ ∃ qs gs cs, op = some qs ∧ og = some gs ∧ DueP m rs qs gs cs := by
  constructor
  · rintro ⟨h1, h2, h3⟩
    cases op with
    | none => cases h1
    | some qs =>
    cases og with
    | none => cases h2
    | some gs =>
    have h1 : pairsB m rs qs = true := h1
    have h2 : groupsB rs gs = true := h2
    unfold pairsB onceB at h1
    unfold groupsB onceB at h2
    simp only [Bool.and_eq_true, decide_eq_true_iff] at h1 h2
    obtain ⟨a1, ⟨a2, a3⟩, a4⟩ := h1
    obtain ⟨b1, ⟨b2, b3⟩, b4⟩ := h2
    obtain ⟨cs, ecs, efl, hin⟩ := grp_cs b1 b2
    obtain ⟨hno, hodd⟩ := h3 qs gs cs rfl rfl ecs
    rw [efl] at b3 b4
    rw [List.length_map] at b4
    have ndg : cs.flatten.Nodup := nodup_int.mp b3
    refine ⟨qs, gs, cs, rfl, rfl, ⟨fun q hq => ?_, ecs, hin, a3, b4, ndg, fun r hr r' hr' hd => ?_, by rw [two_len a1]; exact hodd⟩⟩
    · have k1 := List.all_eq_true.mp a1 q hq
      have k4 := List.all_eq_true.mp a4 q hq
      cases q with
      | odd => cases k1
      | two a b =>
        have isn : ∀ v ∈ [a, b], ∃ n, v = .int n ∧ n ∈ rs.map Rw.num := fun v hv => by
          have := List.all_eq_true.mp a2 v (List.mem_flatMap.mpr ⟨_, hq, hv⟩)
          cases v with
          | int n => exact ⟨n, rfl, of_decide_eq_true this⟩
          | _ => cases this
        obtain ⟨n, rfl, hn⟩ := isn a (by simp)
        obtain ⟨n', rfl, hn'⟩ := isn b (by simp)
        obtain ⟨r, er, hr, rfl⟩ := rowN_mem hn
        obtain ⟨r', er', hr', rfl⟩ := rowN_mem hn'
        rw [dueQ_of er er']
        have k4 : pbN m rs (.int r.num) (.int r'.num) = true := k4
        rw [pbN_of er er'] at k4
        unfold DP
        rw [k4, decide_eq_false (fun e => nd_two a3 hq (by rw [e]))]
        rfl
    · have hfull : ∀ r ∈ rs, r.num ∈ cs.flatten := fun r hr => nd_full ndg (M := rs.map Rw.num) (fun n hn => by
        obtain ⟨c, hc, hn⟩ := List.mem_flatten.mp hn
        exact hin c hc n hn) (by rw [List.length_map]; omega) (List.mem_map_of_mem hr)
      obtain ⟨i, c, hi, hc⟩ := cs_at (hfull r hr)
      obtain ⟨j, c', hj, hc'⟩ := cs_at (hfull r' hr')
      rw [gof_at ndg hi hc, gof_at ndg hj hc']
      have hd : PB m r r' = true := by
        unfold DP at hd
        rw [Bool.and_eq_true] at hd
        exact hd.1
      rcases Nat.lt_trichotomy i j with h | h | h
      · refine absurd ⟨j, c', (List.getElem?_eq_some_iff.mp hj).1, hj, r'.num, hc', r.num, in_take hi hc h, ?_⟩ hno
        unfold pbI
        rw [pbN_of (rowN_self hu hr') (rowN_self hu hr), pb_sym]
        exact hd
      · rw [h]
      · refine absurd ⟨i, c, (List.getElem?_eq_some_iff.mp hi).1, hi, r.num, hc, r'.num, in_take hj hc' h, ?_⟩ hno
        unfold pbI
        rw [pbN_of (rowN_self hu hr) (rowN_self hu hr')]
        exact hd
  · rintro ⟨qs, gs, cs, rfl, rfl, D⟩
    have htwo : qs.all twoB = true := List.all_eq_true.mpr fun q hq => by
      have := D.pr q hq
      cases q with
      | two a b => rfl
      | odd => cases this
    refine ⟨?_, ?_, fun qs' gs' cs' e1 e2 e3 => ?_⟩
    · show pairsB m rs qs = true
      unfold pairsB onceB
      rw [htwo, decide_eq_true D.nd, Bool.true_and, Bool.and_true, Bool.and_eq_true]
      refine ⟨List.all_eq_true.mpr fun v hv => ?_, List.all_eq_true.mpr fun q hq => ?_⟩
      · obtain ⟨q, hq, hv⟩ := List.mem_flatMap.mp hv
        have := D.pr q hq
        cases q with
        | odd => cases hv
        | two a b => exact List.all_eq_true.mp (dueQ_in this) v hv
      · have h := D.pr q hq
        cases q with
        | odd => cases h
        | two a b =>
          obtain ⟨zs, hz, hzs⟩ := all_int (dueQ_in h)
          match zs, hz, hzs with
          | [x, y], hz, hzs =>
            injection hz with e1 hz
            injection hz with e2 hz
            subst e1 e2
            obtain ⟨r, er, hr, rfl⟩ := rowN_mem (hzs x (by simp))
            obtain ⟨r', er', hr', rfl⟩ := rowN_mem (hzs y (by simp))
            rw [dueQ_of er er'] at h
            show pbN m rs (.int r.num) (.int r'.num) = true
            rw [pbN_of er er']
            unfold DP at h
            rw [Bool.and_eq_true] at h
            exact h.1
    · show groupsB rs gs = true
      unfold groupsB onceB
      rw [D.gr, flG_cs, List.length_map, decide_eq_true D.many, decide_eq_true (nodup_int.mpr D.ndg), Bool.and_true, Bool.and_true, Bool.and_eq_true]
      refine ⟨?_, ?_⟩
      · rw [List.all_map, List.all_eq_true]
        exact fun _ _ => rfl
      · rw [List.all_map, List.all_eq_true]
        intro n hn
        obtain ⟨c, hc, hn⟩ := List.mem_flatten.mp hn
        exact decide_eq_true (D.inn c hc n hn)
    · cases e1
      cases e2
      have ec : cs' = cs := by
        rw [D.gr] at e3
        exact (grp_inj e3).symm
      subst ec
      have hodd := D.odd
      rw [two_len htwo] at hodd
      refine ⟨?_, hodd⟩
      rintro ⟨i, c, _, hc, n, hn, n2, hn2, hp⟩
      obtain ⟨k, c2, hk, hc2, hn2⟩ := of_take hn2
      obtain ⟨r, er, hr, rfl⟩ := rowN_mem (D.inn c (List.mem_of_getElem? hc) n hn)
      obtain ⟨r', er', hr', rfl⟩ := rowN_mem (D.inn c2 (List.mem_of_getElem? hc2) n2 hn2)
      unfold pbI at hp
      rw [pbN_of er er'] at hp
      have g1 := gof_at D.ndg hc hn
      have g2 := gof_at D.ndg hc2 hn2
      have hd : DP m r r' = true := by
        unfold DP
        rw [hp, decide_eq_false]
        · rfl
        · intro e
          rw [e, g2] at g1
          injection g1 with g1
          injection g1 with g1
          omega
      have := D.near r hr r' hr' hd
      rw [g1, g2] at this
      injection this with this
      injection this with this
      omega
end
end KB
namespace KB
open PySem PySem.Spec PyProof.Rows L2 KA

section
variable {P : Program} {w : World} {K : PySem.W.Frag} {mg : Str → Option Value} {base : Heap}
theorem F2.app {α β : Type} {R : α → β → Prop} : ∀ {xs ys : List α} {as bs : List β}, F2 R xs as → F2 R ys bs → F2 R (xs ++ ys) (as ++ bs)
  | _, _, _, _, .nil, h => h
  | _, _, _, _, .cons h t, k => .cons h (F2.app t k)
theorem F2.take {α β : Type} {R : α → β → Prop} : ∀ {xs : List α} {as : List β}, F2 R xs as → ∀ n, F2 R (xs.take n) (as.take n)
  | _, _, .nil, n => by rw [List.take_nil, List.take_nil]; exact .nil
  | _, _, .cons h t, 0 => .nil
  | _, _, .cons h t, n + 1 => .cons h (F2.take t n)
theorem F2.drop {α β : Type} {R : α → β → Prop} : ∀ {xs : List α} {as : List β}, F2 R xs as → ∀ n, F2 R (xs.drop n) (as.drop n)
  | _, _, .nil, n => by rw [List.drop_nil, List.drop_nil]; exact .nil
  | _, _, .cons h t, 0 => .cons h t
  | _, _, .cons h t, n + 1 => F2.drop t n
theorem F2.rev {α β : Type} {R : α → β → Prop} : ∀ {xs : List α} {as : List β}, F2 R xs as → F2 R xs.reverse as.reverse
  | _, _, .nil => .nil
  | _, _, .cons h t => by
    rw [List.reverse_cons, List.reverse_cons]
    exact F2.app t.rev (.cons h .nil)
/-! data that is shown -/
structure OkD (d : PyData) (k W : Nat) : Prop where
  sh : d.showable = true
  nd : d.hasDict = false
  lv : d.leavesShort 50 = true
  de : d.depth ≤ k
  we : d.weight ≤ W
structure OkA (ds : List PyData) (k W : Nat) : Prop where
  sh : PyData.showableAll ds = true
  nd : PyData.hasDictAll ds = false
  lv : PyData.leavesShortAll 50 ds = true
  de : PyData.depthAll ds ≤ k
  we : PyData.weightAll ds ≤ W
theorem OkD.mono {d : PyData} {k W k' W' : Nat} (h : OkD d k W) (a : k ≤ k') (b : W ≤ W') : OkD d k' W' := ⟨h.sh, h.nd, h.lv, Nat.le_trans h.de a, Nat.le_trans h.we b⟩
theorem OkA.mono {d : List PyData} {k W k' W' : Nat} (h : OkA d k W) (a : k ≤ k') (b : W ≤ W') : OkA d k' W' := ⟨h.sh, h.nd, h.lv, Nat.le_trans h.de a, Nat.le_trans h.we b⟩
theorem OkA.nil {k W : Nat} : OkA [] k W := ⟨rfl, by simp only [PyData.hasDictAll], rfl, by simp only [PyData.depthAll]; omega, by simp only [PyData.weightAll]; omega⟩
theorem OkA.cons {d : PyData} {ds : List PyData} {k W V : Nat} (h : OkD d k W) (t : OkA ds k V) : OkA (d :: ds) k (W + 1 + V) := by
  refine ⟨?_, ?_, ?_, ?_, ?_⟩
  · simp only [PyData.showableAll, h.sh, t.sh, Bool.and_self]
  · simp only [PyData.hasDictAll, h.nd, t.nd, Bool.or_self]
  · simp only [PyData.leavesShortAll, h.lv, t.lv, Bool.and_self]
  · simp only [PyData.depthAll]
    exact Nat.max_le.mpr ⟨h.de, t.de⟩
  · simp only [PyData.weightAll]
    have := h.we
    have := t.we
    omega
theorem OkA.app {ds es : List PyData} {k W V : Nat} (h : OkA ds k W) (t : OkA es k V) : OkA (ds ++ es) k (W + V) := by
  induction ds generalizing W with
  | nil => exact t.mono (Nat.le_refl _) (by omega)
  | cons d ds ih =>
    obtain ⟨a1, a2, a3, a4, a5⟩ := h
    simp only [PyData.showableAll, PyData.hasDictAll, PyData.leavesShortAll, PyData.depthAll, PyData.weightAll, Bool.and_eq_true, Bool.or_eq_false_iff] at a1 a2 a3 a4 a5
    have hd : OkD d k d.weight := ⟨a1.1, a2.1, a3.1, Nat.le_trans (Nat.le_max_left _ _) a4, Nat.le_refl _⟩
    have ht : OkA ds k (PyData.weightAll ds) := ⟨a1.2, a2.2, a3.2, Nat.le_trans (Nat.le_max_right _ _) a4, Nat.le_refl _⟩
    exact (OkA.cons hd (ih ht)).mono (Nat.le_refl _) (by omega)
theorem OkA.split {ds : List PyData} {k W : Nat} (h : OkA ds k W) : ∀ {as bs : List PyData}, ds = as ++ bs → OkA as k W ∧ OkA bs k W := by
  intro as bs e
  subst e
  induction as generalizing W with
  | nil => exact ⟨OkA.nil, h⟩
  | cons d as ih =>
    obtain ⟨a1, a2, a3, a4, a5⟩ := h
    simp only [List.cons_append, PyData.showableAll, PyData.hasDictAll, PyData.leavesShortAll, PyData.depthAll, PyData.weightAll, Bool.and_eq_true, Bool.or_eq_false_iff] at a1 a2 a3 a4 a5
    have hd : OkD d k d.weight := ⟨a1.1, a2.1, a3.1, Nat.le_trans (Nat.le_max_left _ _) a4, Nat.le_refl _⟩
    have ht : OkA (as ++ bs) k (W - d.weight - 1) := ⟨a1.2, a2.2, a3.2, Nat.le_trans (Nat.le_max_right _ _) a4, by omega⟩
    obtain ⟨i1, i2⟩ := ih ht
    exact ⟨(OkA.cons hd i1).mono (Nat.le_refl _) (by omega), i2.mono (Nat.le_refl _) (by omega)⟩
theorem OkA.take {ds : List PyData} {k W : Nat} (h : OkA ds k W) (n : Nat) : OkA (ds.take n) k W := (h.split (List.take_append_drop n ds).symm).1
theorem OkA.drop {ds : List PyData} {k W : Nat} (h : OkA ds k W) (n : Nat) : OkA (ds.drop n) k W := (h.split (List.take_append_drop n ds).symm).2
theorem OkA.rev {ds : List PyData} {k W : Nat} (h : OkA ds k W) : OkA ds.reverse k W := by
  induction ds generalizing W with
  | nil => exact h
  | cons d ds ih =>
    obtain ⟨a1, a2, a3, a4, a5⟩ := h
    simp only [PyData.showableAll, PyData.hasDictAll, PyData.leavesShortAll, PyData.depthAll, PyData.weightAll, Bool.and_eq_true, Bool.or_eq_false_iff] at a1 a2 a3 a4 a5
    have hd : OkD d k d.weight := ⟨a1.1, a2.1, a3.1, Nat.le_trans (Nat.le_max_left _ _) a4, Nat.le_refl _⟩
    have ht : OkA ds k (W - d.weight - 1) := ⟨a1.2, a2.2, a3.2, Nat.le_trans (Nat.le_max_right _ _) a4, by omega⟩
    rw [List.reverse_cons]
    exact ((ih ht).app (OkA.cons hd OkA.nil (V := 0))).mono (Nat.le_refl _) (by omega)
theorem OkA.lst {ds : List PyData} {k W : Nat} (h : OkA ds k W) : OkD (.list ds) (k + 1) W := by
  obtain ⟨a1, a2, a3, a4, a5⟩ := h
  exact ⟨by simpa only [PyData.showable] using a1, by simpa only [PyData.hasDict] using a2, by simpa only [PyData.leavesShort] using a3, by simp only [PyData.depth]; omega, by simpa only [PyData.weight] using a5⟩
theorem OkA.tup {ds : List PyData} {k W : Nat} (h : OkA ds k W) : OkD (.tuple ds) (k + 1) W := by
  obtain ⟨a1, a2, a3, a4, a5⟩ := h
  exact ⟨by simpa only [PyData.showable] using a1, by simpa only [PyData.hasDict] using a2, by simpa only [PyData.leavesShort] using a3, by simp only [PyData.depth]; omega, by simpa only [PyData.weight] using a5⟩
theorem okd_int {i : Int} (h : i.natAbs < 10 ^ 42) : OkD (.int i) 0 140 := by
  have e := int_text_length_le10 (k := 42) (by decide) h
  have l2 : i.natAbs.log2 < 140 := by
    by_cases h0 : i.natAbs = 0
    · rw [h0]
      decide
    · exact (Nat.log2_lt h0).mpr (Nat.lt_trans h (by decide))
  refine ⟨by simp only [PyData.showable]; exact decide_eq_true (by omega), by simp only [PyData.hasDict], ?_, by simp only [PyData.depth]; omega, ?_⟩
  · simp only [PyData.leavesShort]
    refine decide_eq_true ?_
    show (Str.ofString (toString i)).length ≤ 50
    rw [PySem.ofString_length]
    omega
  · simp only [PyData.weight]
    split <;> omega
theorem okd_non : OkD .none 0 140 := ⟨rfl, by simp only [PyData.hasDict], rfl, by simp only [PyData.depth]; omega, by simp only [PyData.weight]; omega⟩
theorem okd_bl {b : Bool} : OkD (.bool b) 0 140 := ⟨rfl, by simp only [PyData.hasDict], rfl, by simp only [PyData.depth]; omega, by simp only [PyData.weight]; omega⟩
theorem okd_str {s : String} (h : s.length ≤ 140) : OkD (.str (Str.ofString s)) 0 140 := by
  refine ⟨rfl, by simp only [PyData.hasDict], ?_, by simp only [PyData.depth]; omega, ?_⟩
  · simp only [PyData.leavesShort]
    rw [Str.ofString_eq_toList]
    show ((s.toList.map Char.toNat).toArray.toList).all _ = true
    rw [List.toList_toArray, List.all_map, List.all_eq_true]
    intro c _
    have := c.valid
    refine decide_eq_true (Nat.lt_of_lt_of_le (show c.toNat < 1114112 from ?_) (by decide))
    show c.val.toNat < 1114112
    rcases this with h | h
    · omega
    · exact h.2
  · simp only [PyData.weight]
    have := PySem.ofString_length s
    show (Str.ofString s).length ≤ 140
    omega
theorem okA_ints {zs : List Int} (h : ∀ z ∈ zs, 1 ≤ z ∧ z ≤ 1000000000) : OkA (zs.map PyData.int) 0 (41 * zs.length) := by
  induction zs with
  | nil => exact OkA.nil
  | cons z zs ih =>
    have hz := h z (List.mem_cons_self ..)
    have h1 : z.natAbs < 10 ^ 12 := by have : (10 : Nat) ^ 12 = 1000000000000 := by decide
                                       omega
    have hd : OkD (.int z) 0 40 := by
      have k := okd_int (i := z) (Nat.lt_trans h1 (by decide))
      refine ⟨k.sh, k.nd, k.lv, k.de, ?_⟩
      simp only [PyData.weight]
      split
      · omega
      · rename_i h0
        have h0 : z.natAbs ≠ 0 := by omega
        have : z.natAbs.log2 < 40 := (Nat.log2_lt h0).mpr (Nat.lt_trans h1 (by decide))
        omega
    exact (OkA.cons hd (ih fun x hx => h x (List.mem_cons_of_mem _ hx))).mono (Nat.le_refl _) (by rw [List.length_cons]; omega)
theorem dpA_ints {H : Hp} : ∀ {zs : List Int}, DpAll K H (zs.map V.int) (zs.map PyData.int)
  | [] => .nil
  | z :: zs => .cons (.int z) dpA_ints
theorem dpA_app {H : Hp} : ∀ {xs ys : List V} {ds es : List PyData}, DpAll K H xs ds → DpAll K H ys es → DpAll K H (xs ++ ys) (ds ++ es)
  | _, _, _, _, .nil, h => h
  | _, _, _, _, .cons h t, k => .cons h (dpA_app t k)
theorem dpA_take {H : Hp} : ∀ {xs : List V} {ds : List PyData}, DpAll K H xs ds → ∀ n, DpAll K H (xs.take n) (ds.take n)
  | _, _, .nil, n => by rw [List.take_nil, List.take_nil]; exact .nil
  | _, _, .cons h t, 0 => .nil
  | _, _, .cons h t, n + 1 => .cons h (dpA_take t n)
theorem dpA_drop {H : Hp} : ∀ {xs : List V} {ds : List PyData}, DpAll K H xs ds → ∀ n, DpAll K H (xs.drop n) (ds.drop n)
  | _, _, .nil, n => by rw [List.drop_nil, List.drop_nil]; exact .nil
  | _, _, .cons h t, 0 => .cons h t
  | _, _, .cons h t, n + 1 => dpA_drop t n
theorem dpA_rev {H : Hp} : ∀ {xs : List V} {ds : List PyData}, DpAll K H xs ds → DpAll K H xs.reverse ds.reverse
  | _, _, .nil => .nil
  | _, _, .cons h t => by
    rw [List.reverse_cons, List.reverse_cons]
    exact dpA_app (dpA_rev t) (.cons h .nil)
/-! the heap without the source of the draws -/
def Hz (d : Addr) (H : Hp) : Hp := fun a => if a = d then none else H a
theorem hz_le {d : Addr} {H : Hp} : Same (Hz d H) H := fun a o h => by
  unfold Hz at h
  split at h
  · cases h
  · exact h
theorem hz_same {d : Addr} {H H' : Hp} (b : But d H H') : Same (Hz d H) (Hz d H') := fun a o h => by
  unfold Hz at h ⊢
  split at h
  · cases h
  · rename_i n
    rw [if_neg n]
    exact b a o n h
theorem hz_get {d a : Addr} {H : Hp} {o : HO} (n : a ≠ d) (h : H a = some o) : Hz d H a = some o := by
  unfold Hz
  rw [if_neg n]
  exact h
theorem hz_ne {d a : Addr} {H : Hp} {o : HO} (h : Hz d H a = some o) : a ≠ d := fun e => by
  unfold Hz at h
  rw [if_pos e] at h
  cases h
/-- what may stand for a number -/
def OddV (K : PySem.W.Frag) (H : Hp) (v : V) : Prop := Th K H v ∧ ∃ d, Dp K H v d ∧ OkD d 1 141
theorem OddV.same {H H' : Hp} (s : Same H H') {v : V} (h : OddV K H v) : OddV K H' v := ⟨h.1.same s, h.2.imp fun d k => ⟨dp_same s d v k.1, k.2⟩⟩
theorem odd_int {H : Hp} {i : Int} (h : i.natAbs < 10 ^ 42) : OddV K H (.int i) := ⟨.int i, _, .int i, (okd_int h).mono (by decide) (by decide)⟩
def spOdd (K : PySem.W.Frag) : Sp := fun vs H Q _ => ∃ (d : Addr) (i : Int) (n : Nat), vs = [.ref d, .int i] ∧ 1 ≤ i ∧ i ≤ 1000000000 ∧ Dr PM d n H ∧ n ≤ 100000 ∧
  ∀ (H' : Hp) (v : V), OddV K (Hz d H') v → But d H H' → Dr PM d (n + 1) H' → Q v H'
theorem ok_odd (T : Tx K mg) : FnOk P w K mg base CX0 3 T.A_odd T.fd_odd ["_law_source", "_law_number"] (spOdd K) := by
  refine T.F_odd.ok sc_odd (fun vs H Q E h => ?_) (fun cdv A outer s H vs Q E hr h => ?_)
  · obtain ⟨d, i, n, rfl, h1, h2, dr, hn, q⟩ := h
    rfl
  obtain ⟨d, i, n, rfl, h1, h2, dr, hn, q⟩ := h
  refine ⟨_, (pss_one (ps_ret (pe_call (ok_one T) (hr.mono (by decide)) (by rfl) T.g_one T.F_one.kp T.b_one .nil pass0 (pa_cons (pv 0) (pa_cons (pe_lst (pa_cons (pv 1) (pa_cons (pe_op op_add (pv 1) pe_int) (pa_cons pe_int (pa_cons (pe_un un_neg (pv 1)) (pa_cons pe_bl (pa_cons pe_non (pa_cons (pe_callTy call_str_int (by rfl) T.z_str (by decide +kernel) (pa_cons (pv 1) pa_nil)) (pa_cons (pe_lst (pa_cons (pv 1) pa_nil)) (pa_cons (pe_tup (pa_cons (pv 1) pa_nil)) (pa_cons (pe_op op_pow pe_int pe_int) pa_nil))))))))))) pa_nil))))), ?_⟩
  have ha : i.natAbs ≤ 1000000000 := by omega
  have hlg : i.natAbs.log2 < 1920 := by
    have : i.natAbs ≠ 0 := by omega
    exact (Nat.log2_lt this).mpr (Nat.lt_of_le_of_lt ha (Nat.lt_of_lt_of_le (show 1000000000 < 2 ^ 30 by decide) (Nat.pow_le_pow_right (by decide) (by decide))))
  refine ⟨_, rfl, _, rfl, _, rfl, _, _, rfl, rfl, _, rfl, _, rfl, _, rfl, _, rfl, hlg, _, rfl, (by show 1 ≤ sizeLine; decide), fun l1 hl1 => ⟨_, rfl, (by show 1 ≤ sizeLine; decide), fun t1 ht1 => ⟨_, _, rfl, rfl, ⟨by decide, by decide, by decide⟩, (by show 10 ≤ sizeLine; decide), fun l2 hl2 => ?_⟩⟩⟩
  have n1 := dr.ne hl1
  have x1 := same_upd hl1 (o := .lst [.int i])
  have x2 := same_upd ht1 (o := .tup [.int i])
  have dr2 := (dr.same x1).same x2
  have n2 := (dr.same x1).ne ht1
  have n3 := dr2.ne hl2
  have x3 := same_upd hl2 (o := .lst [.int i, .int (i + 1), .int 0, .int (-i), .bl true, .non, .str (toString i), .ref l1, .ref t1, .int (10 ^ (40 : Int).toNat)])
  refine ⟨d, l2, n, _, rfl, n3, SqL.of upd_same, by simp, (by show 10 ≤ 1000; decide), dr2.same x3, by omega, fun H' v hv b dr' => ?_⟩
  have bA := (But.of (d := d) ((x1.trans x2).trans x3)).trans b
  refine q H' v ?_ bA dr'
  have e1 : Hz d H' l1 = some (.lst [.int i]) := hz_get n1 (b _ _ n1 ((x2.trans x3) _ _ upd_same))
  have e2 : Hz d H' t1 = some (.tup [.int i]) := hz_get n2 (b _ _ n2 (x3 _ _ upd_same))
  have e12 : (10 : Nat) ^ 42 = 1000000000000000000000000000000000000000000 := by decide
  have oi : OkA [PyData.int i] 0 141 := (OkA.cons (okd_int (i := i) (by omega)) OkA.nil (V := 0)).mono (by decide) (by decide)
  have di : DpAll K (Hz d H') [V.int i] [PyData.int i] := .cons (.int i) .nil
  simp only [List.mem_cons, List.not_mem_nil, or_false] at hv
  rcases hv with rfl | rfl | rfl | rfl | rfl | rfl | rfl | rfl | rfl | rfl
  · exact odd_int (by omega)
  · exact odd_int (by omega)
  · exact odd_int (by decide)
  · exact odd_int (by omega)
  · exact ⟨.bl true, _, .bl true, okd_bl.mono (by decide) (by decide)⟩
  · exact ⟨.non, _, .non, okd_non.mono (by decide) (by decide)⟩
  · have e3 : (10 : Nat) ^ 12 = 1000000000000 := by decide
    have k := int_text_length_le10 (a := i) (k := 12) (by decide) (by omega)
    exact ⟨.str _, _, .str _, (okd_str (by omega)).mono (by decide) (by decide)⟩
  · exact ⟨.lst (.base (.lst e1)), _, .lst (.of e1) di, oi.lst⟩
  · exact ⟨.tup (.base (.tup e2)), _, .tup (.of e2) di, oi.tup⟩
  · exact odd_int (by decide)
end
end KB
namespace KB
open PySem PySem.Spec PyProof.Rows L2 KA

section
variable {P : Program} {w : World} {K : PySem.W.Frag} {mg : Str → Option Value} {base : Heap}
theorem nopart {σ : L2.St} {H : Hp} {Q : Option Int → Hp → Prop} (h : Q none H) : tNoPart σ H Q := h
theorem two_ok {a b : Int} (ha : 1 ≤ a ∧ a ≤ 1000000000) (hb : 1 ≤ b ∧ b ≤ 1000000000) : OkA [PyData.int a, PyData.int b] 0 82 := okA_ints (zs := [a, b]) fun z hz => by
  simp only [List.mem_cons, List.not_mem_nil, or_false] at hz
  rcases hz with rfl | rfl
  · exact ha
  · exact hb
/-- what may stand for a pair, as it can be shown -/
def PItem (K : PySem.W.Frag) (H : Hp) (v : V) : Prop := ∃ q d, PqAt K H v q ∧ Dp K H v d ∧ OkD d 2 500
def PrL (K : PySem.W.Frag) (H : Hp) (ys : List V) (W : Nat) : Prop := ∃ qs ds, F2 (PqAt K H) ys qs ∧ DpAll K H ys ds ∧ OkA ds 2 W
theorem PItem.same {H H' : Hp} (s : Same H H') {v : V} (h : PItem K H v) : PItem K H' v := by
  obtain ⟨q, d, a, b, c⟩ := h
  exact ⟨q, d, a.same s, dp_same s d v b, c⟩
theorem PrL.same {H H' : Hp} (s : Same H H') {ys : List V} {W : Nat} (h : PrL K H ys W) : PrL K H' ys W := by
  obtain ⟨qs, ds, a, b, c⟩ := h
  exact ⟨qs, ds, a.mono fun _ _ k => k.same s, dpAll_same s ds ys b, c⟩
theorem PrL.app {H : Hp} {xs ys : List V} {W Z : Nat} (h : PrL K H xs W) (k : PrL K H ys Z) : PrL K H (xs ++ ys) (W + Z) := by
  obtain ⟨qs, ds, a, b, c⟩ := h
  obtain ⟨qs', ds', a', b', c'⟩ := k
  exact ⟨_, _, a.app a', dpA_app b b', c.app c'⟩
theorem PrL.take {H : Hp} {xs : List V} {W : Nat} (h : PrL K H xs W) (n : Nat) : PrL K H (xs.take n) W := by
  obtain ⟨qs, ds, a, b, c⟩ := h
  exact ⟨_, _, a.take n, dpA_take b n, c.take n⟩
theorem PrL.drop {H : Hp} {xs : List V} {W : Nat} (h : PrL K H xs W) (n : Nat) : PrL K H (xs.drop n) W := by
  obtain ⟨qs, ds, a, b, c⟩ := h
  exact ⟨_, _, a.drop n, dpA_drop b n, c.drop n⟩
theorem PrL.mono {H : Hp} {xs : List V} {W Z : Nat} (h : PrL K H xs W) (k : W ≤ Z) : PrL K H xs Z := by
  obtain ⟨qs, ds, a, b, c⟩ := h
  exact ⟨qs, ds, a, b, c.mono (Nat.le_refl _) k⟩
theorem PrL.ins {H : Hp} {xs : List V} {W : Nat} (h : PrL K H xs W) {v : V} (k : PrL K H [v] 501) (i j : Nat) (hW : W ≤ 8300) : PrL K H (xs.take i ++ [v] ++ xs.drop j) 20000 := (((h.take i).app k).app (h.drop j)).mono (by omega)
theorem PrL.one {H : Hp} {v : V} (h : PItem K H v) : PrL K H [v] 501 := by
  obtain ⟨q, d, a, b, c⟩ := h
  exact ⟨[q], [d], .cons a .nil, .cons b .nil, (OkA.cons c OkA.nil (V := 0)).mono (Nat.le_refl _) (Nat.le_refl _)⟩
theorem PrL.of_prv {H : Hp} : ∀ {ys : List V} {zs : List (Int × Int)}, F2 (PrV H) ys zs → (∀ z ∈ zs, (1 ≤ z.1 ∧ z.1 ≤ 1000000000) ∧ 1 ≤ z.2 ∧ z.2 ≤ 1000000000) → PrL K H ys (83 * zs.length)
  | _, _, .nil, _ => ⟨[], [], .nil, .nil, OkA.nil⟩
  | _, _, .cons (b := z) h t, hb => by
    obtain ⟨qs, ds, a, b, c⟩ := PrL.of_prv t fun z hz => hb z (List.mem_cons_of_mem _ hz)
    obtain ⟨tt, rfl, ht⟩ := h
    have hz := hb z (List.mem_cons_self ..)
    refine ⟨.two (.int z.1) (.int z.2) :: qs, .tuple [.int z.1, .int z.2] :: ds, .cons ⟨tt, rfl, ht, .int _, .int _⟩ a, .cons (.tup (.of ht) (.cons (.int _) (.cons (.int _) .nil))) b, ?_⟩
    refine (OkA.cons ((two_ok hz.1 hz.2).tup.mono (by decide) (Nat.le_refl _)) c).mono (Nat.le_refl _) ?_
    rw [List.length_cons]
    omega
theorem PItem.two {H : Hp} {t : Addr} {a b : V} (h : H t = some (.tup [a, b])) (ha : OddV K H a) (hb : OddV K H b) : PItem K H (.ref t) := by
  obtain ⟨a1, da, a2, a3⟩ := ha
  obtain ⟨b1, db, b2, b3⟩ := hb
  exact ⟨.two a b, .tuple [da, db], ⟨t, rfl, h, a1, b1⟩, .tup (.of h) (.cons a2 (.cons b2 .nil)), ((OkA.cons a3 (OkA.cons b3 OkA.nil (V := 0))).tup).mono (by decide) (by decide)⟩
theorem PItem.ints {H : Hp} {t : Addr} {zs : List Int} (h : H t = some (.tup (zs.map V.int))) (hz : ∀ z ∈ zs, 1 ≤ z ∧ z ≤ 1000000000) (hl : zs.length ≠ 2) (hl2 : zs.length ≤ 3) : PItem K H (.ref t) :=
  ⟨.odd, .tuple (zs.map PyData.int), ⟨_, .base (.tup h), .inr ⟨kit_tuple K, t, _, rfl, h, by rw [List.length_map]; exact hl⟩⟩, .tup (.of h) dpA_ints, (okA_ints hz).tup.mono (by decide) (by omega)⟩
theorem kit_lt (K : PySem.W.Frag) : PySem.W.kitOne K (.type "list") (.type "tuple") = some false := kit_ty (by decide +kernel)
theorem kit_nt (K : PySem.W.Frag) : PySem.W.kitOne K (.type "NoneType") (.type "tuple") = some false := kit_ty (by decide +kernel)
theorem PItem.lst {H : Hp} {t : Addr} {zs : List Int} (h : H t = some (.lst (zs.map V.int))) (hz : ∀ z ∈ zs, 1 ≤ z ∧ z ≤ 1000000000) (hl2 : zs.length ≤ 3) : PItem K H (.ref t) :=
  ⟨.odd, .list (zs.map PyData.int), ⟨_, .base (.lst h), .inl (kit_lt K)⟩, .lst (.of h) dpA_ints, (okA_ints hz).lst.mono (by decide) (by omega)⟩
theorem PItem.non {H : Hp} : PItem K H .non := ⟨.odd, .none, ⟨_, .base .non, .inl (kit_nt K)⟩, .non, okd_non.mono (by decide) (by decide)⟩
def Nums (zs : List (Int × Int)) : Prop := ∀ z ∈ zs, (1 ≤ z.1 ∧ z.1 ≤ 1000000000) ∧ 1 ≤ z.2 ∧ z.2 ≤ 1000000000
def spPairsT (K : PySem.W.Frag) : Sp := fun vs H Q _ => ∃ (d pl nl : Addr) (ys : List V) (zs : List (Int × Int)) (ns : List Int) (n : Nat), vs = [.ref d, .ref pl, .ref nl] ∧ Hz d H pl = some (.lst ys) ∧ F2 (PrV (Hz d H)) ys zs ∧ Nums zs ∧ zs.length ≤ 100 ∧ Hz d H nl = some (.lst (ns.map V.int)) ∧ ns ≠ [] ∧ ns.length ≤ 1000 ∧ (∀ z ∈ ns, 1 ≤ z ∧ z ≤ 1000000000) ∧ Dr PM d n H ∧ n ≤ 99000 ∧
  ∀ (H' : Hp) (l : Addr) (us : List V), Hz d H' l = some (.lst us) → PrL K (Hz d H') us 20000 → us.length ≤ 102 → But d H H' → Dr PM d (n + 10) H' → Q (.ref l) H'
theorem ok_pairs_turned (T : Tx K mg) : FnOk P w K mg base CX0 4 T.A_pairs_turned T.fd_pairs_turned ["_law_source", "_law_pairs", "_law_numbers_here"] (spPairsT K) := by
  refine T.F_pairs_turned.ok sc_pairs_turned (fun vs H Q E h => ?_) (fun cdv A outer s H vs Q E hr h => ?_)
  · obtain ⟨d, pl, nl, ys, zs, ns, n, rfl, hpl, hF, hz, hzl, hnl, hne, hn1, hnn, dr, hn, q⟩ := h
    rfl
  obtain ⟨d, pl, nl, ys, zs, ns, n, rfl, hpl, hF, hz, hzl, hnl, hne, hn1, hnn, dr, hn, q⟩ := h
  refine ⟨_, (pss_cons (ps_set (i := 3) sc_pairs_turned.nd rfl (Or.inl rfl) (pe_call (ok_draw T) (hr.mono (by decide)) (by rfl) T.g_draw T.F_draw.kp T.b_draw .nil pass0 (pa_cons (pv 0) (pa_cons (pe_op op_add (pe_callB call_len_seq (by rfl) T.z_len PySem.boot_len (pa_cons (pv 1) pa_nil)) pe_int) pa_nil))))
      (pss_cons (ps_set (i := 4) sc_pairs_turned.nd rfl (Or.inl rfl) (pe_call (ok_draw T) (hr.mono (by decide)) (by rfl) T.g_draw T.F_draw.kp T.b_draw .nil pass0 (pa_cons (pv 0) (pa_cons pe_int pa_nil))))
      (pss_cons (ps_set (i := 5) sc_pairs_turned.nd rfl (Or.inl rfl) (pe_callTy call_tuple_of (by rfl) T.z_tuple (by decide +kernel) (pa_cons (pe_lc (own := [("_law_k", 8)]) (g := gName 8) (tt := tYes) rfl sc_pairs_turned.nd (pi_range1 (by rfl) T.z_range (pa_cons pe_int pa_nil)) (blkOk_by (N := ["_law_source", "_law_pairs", "_law_numbers_here", "_law_at", "_law_way", "_law_one_here", "_law_pair", "_law_some", "_law_k"]) (sc := defScope s_pairs_turned) (by decide +kernel)) (fun _ _ _ _ _ => (pg_name (i := 8) sc_pairs_turned.nd rfl (Or.inl rfl))) (fun _ _ _ _ _ => pts_nil) (fun _ _ _ _ _ => (pe_call (ok_one T) (hr.mono (by decide)) (by rfl) T.g_one T.F_one.kp T.b_one .nil pass0 (pa_cons (pv 0) (pa_cons (pv 2) pa_nil))))) pa_nil)))
      (pss_cons (ps_if (PW.pt (pw_or (pt_cmpR op_eq (pv 4) pe_int (nomark _)) (pw_or1 (pt_cmpR op_eq (pv 3) (pe_callB call_len_seq (by rfl) T.z_len PySem.boot_len (pa_cons (pv 1) pa_nil)) (nomark _))))) (pss_one (ps_ret (pe_op op_cat (pe_op op_cat (pe_slice sl_list (pv 1) po_none (po_some (pv 3))) (pe_lst (pa_cons (pv 5) pa_nil))) (pe_slice sl_list (pv 1) (po_some (pv 3)) po_none)))) pss_nil)
      (pss_cons (ps_set (i := 6) sc_pairs_turned.nd rfl (Or.inl rfl) (pe_ix ix_list (pv 1) (pv 3) (fun _ _ => rfl)))
      (pss_cons (ps_set (i := 7) sc_pairs_turned.nd rfl (Or.inl rfl) (pe_lst (pa_cons (pe_revT (pv 6)) (pa_cons (pe_tup (pa_cons (pe_ix ix_tup (pv 6) pe_int (fun _ _ => rfl)) (pa_cons (pe_call (ok_odd T) (hr.mono (by decide)) (by rfl) T.g_odd T.F_odd.kp T.b_odd .nil pass0 (pa_cons (pv 0) (pa_cons (pe_ix ix_tup (pv 6) pe_int (fun _ _ => rfl)) pa_nil))) pa_nil))) (pa_cons (pe_tup (pa_cons (pe_call (ok_odd T) (hr.mono (by decide)) (by rfl) T.g_odd T.F_odd.kp T.b_odd .nil pass0 (pa_cons (pv 0) (pa_cons (pe_ix ix_tup (pv 6) pe_int (fun _ _ => rfl)) pa_nil))) (pa_cons (pe_ix ix_tup (pv 6) pe_int (fun _ _ => rfl)) pa_nil))) pa_nil)))))
      (pss_cons (ps_set (i := 7) sc_pairs_turned.nd rfl (Or.inl rfl) (pe_op op_cat (pv 7) (pe_lst (pa_cons (pe_op op_catA (pv 6) (pe_slice sl_tupA (pv 6) po_none (po_some pe_int))) (pa_cons (pe_slice sl_tupA (pv 6) po_none (po_some pe_int)) (pa_cons (pe_callTy call_list_of (by rfl) T.z_list (by decide +kernel) (pa_cons (pv 6) pa_nil)) (pa_cons pe_non (pa_cons (pv 5) pa_nil))))))))
      (pss_cons (ps_if (pt_cmpR op_eq (pv 4) pe_int (nomark _)) (pss_one (ps_ret (pe_op op_cat (pe_slice sl_list (pv 1) po_none (po_some (pv 3))) (pe_slice sl_list (pv 1) (po_some (pe_op op_add (pv 3) pe_int)) po_none)))) pss_nil)
      (pss_cons (ps_if (pt_cmpR op_eq (pv 4) pe_int (nomark _)) (pss_one (ps_ret (pe_op op_cat (pe_op op_cat (pe_slice sl_list (pv 1) po_none (po_some (pv 3))) (pe_lst (pa_cons (pv 6) pa_nil))) (pe_slice sl_list (pv 1) (po_some (pv 3)) po_none)))) pss_nil)
      (pss_one (ps_ret (pe_op op_cat (pe_op op_cat (pe_slice sl_list (pv 1) po_none (po_some (pv 3))) (pe_lst (pa_cons (pe_call (ok_one T) (hr.mono (by decide)) (by rfl) T.g_one T.F_one.kp T.b_one .nil pass0 (pa_cons (pv 0) (pa_cons (pv 7) pa_nil))) pa_nil))) (pe_slice sl_list (pv 1) (po_some (pe_op op_add (pv 3) pe_int)) po_none))))))))))))), ?_⟩
  have hpd := hz_ne hpl
  have hpH := hz_le _ _ hpl
  have hnd := hz_ne hnl
  have hnH := hz_le _ _ hnl
  have hyl := hF.len
  refine ⟨_, rfl, _, rfl, pl, _, rfl, .inl (SqL.of hpH), _, _, rfl, rfl, d, ((ys.length : Nat) : Int) + 1, n, rfl, by omega, log_tiny (by omega) (by omega), dr, by omega, fun H1 at_ a0 a1 b1 dr1 => ?_⟩
  refine ⟨_, rfl, d, 8, _, rfl, by decide, log_tiny (by decide) (by decide), dr1, by omega, fun H2 way w0 w1 b2 dr2 => ?_⟩
  obtain ⟨k, rfl⟩ : ∃ k : Nat, at_ = (k : Int) := ⟨at_.toNat, by omega⟩
  have hk : k ≤ ys.length := by omega
  have P0 : PrL K (Hz d H) ys 8300 := (PrL.of_prv hF hz).mono (by omega)
  have ecut : cutV ys none (some (k : Int)) = ys.take k := cut_take hk
  have ecut2 : cutV ys (some (k : Int)) none = ys.drop k := cut_from ys k
  have ecut3 : cutV ys (some ((k : Int) + 1)) none = ys.drop (k + 1) := cut_from ys (k + 1)
  have b12 := b1.trans b2
  -- one more pair of drawn numbers
  refine ⟨_, rfl, by decide, by decide, fun D hD => ?_⟩
  have nD := dr2.ne hD
  refine lc_range (lo := 0) (n := 2) (fun i H' => ∃ us : List Int, H' D = some (.lst (us.map V.int)) ∧ us.length = i ∧ (∀ u ∈ us, u ∈ ns) ∧ But d H H' ∧ Dr PM d (n + 1 + 1 + i) H') ⟨[], upd_same, rfl, (fun u h => by cases h), b12.trans (But.new hD), (dr2.upd nD).mono (by omega)⟩ ?_ ?_
  · rintro i H3 hi ⟨us, eD, lu, hu, b3, dr3⟩
    refine ⟨rfl, yesT ⟨_, rfl, _, rfl, d, nl, _, _, rfl, hnd, SqL.of (b3 _ _ hnd hnH), by simpa using hne, by rw [List.length_map]; exact hn1, dr3, by omega, fun H4 v hv b4 dr4 => ?_⟩⟩
    obtain ⟨u, hu2, rfl⟩ := List.mem_map.mp hv
    refine ⟨_, b4 _ _ nD eD, Nat.lt_of_le_of_lt (show _ ≤ 1000 by rw [List.length_map]; omega) (by decide), us ++ [u], ?_, by rw [List.length_append, lu]; rfl, fun x hx => ?_, ((b3.trans b4).mut (b12.free nD hD)), (dr4.upd nD).mono (by omega)⟩
    · rw [List.map_append]
      exact upd_same
    · rcases List.mem_append.mp hx with hx | hx
      · exact hu x hx
      · rw [List.mem_singleton.mp hx]
        exact hu2
  rintro H3 ⟨us, eD, lu, hu, b3, dr3⟩
  obtain ⟨n1, n2, rfl⟩ : ∃ a b, us = [a, b] := by
    match us, lu with
    | [a, b], _ => exact ⟨a, b, rfl⟩
  refine ⟨D, _, rfl, .inl ⟨SqL.of eD, fun to hto => ?_⟩⟩
  have nto := dr3.ne hto
  have b4 := b3.trans (But.new hto (o := .tup ([n1, n2].map V.int)))
  have eto : Hz d (upd H3 to (.tup ([n1, n2].map V.int))) to = some (.tup [.int n1, .int n2]) := hz_get nto upd_same
  have dr4 := dr3.upd nto (o := .tup ([n1, n2].map V.int))
  revert b4 eto dr4
  generalize upd H3 to (.tup ([n1, n2].map V.int)) = H4
  intro b4 eto dr4
  have one_ok : ∀ {H'}, Same (Hz d H4) (Hz d H') → PItem K (Hz d H') (.ref to) := fun s => PItem.two (s _ _ eto) (odd_int (by have := hnn n1 (hu n1 (by simp)); omega)) (odd_int (by have := hnn n2 (hu n2 (by simp)); omega))
  have hpl4 := b4 _ _ hpd hpH
  refine ⟨_, rfl, rfl, _, rfl, ?_⟩
  have ret : ∀ (H5 : Hp) (p1 p2 : Addr) (v : V) (j : Nat), But d H4 H5 → PItem K (Hz d H5) v → p1 ≠ d → H5 p1 = some (.lst (ys.take k ++ [v])) → Dr PM d (n + 8) H5 → k ≤ j → ∀ p4, H5 p4 = none → ∀ p5, upd H5 p4 (.lst (ys.drop j)) p5 = none → Q (.ref p5) (upd (upd H5 p4 (.lst (ys.drop j))) p5 (.lst (ys.take k ++ [v] ++ ys.drop j))) := fun H5 p1 p2 v j b5 hv np1 e1 dr5 hj p4 hp4 p5 hp5 => by
    have x4 := same_upd hp4 (o := .lst (ys.drop j))
    have x5 := same_upd hp5 (o := .lst (ys.take k ++ [v] ++ ys.drop j))
    have n5 := (dr5.same x4).ne hp5
    have b6 := (b4.trans b5).trans (But.of (d := d) (x4.trans x5))
    have bb := b5.trans (But.of (d := d) (x4.trans x5))
    refine q _ p5 _ (hz_get n5 upd_same) ((P0.same (hz_same b6)).ins (PrL.one (hv.same (hz_same (But.of (x4.trans x5))))) k j (Nat.le_refl _)) ?_ b6 (((dr5.same x4).same x5).mono (by omega))
    rw [List.length_append, List.length_append, List.length_take, List.length_drop, List.length_singleton]
    omega
  by_cases h0 : way = 0
  · rw [h0]
    refine iteT (iteT ?_)
    refine ⟨_, rfl, _, rfl, _, rfl, pl, _, rfl, SqL.of hpl4, fun p1 hp1 => ?_⟩
    dsimp only
    rw [ecut]
    have x1 := same_upd hp1 (o := .lst (ys.take k))
    have e1 : (upd H4 p1 (.lst (ys.take k))) p1 = some (.lst (ys.take k)) := upd_same
    have dr5 := dr4.same x1
    revert x1 e1 dr5
    generalize upd H4 p1 (.lst (ys.take k)) = H5
    intro x1 e1 dr5
    refine ⟨_, rfl, (by show 1 ≤ sizeLine; decide), fun p2 hp2 => ?_⟩
    have x2 := same_upd hp2 (o := .lst [.ref to])
    refine ⟨p1, p2, _, _, rfl, rfl, x2 _ _ e1, upd_same, Nat.le_trans (show _ ≤ 1000 by rw [List.length_take]; show _ + 1 ≤ 1000; omega) (by decide), fun p3 hp3 => ?_⟩
    have x3 := x2.trans (same_upd hp3 (o := .lst (ys.take k ++ [.ref to])))
    have e3 : (upd (upd H5 p2 (.lst [.ref to])) p3 (.lst (ys.take k ++ [.ref to]))) p3 = some (.lst (ys.take k ++ [.ref to])) := upd_same
    have dr6 := dr5.same x3
    have n3 := (dr5.same x2).ne hp3
    revert x3 e3 dr6
    generalize upd (upd H5 p2 (.lst [.ref to])) p3 (.lst (ys.take k ++ [.ref to])) = H6
    intro x3 e3 dr6
    have x36 := x1.trans x3
    refine ⟨_, rfl, _, rfl, _, rfl, nopart ⟨pl, _, rfl, SqL.of (x36 _ _ hpl4), fun p4 hp4 => ?_⟩⟩
    dsimp only
    rw [ecut2]
    have x4 := same_upd hp4 (o := .lst (ys.drop k))
    refine ⟨p3, p4, _, _, rfl, rfl, x4 _ _ e3, upd_same, Nat.le_trans (show _ ≤ 1000 by rw [List.length_append, List.length_take, List.length_drop]; show _ + 1 + _ ≤ 1000; omega) (by decide), fun p5 hp5 => ?_⟩
    exact ret H6 p3 p2 _ k (But.of x36) (one_ok (hz_same (But.of x36))) n3 e3 (dr6.mono (by omega)) (Nat.le_refl _) p4 hp4 p5 hp5
  rw [dec_int, decide_eq_false h0]
  refine iteF ⟨_, rfl, _, rfl, pl, _, rfl, .inl (SqL.of hpl4), rfl, _, rfl, ?_⟩
  rw [dec_int]
  by_cases hkl : k = ys.length
  · rw [decide_eq_true (show (k : Int) = ((ys.length : Nat) : Int) by omega)]
    refine iteT ?_
    refine ⟨_, rfl, _, rfl, _, rfl, pl, _, rfl, SqL.of hpl4, fun p1 hp1 => ?_⟩
    dsimp only
    rw [ecut]
    have x1 := same_upd hp1 (o := .lst (ys.take k))
    have e1 : (upd H4 p1 (.lst (ys.take k))) p1 = some (.lst (ys.take k)) := upd_same
    have dr5 := dr4.same x1
    revert x1 e1 dr5
    generalize upd H4 p1 (.lst (ys.take k)) = H5
    intro x1 e1 dr5
    refine ⟨_, rfl, (by show 1 ≤ sizeLine; decide), fun p2 hp2 => ?_⟩
    have x2 := same_upd hp2 (o := .lst [.ref to])
    refine ⟨p1, p2, _, _, rfl, rfl, x2 _ _ e1, upd_same, Nat.le_trans (show _ ≤ 1000 by rw [List.length_take]; show _ + 1 ≤ 1000; omega) (by decide), fun p3 hp3 => ?_⟩
    have x3 := x2.trans (same_upd hp3 (o := .lst (ys.take k ++ [.ref to])))
    have e3 : (upd (upd H5 p2 (.lst [.ref to])) p3 (.lst (ys.take k ++ [.ref to]))) p3 = some (.lst (ys.take k ++ [.ref to])) := upd_same
    have dr6 := dr5.same x3
    have n3 := (dr5.same x2).ne hp3
    revert x3 e3 dr6
    generalize upd (upd H5 p2 (.lst [.ref to])) p3 (.lst (ys.take k ++ [.ref to])) = H6
    intro x3 e3 dr6
    have x36 := x1.trans x3
    refine ⟨_, rfl, _, rfl, _, rfl, nopart ⟨pl, _, rfl, SqL.of (x36 _ _ hpl4), fun p4 hp4 => ?_⟩⟩
    dsimp only
    rw [ecut2]
    have x4 := same_upd hp4 (o := .lst (ys.drop k))
    refine ⟨p3, p4, _, _, rfl, rfl, x4 _ _ e3, upd_same, Nat.le_trans (show _ ≤ 1000 by rw [List.length_append, List.length_take, List.length_drop]; show _ + 1 + _ ≤ 1000; omega) (by decide), fun p5 hp5 => ?_⟩
    exact ret H6 p3 p2 _ k (But.of x36) (one_ok (hz_same (But.of x36))) n3 e3 (dr6.mono (by omega)) (Nat.le_refl _) p4 hp4 p5 hp5
  rw [decide_eq_false (show ¬ (k : Int) = ((ys.length : Nat) : Int) by omega)]
  refine iteF ?_
  have hkz : k < zs.length := by omega
  have hpk : ys[k]? = some ys[k] := List.getElem?_eq_getElem (by omega)
  obtain ⟨z, hzk, tp, etp, htp⟩ := hF.get hpk
  rw [etp] at hpk
  obtain ⟨hz1, hz2⟩ := hz z (List.mem_of_getElem? hzk)
  have ntp := hz_ne htp
  have htp4 := b4 _ _ ntp (hz_le _ _ htp)
  refine ⟨_, rfl, _, rfl, pl, _, _, _, rfl, rfl, SqL.of hpl4, atI_nat hpk, ?_⟩
  have hat0 : atI [V.int z.1, V.int z.2] 0 = some (V.int z.1) := rfl
  have hat1 : atI [V.int z.1, V.int z.2] 1 = some (V.int z.2) := rfl
  refine ⟨_, rfl, tp, _, rfl, .of htp4, fun r1 hr1 => ?_⟩
  have nr1 := dr4.ne hr1
  have x1 := same_upd hr1 (o := .tup ([V.int z.1, V.int z.2].reverse))
  have er1 : (upd H4 r1 (.tup ([V.int z.1, V.int z.2].reverse))) r1 = some (.tup [V.int z.2, V.int z.1]) := upd_same
  have dr5 := dr4.same x1
  have b5 := b4.trans (But.of (d := d) x1)
  have b45 : But d H4 (upd H4 r1 (.tup ([V.int z.1, V.int z.2].reverse))) := But.of x1
  revert er1 dr5 b5 b45
  generalize upd H4 r1 (.tup ([V.int z.1, V.int z.2].reverse)) = H5
  intro er1 dr5 b5 b45
  have htp5 := b5 _ _ ntp (hz_le _ _ htp)
  refine ⟨_, rfl, tp, _, _, _, rfl, rfl, .of htp5, hat0, _, rfl, _, rfl, tp, _, _, _, rfl, rfl, .of htp5, hat1, ?_⟩
  refine ⟨d, z.2, _, rfl, hz2.1, hz2.2, dr5, by omega, fun H6 o1 ho1 b6 dr6 => ⟨(by show 2 ≤ sizeLine; decide), fun r2 hr2 => ?_⟩⟩
  have nr2 := dr6.ne hr2
  have x2 := same_upd hr2 (o := .tup [V.int z.1, o1])
  have er2 : (upd H6 r2 (.tup [V.int z.1, o1])) r2 = some (.tup [V.int z.1, o1]) := upd_same
  have dr7 := dr6.same x2
  have b57 := b6.trans (But.of (d := d) x2)
  have ho1' := ho1.same (hz_same (But.of (d := d) x2))
  revert er2 dr7 b57 ho1'
  generalize upd H6 r2 (.tup [V.int z.1, o1]) = H7
  intro er2 dr7 b57 ho1'
  have b7 := b5.trans b57
  have htp7 := b7 _ _ ntp (hz_le _ _ htp)
  refine ⟨_, rfl, _, rfl, tp, _, _, _, rfl, rfl, .of htp7, hat0, ?_⟩
  refine ⟨d, z.1, _, rfl, hz1.1, hz1.2, dr7, by omega, fun H8 o2 ho2 b8 dr8 => ?_⟩
  have htp8 := (b7.trans b8) _ _ ntp (hz_le _ _ htp)
  refine ⟨_, rfl, tp, _, _, _, rfl, rfl, .of htp8, hat1, (by show 2 ≤ sizeLine; decide), fun r3 hr3 => ?_⟩
  have nr3 := dr8.ne hr3
  have x3 := same_upd hr3 (o := .tup [o2, V.int z.2])
  have er3 : (upd H8 r3 (.tup [o2, V.int z.2])) r3 = some (.tup [o2, V.int z.2]) := upd_same
  have dr9 := dr8.same x3
  have b79 := b8.trans (But.of (d := d) x3)
  have ho2' := ho2.same (hz_same (But.of (d := d) x3))
  revert er3 dr9 b79 ho2'
  generalize upd H8 r3 (.tup [o2, V.int z.2]) = H9
  intro er3 dr9 b79 ho2'
  have b9 := b7.trans b79
  refine ⟨(by show 3 ≤ sizeLine; decide), fun la hla => ?_⟩
  have nla := dr9.ne hla
  have x4 := same_upd hla (o := .lst [.ref r1, .ref r2, .ref r3])
  have ela : (upd H9 la (.lst [.ref r1, .ref r2, .ref r3])) la = some (.lst [.ref r1, .ref r2, .ref r3]) := upd_same
  have drA := dr9.same x4
  have b9A := But.of (d := d) x4
  revert ela drA b9A
  generalize upd H9 la (.lst [.ref r1, .ref r2, .ref r3]) = HA
  intro ela drA b9A
  have bA := b9.trans b9A
  have htpA := bA _ _ ntp (hz_le _ _ htp)
  have I1 : PItem K (Hz d HA) (.ref r1) := PItem.two (hz_get nr1 (((b57.trans b79).trans b9A) _ _ nr1 er1)) (odd_int (by omega)) (odd_int (by omega))
  have I2 : PItem K (Hz d HA) (.ref r2) := PItem.two (hz_get nr2 ((b79.trans b9A) _ _ nr2 er2)) (odd_int (by omega)) (ho1'.same (hz_same (b79.trans b9A)))
  have I3 : PItem K (Hz d HA) (.ref r3) := PItem.two (hz_get nr3 (b9A _ _ nr3 er3)) (ho2'.same (hz_same b9A)) (odd_int (by omega))
  refine ⟨_, rfl, _, rfl, ?_⟩
  have e1c : cutV [V.int z.1, V.int z.2] none (some 1) = [V.int z.1] := rfl
  refine ⟨_, rfl, _, rfl, sla_of htpA fun HB p1 sB eB => cata_of (sB _ _ htpA) eB (by rw [e1c]; show 3 ≤ sizeLine; decide) fun HC r4 sC eC => ?_⟩
  rw [e1c] at eC
  have sAC := sB.trans sC
  refine ⟨_, rfl, _, rfl, sla_of (sAC _ _ htpA) fun HD r5 sD eD2 => ?_⟩
  rw [e1c] at eD2
  have sAD := sAC.trans sD
  have drD := drA.same sAD
  refine ⟨_, rfl, tp, _, rfl, .inr (.of (sAD _ _ htpA)), fun r6 hr6 => ⟨_, rfl, (by show 5 ≤ sizeLine; decide), fun lb hlb => ?_⟩⟩
  have nr6 := drD.ne hr6
  have x6 := same_upd hr6 (o := .lst [V.int z.1, V.int z.2])
  have drE := drD.same x6
  have nlb := drE.ne hlb
  have x7 := same_upd hlb (o := .lst [V.ref r4, V.ref r5, V.ref r6, V.non, V.ref to])
  have sAE := sAD.trans (x6.trans x7)
  have elb : (upd (upd HD r6 (.lst [V.int z.1, V.int z.2])) lb (.lst [V.ref r4, V.ref r5, V.ref r6, V.non, V.ref to])) lb = some (.lst [V.ref r4, V.ref r5, V.ref r6, V.non, V.ref to]) := upd_same
  have er6 := x7 _ _ (show (upd HD r6 (.lst [V.int z.1, V.int z.2])) r6 = some (.lst [V.int z.1, V.int z.2]) from upd_same)
  have er5 := (x6.trans x7) _ _ eD2
  have er4 := (sD.trans (x6.trans x7)) _ _ eC
  have drF := drE.same x7
  revert sAE elb er6 er5 er4 drF
  generalize upd (upd HD r6 (.lst [V.int z.1, V.int z.2])) lb (.lst [V.ref r4, V.ref r5, V.ref r6, V.non, V.ref to]) = HE
  intro sAE elb er6 er5 er4 drF
  refine ⟨la, lb, _, _, rfl, rfl, sAE _ _ ela, elb, (by show 3 + 5 ≤ sizeLine; decide), fun lc hlc => ?_⟩
  have nlc := drF.ne hlc
  have x8 := same_upd hlc (o := .lst ([V.ref r1, V.ref r2, V.ref r3] ++ [V.ref r4, V.ref r5, V.ref r6, V.non, V.ref to]))
  have elc : (upd HE lc (.lst ([V.ref r1, V.ref r2, V.ref r3] ++ [V.ref r4, V.ref r5, V.ref r6, V.non, V.ref to]))) lc = some (.lst [V.ref r1, V.ref r2, V.ref r3, V.ref r4, V.ref r5, V.ref r6, V.non, V.ref to]) := upd_same
  have er4' := x8 _ _ er4
  have er5' := x8 _ _ er5
  have er6' := x8 _ _ er6
  have sAF := sAE.trans x8
  have drG := drF.same x8
  revert elc er4' er5' er6' sAF drG
  generalize upd HE lc (.lst ([V.ref r1, V.ref r2, V.ref r3] ++ [V.ref r4, V.ref r5, V.ref r6, V.non, V.ref to])) = HF
  intro elc er4' er5' er6' sAF drG
  have b4F : But d H4 HF := (b45.trans b57).trans (b79.trans (b9A.trans (But.of sAF)))
  have hplF := (b4.trans b4F) _ _ hpd hpH
  have P2 : PItem K (Hz d HF) (.ref tp) := PItem.two (hz_get ntp (b4F _ _ ntp htp4)) (odd_int (by omega)) (odd_int (by omega))
  refine ⟨_, rfl, rfl, _, rfl, ?_⟩
  rw [dec_int]
  by_cases h1 : way = 1
  · rw [decide_eq_true h1]
    refine iteT ?_
    refine ⟨_, rfl, _, rfl, _, rfl, pl, _, rfl, SqL.of hplF, fun p1 hp1 => ?_⟩
    dsimp only
    rw [ecut]
    have x1 := same_upd hp1 (o := .lst (ys.take k))
    have e1 : (upd HF p1 (.lst (ys.take k))) p1 = some (.lst (ys.take k)) := upd_same
    have dr5 := drG.same x1
    revert x1 e1 dr5
    generalize upd HF p1 (.lst (ys.take k)) = H6
    intro x1 e1 dr5
    refine ⟨_, rfl, _, rfl, _, _, rfl, rfl, _, rfl, nopart ⟨pl, _, rfl, SqL.of (x1 _ _ hplF), fun p4 hp4 => ?_⟩⟩
    dsimp only
    rw [ecut3]
    have x4 := same_upd hp4 (o := .lst (ys.drop (k + 1)))
    refine ⟨p1, p4, _, _, rfl, rfl, x4 _ _ e1, upd_same, Nat.le_trans (show _ ≤ 1000 by rw [List.length_take, List.length_drop]; omega) (by decide), fun p5 hp5 => ?_⟩
    have x5 := same_upd hp5 (o := .lst (ys.take k ++ ys.drop (k + 1)))
    have n5 := (dr5.same x4).ne hp5
    have bb := b4F.trans (But.of (d := d) (x1.trans (x4.trans x5)))
    have b6 := b4.trans bb
    refine q _ p5 _ (hz_get n5 upd_same) ((((P0.same (hz_same b6)).take k).app ((P0.same (hz_same b6)).drop (k + 1))).mono (by decide)) ?_ b6 (((dr5.same x4).same x5).mono (by omega))
    rw [List.length_append, List.length_take, List.length_drop]
    omega
  rw [decide_eq_false h1]
  refine iteF ⟨_, rfl, rfl, _, rfl, ?_⟩
  rw [dec_int]
  by_cases h2 : way = 2
  · rw [decide_eq_true h2]
    refine iteT ?_
    refine ⟨_, rfl, _, rfl, _, rfl, pl, _, rfl, SqL.of hplF, fun p1 hp1 => ?_⟩
    dsimp only
    rw [ecut]
    have x1 := same_upd hp1 (o := .lst (ys.take k))
    have e1 : (upd HF p1 (.lst (ys.take k))) p1 = some (.lst (ys.take k)) := upd_same
    have dr5 := drG.same x1
    revert x1 e1 dr5
    generalize upd HF p1 (.lst (ys.take k)) = H6
    intro x1 e1 dr5
    refine ⟨_, rfl, (by show 1 ≤ sizeLine; decide), fun p2 hp2 => ?_⟩
    have x2 := same_upd hp2 (o := .lst [.ref tp])
    refine ⟨p1, p2, _, _, rfl, rfl, x2 _ _ e1, upd_same, Nat.le_trans (show _ ≤ 1000 by rw [List.length_take]; show _ + 1 ≤ 1000; omega) (by decide), fun p3 hp3 => ?_⟩
    have x3 := x2.trans (same_upd hp3 (o := .lst (ys.take k ++ [.ref tp])))
    have e3 : (upd (upd H6 p2 (.lst [.ref tp])) p3 (.lst (ys.take k ++ [.ref tp]))) p3 = some (.lst (ys.take k ++ [.ref tp])) := upd_same
    have dr6 := dr5.same x3
    have n3 := (dr5.same x2).ne hp3
    revert x3 e3 dr6
    generalize upd (upd H6 p2 (.lst [.ref tp])) p3 (.lst (ys.take k ++ [.ref tp])) = H7'
    intro x3 e3 dr6
    have x36 := x1.trans x3
    refine ⟨_, rfl, _, rfl, _, rfl, nopart ⟨pl, _, rfl, SqL.of (x36 _ _ hplF), fun p4 hp4 => ?_⟩⟩
    dsimp only
    rw [ecut2]
    have x4 := same_upd hp4 (o := .lst (ys.drop k))
    refine ⟨p3, p4, _, _, rfl, rfl, x4 _ _ e3, upd_same, Nat.le_trans (show _ ≤ 1000 by rw [List.length_append, List.length_take, List.length_drop]; show _ + 1 + _ ≤ 1000; omega) (by decide), fun p5 hp5 => ?_⟩
    exact ret _ p3 p2 _ k (b4F.trans (But.of x36)) (P2.same (hz_same (But.of x36))) n3 e3 (dr6.mono (by omega)) (Nat.le_refl _) p4 hp4 p5 hp5
  rw [decide_eq_false h2]
  refine iteF ?_
  refine ⟨_, rfl, _, rfl, _, rfl, pl, _, rfl, SqL.of hplF, fun p1 hp1 => ?_⟩
  dsimp only
  rw [ecut]
  have np1 := drG.ne hp1
  have x1 := same_upd hp1 (o := .lst (ys.take k))
  have e1 : (upd HF p1 (.lst (ys.take k))) p1 = some (.lst (ys.take k)) := upd_same
  have dr5 := drG.same x1
  revert x1 e1 dr5
  generalize upd HF p1 (.lst (ys.take k)) = H6'
  intro x1 e1 dr5
  refine ⟨_, rfl, _, rfl, d, lc, _, _, rfl, nlc, SqL.of (x1 _ _ elc), by simp, (by show 8 ≤ 1000; decide), dr5, by omega, fun HG v hv bG drH => ⟨(by show 1 ≤ sizeLine; decide), fun p2 hp2 => ?_⟩⟩
  have bFG : But d HF HG := (But.of x1).trans bG
  have e1G := bG _ _ np1 e1
  have IV : PItem K (Hz d HG) v := by
    have sFG := hz_same bFG
    simp only [List.mem_cons, List.not_mem_nil, or_false] at hv
    rcases hv with rfl | rfl | rfl | rfl | rfl | rfl | rfl | rfl
    · exact (I1.same (hz_same (But.of sAF))).same sFG
    · exact (I2.same (hz_same (But.of sAF))).same sFG
    · exact (I3.same (hz_same (But.of sAF))).same sFG
    · exact (PItem.ints (zs := [z.1, z.2, z.1]) (hz_get (fun e => by rw [e] at er4'; obtain ⟨_, _, _, h, _⟩ := drG; rw [h] at er4'; cases er4') er4') (fun x hx => by
        simp only [List.mem_cons, List.not_mem_nil, or_false] at hx
        rcases hx with rfl | rfl | rfl <;> assumption) (by simp) (by simp)).same sFG
    · exact (PItem.ints (zs := [z.1]) (hz_get (fun e => by rw [e] at er5'; obtain ⟨_, _, _, h, _⟩ := drG; rw [h] at er5'; cases er5') er5') (fun x hx => by
        rw [List.mem_singleton.mp hx]
        exact hz1) (by simp) (by simp)).same sFG
    · exact (PItem.lst (zs := [z.1, z.2]) (hz_get nr6 er6') (fun x hx => by
        simp only [List.mem_cons, List.not_mem_nil, or_false] at hx
        rcases hx with rfl | rfl <;> assumption) (by simp)).same sFG
    · exact PItem.non
    · exact one_ok (hz_same (b4F.trans bFG))
  have x2 := same_upd hp2 (o := .lst [v])
  refine ⟨p1, p2, _, _, rfl, rfl, x2 _ _ e1G, upd_same, Nat.le_trans (show _ ≤ 1000 by rw [List.length_take]; show _ + 1 ≤ 1000; omega) (by decide), fun p3 hp3 => ?_⟩
  have x3 := x2.trans (same_upd hp3 (o := .lst (ys.take k ++ [v])))
  have e3 : (upd (upd HG p2 (.lst [v])) p3 (.lst (ys.take k ++ [v]))) p3 = some (.lst (ys.take k ++ [v])) := upd_same
  have dr6 := drH.same x3
  have n3 := (drH.same x2).ne hp3
  revert x3 e3 dr6
  generalize upd (upd HG p2 (.lst [v])) p3 (.lst (ys.take k ++ [v])) = HI
  intro x3 e3 dr6
  have hplI := x3 _ _ (bFG _ _ hpd hplF)
  refine ⟨_, rfl, _, rfl, _, _, rfl, rfl, _, rfl, nopart ⟨pl, _, rfl, SqL.of hplI, fun p4 hp4 => ?_⟩⟩
  dsimp only
  rw [ecut3]
  have x4 := same_upd hp4 (o := .lst (ys.drop (k + 1)))
  refine ⟨p3, p4, _, _, rfl, rfl, x4 _ _ e3, upd_same, Nat.le_trans (show _ ≤ 1000 by rw [List.length_append, List.length_take, List.length_drop]; show _ + 1 + _ ≤ 1000; omega) (by decide), fun p5 hp5 => ?_⟩
  exact ret _ p3 p2 _ (k + 1) (b4F.trans (bFG.trans (But.of x3))) (IV.same (hz_same (But.of x3))) n3 e3 (dr6.mono (by omega)) (Nat.le_succ _) p4 hp4 p5 hp5
end
end KB
namespace KB
open PySem PySem.Spec PyProof.Rows L2 KA

section
variable {P : Program} {w : World} {K : PySem.W.Frag} {mg : Str → Option Value} {base : Heap}
/-- what may stand for a group, as it can be shown -/
def GItem (K : PySem.W.Frag) (H : Hp) (v : V) (N W : Nat) : Prop := ∃ q d, GqAt K H v q ∧ (itG q).length ≤ N ∧ Dp K H v d ∧ OkD d 2 W
def GrL (K : PySem.W.Frag) (H : Hp) (ys : List V) (N W : Nat) : Prop := ∃ gs ds, F2 (GqAt K H) ys gs ∧ (flG gs).length ≤ N ∧ DpAll K H ys ds ∧ OkA ds 2 W
theorem GItem.same {H H' : Hp} (s : Same H H') {v : V} {N W : Nat} (h : GItem K H v N W) : GItem K H' v N W := by
  obtain ⟨q, d, a, n, b, c⟩ := h
  exact ⟨q, d, a.same s, n, dp_same s d v b, c⟩
theorem GrL.same {H H' : Hp} (s : Same H H') {ys : List V} {N W : Nat} (h : GrL K H ys N W) : GrL K H' ys N W := by
  obtain ⟨qs, ds, a, n, b, c⟩ := h
  exact ⟨qs, ds, a.mono fun _ _ k => k.same s, n, dpAll_same s ds ys b, c⟩
theorem flG_app (a b : List Gq) : (flG (a ++ b)).length = (flG a).length + (flG b).length := by
  unfold flG
  rw [List.flatMap_append, List.length_append]
theorem GrL.app {H : Hp} {xs ys : List V} {M N W Z : Nat} (h : GrL K H xs M W) (k : GrL K H ys N Z) : GrL K H (xs ++ ys) (M + N) (W + Z) := by
  obtain ⟨qs, ds, a, n, b, c⟩ := h
  obtain ⟨qs', ds', a', n', b', c'⟩ := k
  exact ⟨_, _, a.app a', by rw [flG_app]; omega, dpA_app b b', c.app c'⟩
theorem GrL.mono {H : Hp} {xs : List V} {M N W Z : Nat} (h : GrL K H xs M W) (k : M ≤ N) (l : W ≤ Z) : GrL K H xs N Z := by
  obtain ⟨qs, ds, a, n, b, c⟩ := h
  exact ⟨qs, ds, a, by omega, b, c.mono (Nat.le_refl _) l⟩
theorem GrL.take {H : Hp} {xs : List V} {N W : Nat} (h : GrL K H xs N W) (n : Nat) : GrL K H (xs.take n) N W := by
  obtain ⟨qs, ds, a, l, b, c⟩ := h
  refine ⟨_, _, a.take n, ?_, dpA_take b n, c.take n⟩
  have := flG_app (qs.take n) (qs.drop n)
  rw [List.take_append_drop] at this
  omega
theorem GrL.drop {H : Hp} {xs : List V} {N W : Nat} (h : GrL K H xs N W) (n : Nat) : GrL K H (xs.drop n) N W := by
  obtain ⟨qs, ds, a, l, b, c⟩ := h
  refine ⟨_, _, a.drop n, ?_, dpA_drop b n, c.drop n⟩
  have := flG_app (qs.take n) (qs.drop n)
  rw [List.take_append_drop] at this
  omega
theorem GrL.cut {H : Hp} {xs : List V} {N W : Nat} (h : GrL K H xs N W) (lo hi : Option Int) : GrL K H (cutV xs lo hi) N W := (h.drop _).take _
theorem flG_rev (qs : List Gq) : (flG qs.reverse).length = (flG qs).length := by
  induction qs with
  | nil => rfl
  | cons q qs ih =>
    rw [List.reverse_cons, flG_app, ih]
    have : (flG (q :: qs)).length = (flG [q]).length + (flG qs).length := flG_app [q] qs
    omega
theorem GrL.rev {H : Hp} {xs : List V} {N W : Nat} (h : GrL K H xs N W) : GrL K H xs.reverse N W := by
  obtain ⟨qs, ds, a, l, b, c⟩ := h
  exact ⟨_, _, a.rev, by rw [flG_rev]; exact l, dpA_rev b, c.rev⟩
theorem GrL.one {H : Hp} {v : V} {N W : Nat} (h : GItem K H v N W) : GrL K H [v] N (W + 1) := by
  obtain ⟨q, d, a, n, b, c⟩ := h
  refine ⟨[q], [d], .cons a .nil, ?_, .cons b .nil, (OkA.cons c OkA.nil (V := 0)).mono (Nat.le_refl _) (Nat.le_refl _)⟩
  show (itG q ++ []).length ≤ N
  rw [List.append_nil]
  exact n
def NumC (c : List Int) : Prop := ∀ n ∈ c, 1 ≤ n ∧ n ≤ 1000000000
theorem GItem.li {H : Hp} {t : Addr} {c : List Int} (h : H t = some (.lst (c.map V.int))) (hc : NumC c) : GItem K H (.ref t) c.length (41 * c.length) :=
  ⟨.grp (c.map V.int), .list (c.map PyData.int), ⟨t, rfl, h, fun x hx => by
    obtain ⟨n, _, rfl⟩ := List.mem_map.mp hx
    exact .int n⟩, by show (c.map V.int).length ≤ _; rw [List.length_map]; exact Nat.le_refl _, .lst (.of h) dpA_ints, (okA_ints hc).lst.mono (by decide) (Nat.le_refl _)⟩
theorem kit_tl (K : PySem.W.Frag) : PySem.W.kitOne K (.type "tuple") (.type "list") = some false := kit_ty (by decide +kernel)
theorem kit_nl (K : PySem.W.Frag) : PySem.W.kitOne K (.type "NoneType") (.type "list") = some false := kit_ty (by decide +kernel)
theorem kit_sl (K : PySem.W.Frag) : PySem.W.kitOne K (.type "str") (.type "list") = some false := kit_ty (by decide +kernel)
theorem kit_il (K : PySem.W.Frag) : PySem.W.kitOne K (.type "int") (.type "list") = some false := kit_ty (by decide +kernel)
theorem kit_dl (K : PySem.W.Frag) : PySem.W.kitOne K (.type "dict") (.type "list") = some false := kit_ty (by decide +kernel)
theorem GItem.tup {H : Hp} {t : Addr} {c : List Int} (h : H t = some (.tup (c.map V.int))) (hc : NumC c) : GItem K H (.ref t) 0 (41 * c.length) :=
  ⟨.odd, .tuple (c.map PyData.int), ⟨_, .base (.tup h), kit_tl K⟩, Nat.le_refl _, .tup (.of h) dpA_ints, (okA_ints hc).tup.mono (by decide) (Nat.le_refl _)⟩
theorem GItem.non {H : Hp} : GItem K H .non 0 140 := ⟨.odd, .none, ⟨_, .base .non, kit_nl K⟩, Nat.le_refl _, .non, okd_non.mono (by decide) (by decide)⟩
theorem GItem.str {H : Hp} {s : String} (hs : s.length ≤ 140) : GItem K H (.str (Str.ofString s)) 0 140 := ⟨.odd, .str (Str.ofString s), ⟨_, .base (.str _), kit_sl K⟩, Nat.le_refl _, .str _, (okd_str hs).mono (by decide) (by decide)⟩
theorem GItem.plus {H : Hp} {t : Addr} {c : List Int} {v : V} (h : H t = some (.lst (c.map V.int ++ [v]))) (hc : NumC c) (hv : OddV K H v) : GItem K H (.ref t) (c.length + 1) (41 * c.length + 142) := by
  obtain ⟨v1, dv, v2, v3⟩ := hv
  refine ⟨.grp (c.map V.int ++ [v]), .list (c.map PyData.int ++ [dv]), ⟨t, rfl, h, fun x hx => ?_⟩, ?_, .lst (.of h) (dpA_app dpA_ints (.cons v2 .nil)), ?_⟩
  · rcases List.mem_append.mp hx with hx | hx
    · obtain ⟨n, _, rfl⟩ := List.mem_map.mp hx
      exact .int n
    · rw [List.mem_singleton.mp hx]
      exact v1
  · show (c.map V.int ++ [v]).length ≤ _
    rw [List.length_append, List.length_map]
    exact Nat.le_refl _
  · exact (((okA_ints hc).mono (by decide : 0 ≤ 1) (Nat.le_refl _)).app (OkA.cons v3 OkA.nil (V := 0))).lst.mono (by decide) (Nat.le_refl _)
theorem GrL.of_li {H : Hp} : ∀ {ys : List V} {cs : List (List Int)}, F2 (LI H) ys cs → (∀ c ∈ cs, NumC c) → GrL K H ys cs.flatten.length (41 * cs.flatten.length + cs.length)
  | _, _, .nil, _ => ⟨[], [], .nil, Nat.zero_le _, .nil, OkA.nil⟩
  | _, _, .cons (b := c) h t, hb => by
    have ih := GrL.of_li t fun z hz => hb z (List.mem_cons_of_mem _ hz)
    obtain ⟨a, rfl, ha⟩ := h
    refine ((GrL.one (GItem.li ha (hb c (List.mem_cons_self ..)))).app ih).mono ?_ ?_
    · rw [List.flatten_cons, List.length_append]
      exact Nat.le_refl _
    · rw [List.flatten_cons, List.length_append, List.length_cons]
      omega
theorem at_back2 {xs : List V} (h : 2 ≤ xs.length) : atI xs (-2) = xs[xs.length - 2]? := by
  unfold atI ixN
  rw [if_neg (by decide), if_pos (by omega)]
  show xs[(-2 + (xs.length : Int)).toNat]? = _
  rw [show (-2 + (xs.length : Int)).toNat = xs.length - 2 by omega]
theorem at_back1 {xs : List V} (h : 1 ≤ xs.length) : atI xs (-1) = xs[xs.length - 1]? := by
  unfold atI ixN
  rw [if_neg (by decide), if_pos (by omega)]
  show xs[(-1 + (xs.length : Int)).toNat]? = _
  rw [show (-1 + (xs.length : Int)).toNat = xs.length - 1 by omega]
theorem and_skip {c : Bool} {U : (Bool → Hp → Prop) → Prop} {Q : Bool → Hp → Prop} {H : Hp} (hU : c = true → ∀ Q : Bool → Hp → Prop, Q false H → U Q) (h : Q false H) : if c = true then U Q else Q false H := by
  split
  · rename_i e
    exact hU e Q h
  · exact h
theorem li_list {H : Hp} : ∀ {acc : List V} {cs : List (List Int)}, acc.length = cs.length → (∀ (j : Nat) v, acc[j]? = some v → ∃ (c' : List Int) (p : Addr) (c0 : List Int), v = .ref p ∧ H p = some (.lst (c'.map V.int)) ∧ cs[j]? = some c0 ∧ c'.length ≤ c0.length ∧ ∀ n ∈ c', n ∈ c0) →
    ∃ ds : List (List Int), F2 (LI H) acc ds ∧ ds.flatten.length ≤ cs.flatten.length ∧ ds.length = cs.length ∧ ∀ c ∈ ds, ∀ n ∈ c, ∃ c0 ∈ cs, n ∈ c0
  | [], [], _, _ => ⟨[], .nil, Nat.le_refl _, rfl, fun c h => nomatch h⟩
  | [], _ :: _, h, _ => by simp at h
  | _ :: _, [], h, _ => by simp at h
  | v :: acc, c :: cs, h, g => by
    obtain ⟨ds, f, l1, l2, l3⟩ := li_list (H := H) (acc := acc) (cs := cs) (by simpa using h) fun j v hv => g (j + 1) v hv
    obtain ⟨c', p, c0, rfl, e2, e3, e4, e5⟩ := g 0 v rfl
    cases e3
    refine ⟨c' :: ds, .cons ⟨p, rfl, e2⟩ f, ?_, by rw [List.length_cons, List.length_cons, l2], fun x hx => ?_⟩
    · rw [List.flatten_cons, List.flatten_cons, List.length_append, List.length_append]
      omega
    · rcases List.mem_cons.mp hx with rfl | hx
      · exact fun n hn => ⟨c, List.mem_cons_self .., e5 n hn⟩
      · exact fun n hn => by
          obtain ⟨c0, h1, h2⟩ := l3 x hx n hn
          exact ⟨c0, List.mem_cons_of_mem _ h1, h2⟩
theorem cut_ints (c : List Int) (lo hi : Option Int) : ∃ c' : List Int, cutV (c.map V.int) lo hi = c'.map V.int ∧ c'.length ≤ c.length ∧ ∀ n ∈ c', n ∈ c := by
  unfold cutV
  refine ⟨((c.drop _).take _), by rw [List.map_take, List.map_drop], ?_, fun n hn => List.mem_of_mem_drop (List.mem_of_mem_take hn)⟩
  rw [List.length_take, List.length_drop]
  omega
def spGroupsT (K : PySem.W.Frag) : Sp := fun vs H Q _ => ∃ (d hl nl : Addr) (ys : List V) (cs : List (List Int)) (ns : List Int) (n : Nat), vs = [.ref d, .ref hl, .ref nl] ∧ Hz d H hl = some (.lst ys) ∧ F2 (LI (Hz d H)) ys cs ∧ (∀ c ∈ cs, NumC c) ∧ cs.length ≤ 62 ∧ cs ≠ [] ∧ cs.flatten.length ≤ 62 ∧ Hz d H nl = some (.lst (ns.map V.int)) ∧ ns ≠ [] ∧ ns.length ≤ 1000 ∧ NumC ns ∧ Dr PM d n H ∧ n ≤ 99000 ∧
  ∀ (H' : Hp) (l : Addr) (us : List V), Hz d H' l = some (.lst us) → GrL K (Hz d H') us 300 20000 → us.length ≤ 130 → But d H H' → Dr PM d (n + 10) H' → Q (.ref l) H'
theorem ok_groups_turned (T : Tx K mg) : FnOk P w K mg base CX0 4 T.A_groups_turned T.fd_groups_turned ["_law_source", "_law_heaps", "_law_numbers_here"] (spGroupsT K) := by
  refine T.F_groups_turned.ok sc_groups_turned (fun vs H Q E h => ?_) (fun cdv A outer s H vs Q E hr h => ?_)
  · obtain ⟨d, hl, nl, ys, cs, ns, n, rfl, hhl, hF, hcn, hcl, hcne, hcf, hnl, hne, hn1, hnn, dr, hn, q⟩ := h
    rfl
  obtain ⟨d, hl, nl, ys, cs, ns, n, rfl, hhl, hF, hcn, hcl, hcne, hcf, hnl, hne, hn1, hnn, dr, hn, q⟩ := h
  refine ⟨_, (pss_cons (ps_set (i := 3) sc_groups_turned.nd rfl (Or.inl rfl) (pe_call (ok_draw T) (hr.mono (by decide)) (by rfl) T.g_draw T.F_draw.kp T.b_draw .nil pass0 (pa_cons (pv 0) (pa_cons (pe_callB call_len_seq (by rfl) T.z_len PySem.boot_len (pa_cons (pv 1) pa_nil)) pa_nil))))
      (pss_cons (ps_set (i := 4) sc_groups_turned.nd rfl (Or.inl rfl) (pe_ix ix_list (pv 1) (pv 3) (fun _ _ => rfl)))
      (pss_cons (ps_set (i := 5) sc_groups_turned.nd rfl (Or.inl rfl) (pe_call (ok_draw T) (hr.mono (by decide)) (by rfl) T.g_draw T.F_draw.kp T.b_draw .nil pass0 (pa_cons (pv 0) (pa_cons pe_int pa_nil))))
      (pss_cons (ps_if (pt_cmpR op_eq (pv 5) pe_int (nomark _)) (pss_one (ps_ret (pe_op op_cat (pe_slice sl_list (pv 1) po_none (po_some (pv 3))) (pe_slice sl_list (pv 1) (po_some (pe_op op_add (pv 3) pe_int)) po_none)))) pss_nil)
      (pss_cons (ps_if (pt_cmpR op_eq (pv 5) pe_int (nomark _)) (pss_one (ps_ret (pe_op op_cat (pv 1) (pe_lst (pa_cons (pe_lst pa_nil) pa_nil))))) pss_nil)
      (pss_cons (ps_if (pt_cmpR op_eq (pv 5) pe_int (nomark _)) (pss_cons (ps_set (i := 6) sc_groups_turned.nd rfl (Or.inl rfl) (pe_call (ok_draw T) (hr.mono (by decide)) (by rfl) T.g_draw T.F_draw.kp T.b_draw .nil pass0 (pa_cons (pv 0) (pa_cons (pe_op op_add (pe_callB call_len_seq (by rfl) T.z_len PySem.boot_len (pa_cons (pv 4) pa_nil)) pe_int) pa_nil))))
      (pss_one (ps_ret (pe_op op_cat (pe_op op_cat (pe_slice sl_list (pv 1) po_none (po_some (pv 3))) (pe_lst (pa_cons (pe_slice sl_list (pv 4) po_none (po_some (pv 6))) (pa_cons (pe_slice sl_list (pv 4) (po_some (pv 6)) po_none) pa_nil)))) (pe_slice sl_list (pv 1) (po_some (pe_op op_add (pv 3) pe_int)) po_none))))) pss_nil)
      (pss_cons (ps_if (PW.pt (pw_and (pt_cmpR op_eq (pv 5) pe_int (nomark _)) (pw_and1 (pt_cmpR op_gt (pe_callB call_len_seq (by rfl) T.z_len PySem.boot_len (pa_cons (pv 1) pa_nil)) pe_int (nomark _))))) (pss_one (ps_ret (pe_op op_cat (pe_slice sl_list (pv 1) po_none (po_some (pe_un un_neg pe_int))) (pe_lst (pa_cons (pe_op op_cat (pe_ix ix_list (pv 1) (pe_un un_neg pe_int) (fun _ _ => rfl)) (pe_ix ix_list (pv 1) (pe_un un_neg pe_int) (fun _ _ => rfl))) pa_nil))))) pss_nil)
      (pss_cons (ps_if (pt_cmpR op_eq (pv 5) pe_int (nomark _)) (pss_one (ps_ret (pe_op op_cat (pe_op op_cat (pe_slice sl_list (pv 1) po_none (po_some (pv 3))) (pe_lst (pa_cons (pe_op op_cat (pv 4) (pe_lst (pa_cons (pe_call (ok_odd T) (hr.mono (by decide)) (by rfl) T.g_odd T.F_odd.kp T.b_odd .nil pass0 (pa_cons (pv 0) (pa_cons (pe_call (ok_one T) (hr.mono (by decide)) (by rfl) T.g_one T.F_one.kp T.b_one .nil pass0 (pa_cons (pv 0) (pa_cons (pv 2) pa_nil))) pa_nil))) pa_nil))) pa_nil))) (pe_slice sl_list (pv 1) (po_some (pe_op op_add (pv 3) pe_int)) po_none)))) pss_nil)
      (pss_cons (ps_if (pt_cmpR op_eq (pv 5) pe_int (nomark _)) (pss_one (ps_ret (pe_op op_cat (pe_op op_cat (pe_slice sl_list (pv 1) po_none (po_some (pv 3))) (pe_lst (pa_cons (pe_slice sl_list (pv 4) (po_some pe_int) po_none) pa_nil))) (pe_slice sl_list (pv 1) (po_some (pe_op op_add (pv 3) pe_int)) po_none)))) pss_nil)
      (pss_cons (ps_if (pt_cmpR op_eq (pv 5) pe_int (nomark _)) (pss_one (ps_ret (pe_op op_cat (pe_op op_cat (pe_slice sl_list (pv 1) po_none (po_some (pv 3))) (pe_lst (pa_cons (pe_call (ok_one T) (hr.mono (by decide)) (by rfl) T.g_one T.F_one.kp T.b_one .nil pass0 (pa_cons (pv 0) (pa_cons (pe_lst (pa_cons (pe_callTy call_tuple_of (by rfl) T.z_tuple (by decide +kernel) (pa_cons (pv 4) pa_nil)) (pa_cons pe_non (pa_cons pe_str (pa_cons (pe_revL (pv 4)) pa_nil))))) pa_nil))) pa_nil))) (pe_slice sl_list (pv 1) (po_some (pe_op op_add (pv 3) pe_int)) po_none)))) pss_nil)
      (pss_cons (ps_if (pt_cmpR op_eq (pv 5) pe_int (nomark _)) (pss_one (ps_ret (pe_revL (pv 1)))) pss_nil)
      (pss_one (ps_ret (pe_op op_cat (pe_lc (own := [("_law_group", 4)]) (g := gName 4) (tt := tYes) rfl sc_groups_turned.nd (pi_list (pv 1)) (blkOk_by (N := ["_law_source", "_law_heaps", "_law_numbers_here", "_law_at", "_law_group", "_law_way", "_law_cut"]) (sc := defScope s_groups_turned) (by decide +kernel)) (fun _ _ _ _ _ => (pg_name (i := 4) sc_groups_turned.nd rfl (Or.inl rfl))) (fun _ _ _ _ _ => pts_nil) (fun _ _ _ _ _ => (pe_slice (sl_listK (K' := K) rfl) (pv 4) po_none (po_some pe_int)))) (pe_lc (own := [("_law_group", 4)]) (g := gName 4) (tt := tYes) rfl sc_groups_turned.nd (pi_list (pv 1)) (blkOk_by (N := ["_law_source", "_law_heaps", "_law_numbers_here", "_law_at", "_law_group", "_law_way", "_law_cut"]) (sc := defScope s_groups_turned) (by decide +kernel)) (fun _ _ _ _ _ => (pg_name (i := 4) sc_groups_turned.nd rfl (Or.inl rfl))) (fun _ _ _ _ _ => pts_nil) (fun _ _ _ _ _ => (pe_slice (sl_listK (K' := K) rfl) (pv 4) (po_some pe_int) po_none))))))))))))))))), ?_⟩
  have hhd := hz_ne hhl
  have hhH := hz_le _ _ hhl
  have hnd := hz_ne hnl
  have hnH := hz_le _ _ hnl
  have hyl := hF.len
  have hy0 : 0 < ys.length := by
    rw [hyl]
    exact List.length_pos_iff.mpr hcne
  have G0 : GrL K (Hz d H) ys 62 2604 := (GrL.of_li hF hcn).mono (by omega) (by omega)
  refine ⟨_, rfl, _, rfl, hl, _, rfl, .inl (SqL.of hhH), d, ((ys.length : Nat) : Int), n, rfl, by omega, log_tiny (by omega) (by omega), dr, by omega, fun H1 at_ a0 a1 b1 dr1 => ?_⟩
  obtain ⟨k, rfl⟩ : ∃ k : Nat, at_ = (k : Int) := ⟨at_.toNat, by omega⟩
  have hk : k < ys.length := by omega
  have hhl1 := b1 _ _ hhd hhH
  obtain ⟨c, hck, g, egk, hg⟩ := hF.get (List.getElem?_eq_getElem hk)
  have hyk : ys[k]? = some (.ref g) := by rw [List.getElem?_eq_getElem hk, egk]
  have hNc : NumC c := hcn c (List.mem_of_getElem? hck)
  have hclen : c.length ≤ 62 := by
    have := (List.sublist_flatten_of_mem (List.mem_of_getElem? hck)).length_le
    omega
  have ngd := hz_ne hg
  have hgH := hz_le _ _ hg
  refine ⟨_, rfl, _, rfl, hl, _, _, _, rfl, rfl, SqL.of hhl1, atI_nat hyk, ?_⟩
  refine ⟨_, rfl, d, 9, _, rfl, by decide, log_tiny (by decide) (by decide), dr1, by omega, fun H2 way w0 w1 b2 dr2 => ?_⟩
  have b02 := b1.trans b2
  have hh2 := b02 _ _ hhd hhH
  have hg2 := b02 _ _ ngd hgH
  have fin : ∀ (H5 : Hp) (p5 : Addr) (xs : List V), But d H H5 → Dr PM d (n + 8) H5 → H5 p5 = none → GrL K (Hz d H5) xs 300 20000 → xs.length ≤ 130 → Q (.ref p5) (upd H5 p5 (.lst xs)) := fun H5 p5 xs b5 dr5 hp5 gl hl => by
    have n5 := dr5.ne hp5
    have x5 := But.new (d := d) hp5 (o := .lst xs)
    exact q _ p5 xs (hz_get n5 upd_same) (gl.same (hz_same x5)) hl (b5.trans x5) ((dr5.upd n5).mono (by omega))
  have tl : ∀ (H6 : Hp) (p3 : Addr) (vs : List V) (lo : Option Int), But d H H6 → Dr PM d (n + 7) H6 → H6 p3 = some (.lst vs) → GrL K (Hz d H6) vs 230 17000 → vs.length ≤ 66 → ∀ p4, H6 p4 = none → rCat (.ref p3) (.ref p4) (upd H6 p4 (.lst (cutV ys lo none))) Q := fun H6 p3 vs lo b6 dr6 e6 gl hl p4 hp4 => by
    have x4 := But.new (d := d) hp4 (o := .lst (cutV ys lo none))
    have hcl := cutV_length ys lo none
    refine ⟨p3, p4, _, _, rfl, rfl, same_upd hp4 _ _ e6, upd_same, Nat.le_trans (show _ ≤ 1000 by omega) (by decide), fun p5 hp5 => ?_⟩
    refine fin _ p5 _ (b6.trans x4) ((dr6.upd (dr6.ne hp4)).mono (by omega)) hp5 (((gl.same (hz_same x4)).app ((G0.same (hz_same (b6.trans x4))).cut lo none)).mono (by omega) (by omega)) ?_
    rw [List.length_append]
    omega
  refine ⟨_, rfl, rfl, _, rfl, ?_⟩
  rw [dec_int]
  by_cases h0 : way = 0
  · rw [decide_eq_true h0]
    refine iteT ?_
    refine ⟨_, rfl, _, rfl, _, rfl, hl, _, rfl, SqL.of hh2, fun p1 hp1 => ?_⟩
    dsimp only
    have z1 := But.new (d := d) hp1 (o := .lst (cutV ys none (some (k : Int))))
    have e1 : (upd H2 p1 (.lst (cutV ys none (some (k : Int))))) p1 = some (.lst (cutV ys none (some (k : Int)))) := upd_same
    have np1 := dr2.ne hp1
    have dr3 := dr2.upd np1 (o := .lst (cutV ys none (some (k : Int))))
    have b3 := b02.trans z1
    revert e1 dr3 b3
    generalize upd H2 p1 (.lst (cutV ys none (some (k : Int)))) = H3
    intro e1 dr3 b3
    refine ⟨_, rfl, _, rfl, _, _, rfl, rfl, _, rfl, nopart ⟨hl, _, rfl, SqL.of (b3 _ _ hhd hhH), fun p4 hp4 => ?_⟩⟩
    exact tl _ p1 _ _ b3 (dr3.mono (by omega)) e1 (((G0.same (hz_same b3)).cut none (some (k : Int))).mono (by decide) (by decide)) (Nat.le_trans (cutV_length _ _ _) (by omega)) p4 hp4
  rw [decide_eq_false h0]
  refine iteF ?_
  refine ⟨_, rfl, rfl, _, rfl, ?_⟩
  rw [dec_int]
  by_cases h1 : way = 1
  · rw [decide_eq_true h1]
    refine iteT ?_
    refine ⟨_, rfl, (by show 0 ≤ sizeLine; decide), fun p1 hp1 => ⟨(by show 1 ≤ sizeLine; decide), fun p2 hp2 => ?_⟩⟩
    have n1 := dr2.ne hp1
    have x1 := same_upd hp1 (o := .lst [])
    have x2 := same_upd hp2 (o := .lst [.ref p1])
    have n2 := (dr2.same x1).ne hp2
    have z2 := But.of (d := d) (x1.trans x2)
    have e1 : Hz d (upd (upd H2 p1 (.lst [])) p2 (.lst [.ref p1])) p1 = some (.lst (([] : List Int).map V.int)) := hz_get n1 (x2 _ _ upd_same)
    have b4 := b02.trans z2
    refine ⟨hl, p2, _, _, rfl, rfl, b4 _ _ hhd hhH, upd_same, Nat.le_trans (show _ ≤ 1000 by show _ + 1 ≤ 1000; omega) (by decide), fun p5 hp5 => ?_⟩
    refine fin _ p5 _ b4 (((dr2.same x1).same x2).mono (by omega)) hp5 (((G0.same (hz_same b4)).app (GrL.one (GItem.li e1 (fun n h => by cases h)))).mono (by decide) (by decide)) ?_
    rw [List.length_append]
    show _ + 1 ≤ 130
    omega
  rw [decide_eq_false h1]
  refine iteF ?_
  refine ⟨_, rfl, rfl, _, rfl, ?_⟩
  rw [dec_int]
  by_cases h2 : way = 2
  · rw [decide_eq_true h2]
    refine iteT ?_
    refine ⟨_, rfl, _, rfl, g, _, rfl, .inl (SqL.of hg2), _, _, rfl, rfl, d, _, _, rfl, (by rw [List.length_map]; omega), log_tiny (by rw [List.length_map]; omega) (by rw [List.length_map]; omega), dr2, by omega, fun H2' ct c0 c1 b2' dr2' => ?_⟩
    have b02' := b02.trans b2'
    have hh2' := b02' _ _ hhd hhH
    have hg2' := b02' _ _ ngd hgH
    refine ⟨_, rfl, _, rfl, _, rfl, hl, _, rfl, SqL.of hh2', fun p1 hp1 => ?_⟩
    dsimp only
    have z1 := But.new (d := d) hp1 (o := .lst (cutV ys none (some (k : Int))))
    have e1 : (upd H2' p1 (.lst (cutV ys none (some (k : Int))))) p1 = some (.lst (cutV ys none (some (k : Int)))) := upd_same
    have np1 := dr2'.ne hp1
    have dr3 := dr2'.upd np1 (o := .lst (cutV ys none (some (k : Int))))
    have b3 := b02'.trans z1
    revert e1 dr3 b3
    generalize upd H2' p1 (.lst (cutV ys none (some (k : Int)))) = H3
    intro e1 dr3 b3
    obtain ⟨ca, ea, la, ha⟩ := cut_ints c none (some ct)
    obtain ⟨cb, eb, lb, hb⟩ := cut_ints c (some ct) none
    have hg3 := b3 _ _ ngd hgH
    refine ⟨_, rfl, _, rfl, _, rfl, g, _, rfl, SqL.of hg3, fun pa hpa => ?_⟩
    dsimp only
    rw [ea]
    have xa := same_upd hpa (o := .lst (ca.map V.int))
    have na := dr3.ne hpa
    refine ⟨_, rfl, _, rfl, _, rfl, nopart ⟨g, _, rfl, SqL.of (xa _ _ hg3), fun pb hpb => ?_⟩⟩
    dsimp only
    rw [eb]
    have xb := same_upd hpb (o := .lst (cb.map V.int))
    have nb := (dr3.same xa).ne hpb
    refine ⟨(by show 2 ≤ sizeLine; decide), fun p2 hp2 => ?_⟩
    have x2 := same_upd hp2 (o := .lst [V.ref pa, .ref pb])
    have s34 := (xa.trans xb).trans x2
    have e1' := s34 _ _ e1
    have e2 : (upd (upd (upd H3 pa (.lst (ca.map V.int))) pb (.lst (cb.map V.int))) p2 (.lst [V.ref pa, .ref pb])) p2 = some (.lst [V.ref pa, .ref pb]) := upd_same
    have ia := hz_get na ((xb.trans x2) _ _ (show (upd H3 pa (.lst (ca.map V.int))) pa = some (.lst (ca.map V.int)) from upd_same))
    have ib := hz_get nb (x2 _ _ (show (upd (upd H3 pa (.lst (ca.map V.int))) pb (.lst (cb.map V.int))) pb = some (.lst (cb.map V.int)) from upd_same))
    have dr4 := dr3.same s34
    have b4 := b3.trans (But.of (d := d) s34)
    revert e1' e2 ia ib dr4 b4
    generalize upd (upd (upd H3 pa (.lst (ca.map V.int))) pb (.lst (cb.map V.int))) p2 (.lst [V.ref pa, .ref pb]) = H4
    intro e1' e2 ia ib dr4 b4
    have gi : GrL K (Hz d H4) ([V.ref pa] ++ [V.ref pb]) _ _ := (GrL.one (GItem.li ia (fun n h => hNc n (ha n h)))).app (GrL.one (GItem.li ib (fun n h => hNc n (hb n h))))
    refine ⟨p1, p2, _, _, rfl, rfl, e1', e2, Nat.le_trans (show _ ≤ 1000 by have hc1 := cutV_length ys none (some (k : Int)); show _ + 2 ≤ 1000; omega) (by decide), fun p3 hp3 => ?_⟩
    have n3 := dr4.ne hp3
    have z3 := But.new (d := d) hp3 (o := .lst (cutV ys none (some (k : Int)) ++ [V.ref pa, .ref pb]))
    have e3 : (upd H4 p3 (.lst (cutV ys none (some (k : Int)) ++ [V.ref pa, .ref pb]))) p3 = some (.lst (cutV ys none (some (k : Int)) ++ [V.ref pa, .ref pb])) := upd_same
    have dr5 := dr4.upd n3 (o := .lst (cutV ys none (some (k : Int)) ++ [V.ref pa, .ref pb]))
    have b5 := b4.trans z3
    have gi' := (gi).same (hz_same z3)
    revert e3 dr5 b5 gi'
    generalize upd H4 p3 (.lst (cutV ys none (some (k : Int)) ++ [V.ref pa, .ref pb])) = H5
    intro e3 dr5 b5 gi'
    refine ⟨_, rfl, _, rfl, _, _, rfl, rfl, _, rfl, nopart ⟨hl, _, rfl, SqL.of (b5 _ _ hhd hhH), fun p4 hp4 => ?_⟩⟩
    exact tl _ p3 _ _ b5 (dr5.mono (by omega)) e3 ((((G0.same (hz_same b5)).cut none (some (k : Int))).app gi').mono (by omega) (by omega)) (by have hc1 := cutV_length ys none (some (k : Int)); rw [List.length_append]; show _ + 2 ≤ 66; omega) p4 hp4
  rw [decide_eq_false h2]
  refine iteF ?_
  refine ⟨_, rfl, rfl, _, rfl, ?_⟩
  rw [dec_int]
  by_cases h3 : way = 3 ∧ 1 < ys.length
  · rw [decide_eq_true h3.1]
    refine iteT ⟨_, rfl, hl, _, rfl, .inl (SqL.of hh2), _, _, rfl, rfl, _, rfl, ?_⟩
    rw [decide_eq_true (show (1 : Int) < ((ys.length : Nat) : Int) by omega)]
    refine iteT ?_
    obtain ⟨c2, hc2, g2, eg2, hg2'⟩ := hF.get (List.getElem?_eq_getElem (show ys.length - 2 < ys.length by omega))
    obtain ⟨c1, hc1, g1, eg1, hg1'⟩ := hF.get (List.getElem?_eq_getElem (show ys.length - 1 < ys.length by omega))
    have ha2 : atI ys (-2) = some (.ref g2) := by rw [at_back2 (by omega), List.getElem?_eq_getElem (by omega), eg2]
    have ha1 : atI ys (-1) = some (.ref g1) := by rw [at_back1 (by omega), List.getElem?_eq_getElem (by omega), eg1]
    have l1 : c1.length ≤ 62 := by
      have := (List.sublist_flatten_of_mem (List.mem_of_getElem? hc1)).length_le
      omega
    have l2 : c2.length ≤ 62 := by
      have := (List.sublist_flatten_of_mem (List.mem_of_getElem? hc2)).length_le
      omega
    refine ⟨_, rfl, _, rfl, _, rfl, hl, _, rfl, SqL.of hh2, fun p1 hp1 => ?_⟩
    dsimp only
    have np1 := dr2.ne hp1
    have x1 := same_upd hp1 (o := .lst (cutV ys none (some (-2))))
    have e1 : (upd H2 p1 (.lst (cutV ys none (some (-2))))) p1 = some (.lst (cutV ys none (some (-2)))) := upd_same
    have dr3 := dr2.same x1
    have b3 := b02.trans (But.of (d := d) x1)
    revert e1 dr3 b3
    generalize hH3 : upd H2 p1 (.lst (cutV ys none (some (-2)))) = H3
    intro e1 dr3 b3
    have hh3 := b3 _ _ hhd hhH
    have g23 := b3 _ _ (hz_ne hg2') (hz_le _ _ hg2')
    have g13 := b3 _ _ (hz_ne hg1') (hz_le _ _ hg1')
    have e1 : H3 p1 = some (.lst (cutV ys none (some (-2)))) := e1
    refine ⟨_, rfl, _, rfl, hl, _, _, _, rfl, rfl, SqL.of hh3, ha2, _, rfl, _, rfl, hl, _, _, _, rfl, rfl, SqL.of hh3, ha1, ?_⟩
    refine ⟨g2, g1, _, _, rfl, rfl, g23, g13, Nat.le_trans (show _ ≤ 1000 by rw [List.length_map, List.length_map]; omega) (by decide), fun pc hpc => ⟨(by show 1 ≤ sizeLine; decide), fun p2 hp2 => ?_⟩⟩
    rw [← List.map_append] at hp2 ⊢
    have npc := dr3.ne hpc
    have xc := same_upd hpc (o := .lst ((c2 ++ c1).map V.int))
    have x2 := same_upd hp2 (o := .lst [.ref pc])
    have ic : Hz d (upd (upd H3 pc (.lst ((c2 ++ c1).map V.int))) p2 (.lst [.ref pc])) pc = some (.lst ((c2 ++ c1).map V.int)) := hz_get npc (x2 _ _ upd_same)
    have b4 := b3.trans (But.of (d := d) (xc.trans x2))
    refine ⟨p1, p2, _, _, rfl, rfl, (xc.trans x2) _ _ e1, upd_same, Nat.le_trans (show _ ≤ 1000 by have hc1 := cutV_length ys none (some (-2)); show _ + 1 ≤ 1000; omega) (by decide), fun p5 hp5 => ?_⟩
    refine fin _ p5 _ b4 ((dr3.same (xc.trans x2)).mono (by omega)) hp5 ((((G0.same (hz_same b4)).cut none (some (-2))).app (GrL.one (GItem.li ic (fun n h => by
      rcases List.mem_append.mp h with h | h
      · exact hcn c2 (List.mem_of_getElem? hc2) n h
      · exact hcn c1 (List.mem_of_getElem? hc1) n h)))).mono (by rw [List.length_append]; omega) (by rw [List.length_append]; omega)) ?_
    rw [List.length_append]
    have hc1 := cutV_length ys none (some (-2))
    show _ + 1 ≤ 130
    omega
  refine and_skip (U := fun Q => tTest _ _ _ Q) (fun hc Q hQ => ⟨_, rfl, hl, _, rfl, .inl (SqL.of hh2), _, _, rfl, rfl, _, rfl, ?_⟩) (iteF ?_)
  · have h31 : ¬ 1 < ys.length := fun h => h3 ⟨of_decide_eq_true hc, h⟩
    rw [decide_eq_false (show ¬ (1 : Int) < ((ys.length : Nat) : Int) by omega)]
    exact hQ
  refine ⟨_, rfl, rfl, _, rfl, ?_⟩
  rw [dec_int]
  by_cases h4 : way = 4
  · rw [decide_eq_true h4]
    refine iteT ?_
    refine ⟨_, rfl, _, rfl, _, rfl, hl, _, rfl, SqL.of hh2, fun p1 hp1 => ?_⟩
    dsimp only
    have z1 := But.new (d := d) hp1 (o := .lst (cutV ys none (some (k : Int))))
    have e1 : (upd H2 p1 (.lst (cutV ys none (some (k : Int))))) p1 = some (.lst (cutV ys none (some (k : Int)))) := upd_same
    have np1 := dr2.ne hp1
    have dr3 := dr2.upd np1 (o := .lst (cutV ys none (some (k : Int))))
    have b3 := b02.trans z1
    revert e1 dr3 b3
    generalize upd H2 p1 (.lst (cutV ys none (some (k : Int)))) = H3
    intro e1 dr3 b3
    refine ⟨_, rfl, _, rfl, _, rfl, _, rfl, d, nl, _, _, rfl, hnd, SqL.of (b3 _ _ hnd hnH), by simpa using hne, by rw [List.length_map]; exact hn1, dr3, by omega, fun Ha v hv ba dra => ?_⟩
    obtain ⟨u, hu, rfl⟩ := List.mem_map.mp hv
    refine ⟨d, u, _, rfl, (hnn u hu).1, (hnn u hu).2, dra, by omega, fun Hb o ho bb' drb' => ⟨(by show 1 ≤ sizeLine; decide), fun po hpo => ?_⟩⟩
    have npo := drb'.ne hpo
    have xo := same_upd hpo (o := .lst [o])
    have b3b := (b3.trans ba).trans bb'
    have hgb := xo _ _ (b3b _ _ ngd hgH)
    refine ⟨g, po, _, _, rfl, rfl, hgb, upd_same, Nat.le_trans (show _ ≤ 1000 by rw [List.length_map]; show _ + 1 ≤ 1000; omega) (by decide), fun pg hpg => ?_⟩
    have xg := same_upd hpg (o := .lst (c.map V.int ++ [o]))
    have npg := (drb'.same xo).ne hpg
    have ig : Hz d (upd (upd Hb po (.lst [o])) pg (.lst (c.map V.int ++ [o]))) pg = some (.lst (c.map V.int ++ [o])) := hz_get npg upd_same
    have e1b := (xo.trans xg) _ _ ((ba.trans bb') _ _ np1 e1)
    have drb := drb'.same (xo.trans xg)
    have bb := b3b.trans (But.of (d := d) (xo.trans xg))
    have ho' := ho.same (hz_same (But.of (d := d) (xo.trans xg)))
    revert ig e1b drb bb ho'
    generalize upd (upd Hb po (.lst [o])) pg (.lst (c.map V.int ++ [o])) = HB
    intro ig e1b drb bb ho'
    refine ⟨(by show 1 ≤ sizeLine; decide), fun p2 hp2 => ?_⟩
    have x2 := same_upd hp2 (o := .lst [V.ref pg])
    have e1' := x2 _ _ e1b
    have e2 : (upd HB p2 (.lst [V.ref pg])) p2 = some (.lst [V.ref pg]) := upd_same
    have dr4 := drb.same x2
    have b4 := bb.trans (But.of (d := d) x2)
    have gi0 : GrL K (Hz d HB) [V.ref pg] 70 3000 := (GrL.one (GItem.plus ig hNc ho')).mono (by omega ) (by omega )
    have gi := gi0.same (hz_same (But.of (d := d) x2))
    revert e1' e2 gi dr4 b4
    generalize upd HB p2 (.lst [V.ref pg]) = H4
    intro e1' e2 dr4 b4 gi
    refine ⟨p1, p2, _, _, rfl, rfl, e1', e2, Nat.le_trans (show _ ≤ 1000 by have hc1 := cutV_length ys none (some (k : Int)); show _ + 1 ≤ 1000; omega) (by decide), fun p3 hp3 => ?_⟩
    have n3 := dr4.ne hp3
    have z3 := But.new (d := d) hp3 (o := .lst (cutV ys none (some (k : Int)) ++ [V.ref pg]))
    have e3 : (upd H4 p3 (.lst (cutV ys none (some (k : Int)) ++ [V.ref pg]))) p3 = some (.lst (cutV ys none (some (k : Int)) ++ [V.ref pg])) := upd_same
    have dr5 := dr4.upd n3 (o := .lst (cutV ys none (some (k : Int)) ++ [V.ref pg]))
    have b5 := b4.trans z3
    have gi' := (gi).same (hz_same z3)
    revert e3 dr5 b5 gi'
    generalize upd H4 p3 (.lst (cutV ys none (some (k : Int)) ++ [V.ref pg])) = H5
    intro e3 dr5 b5 gi'
    refine ⟨_, rfl, _, rfl, _, _, rfl, rfl, _, rfl, nopart ⟨hl, _, rfl, SqL.of (b5 _ _ hhd hhH), fun p4 hp4 => ?_⟩⟩
    exact tl _ p3 _ _ b5 (dr5.mono (by omega)) e3 ((((G0.same (hz_same b5)).cut none (some (k : Int))).app gi').mono (by omega) (by omega)) (by have hc1 := cutV_length ys none (some (k : Int)); rw [List.length_append]; show _ + 1 ≤ 66; omega) p4 hp4
  rw [decide_eq_false h4]
  refine iteF ?_
  refine ⟨_, rfl, rfl, _, rfl, ?_⟩
  rw [dec_int]
  by_cases h5 : way = 5
  · rw [decide_eq_true h5]
    refine iteT ?_
    refine ⟨_, rfl, _, rfl, _, rfl, hl, _, rfl, SqL.of hh2, fun p1 hp1 => ?_⟩
    dsimp only
    have z1 := But.new (d := d) hp1 (o := .lst (cutV ys none (some (k : Int))))
    have e1 : (upd H2 p1 (.lst (cutV ys none (some (k : Int))))) p1 = some (.lst (cutV ys none (some (k : Int)))) := upd_same
    have np1 := dr2.ne hp1
    have dr3 := dr2.upd np1 (o := .lst (cutV ys none (some (k : Int))))
    have b3 := b02.trans z1
    revert e1 dr3 b3
    generalize upd H2 p1 (.lst (cutV ys none (some (k : Int)))) = H3
    intro e1 dr3 b3
    obtain ⟨ca, ea, la, ha⟩ := cut_ints c (some 1) none
    have hg3 := b3 _ _ ngd hgH
    refine ⟨_, rfl, _, rfl, nopart ⟨g, _, rfl, SqL.of hg3, fun pa hpa => ?_⟩⟩
    dsimp only
    rw [ea]
    have xa := same_upd hpa (o := .lst (ca.map V.int))
    have na := dr3.ne hpa
    have ig : Hz d (upd H3 pa (.lst (ca.map V.int))) pa = some (.lst (ca.map V.int)) := hz_get na upd_same
    have e1b := xa _ _ e1
    have drb := dr3.same xa
    have bb := b3.trans (But.of (d := d) xa)
    revert ig e1b drb bb
    generalize upd H3 pa (.lst (ca.map V.int)) = HB
    intro ig e1b drb bb
    refine ⟨(by show 1 ≤ sizeLine; decide), fun p2 hp2 => ?_⟩
    have x2 := same_upd hp2 (o := .lst [V.ref pa])
    have e1' := x2 _ _ e1b
    have e2 : (upd HB p2 (.lst [V.ref pa])) p2 = some (.lst [V.ref pa]) := upd_same
    have dr4 := drb.same x2
    have b4 := bb.trans (But.of (d := d) x2)
    have gi0 : GrL K (Hz d HB) [V.ref pa] 70 3000 := (GrL.one (GItem.li ig (fun n h => hNc n (ha n h)))).mono (by omega ) (by omega )
    have gi := gi0.same (hz_same (But.of (d := d) x2))
    revert e1' e2 gi dr4 b4
    generalize upd HB p2 (.lst [V.ref pa]) = H4
    intro e1' e2 dr4 b4 gi
    refine ⟨p1, p2, _, _, rfl, rfl, e1', e2, Nat.le_trans (show _ ≤ 1000 by have hc1 := cutV_length ys none (some (k : Int)); show _ + 1 ≤ 1000; omega) (by decide), fun p3 hp3 => ?_⟩
    have n3 := dr4.ne hp3
    have z3 := But.new (d := d) hp3 (o := .lst (cutV ys none (some (k : Int)) ++ [V.ref pa]))
    have e3 : (upd H4 p3 (.lst (cutV ys none (some (k : Int)) ++ [V.ref pa]))) p3 = some (.lst (cutV ys none (some (k : Int)) ++ [V.ref pa])) := upd_same
    have dr5 := dr4.upd n3 (o := .lst (cutV ys none (some (k : Int)) ++ [V.ref pa]))
    have b5 := b4.trans z3
    have gi' := (gi).same (hz_same z3)
    revert e3 dr5 b5 gi'
    generalize upd H4 p3 (.lst (cutV ys none (some (k : Int)) ++ [V.ref pa])) = H5
    intro e3 dr5 b5 gi'
    refine ⟨_, rfl, _, rfl, _, _, rfl, rfl, _, rfl, nopart ⟨hl, _, rfl, SqL.of (b5 _ _ hhd hhH), fun p4 hp4 => ?_⟩⟩
    exact tl _ p3 _ _ b5 (dr5.mono (by omega)) e3 ((((G0.same (hz_same b5)).cut none (some (k : Int))).app gi').mono (by omega) (by omega)) (by have hc1 := cutV_length ys none (some (k : Int)); rw [List.length_append]; show _ + 1 ≤ 66; omega) p4 hp4
  rw [decide_eq_false h5]
  refine iteF ?_
  refine ⟨_, rfl, rfl, _, rfl, ?_⟩
  rw [dec_int]
  by_cases h6 : way = 6
  · rw [decide_eq_true h6]
    refine iteT ?_
    refine ⟨_, rfl, _, rfl, _, rfl, hl, _, rfl, SqL.of hh2, fun p1 hp1 => ?_⟩
    dsimp only
    have z1 := But.new (d := d) hp1 (o := .lst (cutV ys none (some (k : Int))))
    have e1 : (upd H2 p1 (.lst (cutV ys none (some (k : Int))))) p1 = some (.lst (cutV ys none (some (k : Int)))) := upd_same
    have np1 := dr2.ne hp1
    have dr3 := dr2.upd np1 (o := .lst (cutV ys none (some (k : Int))))
    have b3 := b02.trans z1
    revert e1 dr3 b3
    generalize upd H2 p1 (.lst (cutV ys none (some (k : Int)))) = H3
    intro e1 dr3 b3
    have hg3 := b3 _ _ ngd hgH
    refine ⟨_, rfl, _, rfl, g, _, rfl, .inl ⟨SqL.of hg3, fun pt hpt => ?_⟩⟩
    have npt := dr3.ne hpt
    have xt := same_upd hpt (o := .tup (c.map V.int))
    refine ⟨_, rfl, g, _, rfl, SqL.of (xt _ _ hg3), fun pr hpr => ⟨(by show 4 ≤ sizeLine; decide), fun pq hpq => ?_⟩⟩
    have npr := (dr3.same xt).ne hpr
    have xr := same_upd hpr (o := .lst (c.map V.int).reverse)
    have npq := ((dr3.same xt).same xr).ne hpq
    have xq := same_upd hpq (o := .lst [V.ref pt, .non, .str "a", .ref pr])
    have s3 := (xt.trans xr).trans xq
    have it := hz_get npt ((xr.trans xq) _ _ (show (upd H3 pt (.tup (c.map V.int))) pt = some (.tup (c.map V.int)) from upd_same))
    have ir := hz_get npr (xq _ _ (show (upd (upd H3 pt (.tup (c.map V.int))) pr (.lst (c.map V.int).reverse)) pr = some (.lst (c.map V.int).reverse) from upd_same))
    have eq := (show (upd (upd (upd H3 pt (.tup (c.map V.int))) pr (.lst (c.map V.int).reverse)) pq (.lst [V.ref pt, .non, .str "a", .ref pr])) pq = some (.lst [V.ref pt, .non, .str "a", .ref pr]) from upd_same)
    have e1c := s3 _ _ e1
    have dr4' := dr3.same s3
    have b4' := b3.trans (But.of (d := d) s3)
    revert it ir eq e1c dr4' b4'
    generalize upd (upd (upd H3 pt (.tup (c.map V.int))) pr (.lst (c.map V.int).reverse)) pq (.lst [V.ref pt, .non, .str "a", .ref pr]) = HA
    intro it ir eq e1c dr4' b4'
    refine ⟨d, pq, _, _, rfl, npq, SqL.of eq, by simp, (by show 4 ≤ 1000; decide), dr4', by omega, fun HB v hv bB drb => ?_⟩
    have bb := b4'.trans bB
    have e1b := bB _ _ np1 e1c
    have gv : GrL K (Hz d HB) [v] 70 3000 := by
      simp only [List.mem_cons, List.not_mem_nil, or_false] at hv
      rcases hv with rfl | rfl | rfl | rfl
      · exact (GrL.one ((GItem.tup it hNc).same (hz_same bB))).mono (by omega) (by omega)
      · exact (GrL.one GItem.non).mono (by omega) (by omega)
      · exact (GrL.one (GItem.str (s := "a") (by decide))).mono (by omega) (by omega)
      · rw [← List.map_reverse] at ir
        exact (GrL.one ((GItem.li ir (fun n h => hNc n (List.mem_reverse.mp h))).same (hz_same bB))).mono (by rw [List.length_reverse]; omega) (by rw [List.length_reverse]; omega)
    refine ⟨(by show 1 ≤ sizeLine; decide), fun p2 hp2 => ?_⟩
    have x2 := same_upd hp2 (o := .lst [v])
    have e1' := x2 _ _ e1b
    have e2 : (upd HB p2 (.lst [v])) p2 = some (.lst [v]) := upd_same
    have dr4 := drb.same x2
    have b4 := bb.trans (But.of (d := d) x2)
    have gi := gv.same (hz_same (But.of (d := d) x2))
    revert e1' e2 gi dr4 b4
    generalize upd HB p2 (.lst [v]) = H4
    intro e1' e2 dr4 b4 gi
    refine ⟨p1, p2, _, _, rfl, rfl, e1', e2, Nat.le_trans (show _ ≤ 1000 by have hc1 := cutV_length ys none (some (k : Int)); show _ + 1 ≤ 1000; omega) (by decide), fun p3 hp3 => ?_⟩
    have n3 := dr4.ne hp3
    have z3 := But.new (d := d) hp3 (o := .lst (cutV ys none (some (k : Int)) ++ [v]))
    have e3 : (upd H4 p3 (.lst (cutV ys none (some (k : Int)) ++ [v]))) p3 = some (.lst (cutV ys none (some (k : Int)) ++ [v])) := upd_same
    have dr5 := dr4.upd n3 (o := .lst (cutV ys none (some (k : Int)) ++ [v]))
    have b5 := b4.trans z3
    have gi' := (gi).same (hz_same z3)
    revert e3 dr5 b5 gi'
    generalize upd H4 p3 (.lst (cutV ys none (some (k : Int)) ++ [v])) = H5
    intro e3 dr5 b5 gi'
    refine ⟨_, rfl, _, rfl, _, _, rfl, rfl, _, rfl, nopart ⟨hl, _, rfl, SqL.of (b5 _ _ hhd hhH), fun p4 hp4 => ?_⟩⟩
    exact tl _ p3 _ _ b5 (dr5.mono (by omega)) e3 ((((G0.same (hz_same b5)).cut none (some (k : Int))).app gi').mono (by omega) (by omega)) (by have hc1 := cutV_length ys none (some (k : Int)); rw [List.length_append]; show _ + 1 ≤ 66; omega) p4 hp4
  rw [decide_eq_false h6]
  refine iteF ?_
  refine ⟨_, rfl, rfl, _, rfl, ?_⟩
  rw [dec_int]
  by_cases h7 : way = 7
  · rw [decide_eq_true h7]
    refine iteT ?_
    refine ⟨_, rfl, hl, _, rfl, SqL.of hh2, fun p5 hp5 => ?_⟩
    exact fin _ p5 _ b02 (dr2.mono (by omega)) hp5 ((G0.same (hz_same b02)).rev.mono (by decide) (by decide)) (by rw [List.length_reverse]; omega)
  rw [decide_eq_false h7]
  refine iteF ?_
  refine ⟨_, rfl, hl, rfl, ⟨_, SqL.of hh2⟩, fun D hD => ?_⟩
  have nD := dr2.ne hD
  refine lc_genD (K := K) hD (SqL.of hh2) (by omega) (fun j v H' => ∃ (c' : List Int) (p : Addr) (c0 : List Int), (v = .ref p ∧ p ≠ D ∧ p ≠ d) ∧ H' p = some (.lst (c'.map V.int)) ∧ cs[j]? = some c0 ∧ c'.length ≤ c0.length ∧ ∀ n ∈ c', n ∈ c0) (fun j v H1 H2 bt ⟨c', p, c0, ⟨e1, e2, e3⟩, e4, e5⟩ => ⟨c', p, c0, ⟨e1, e2, e3⟩, bt _ _ e2 e4, e5⟩) (fun j x H3 R C hx s3 ⟨acc3, hac⟩ hR => ?_) fun H3 acc s3 eD lD gD => ?_
  · obtain ⟨c0, hc0, g0, rfl, hg0⟩ := hF.get hx
    have dr3 := dr2.same s3
    have hg3 := s3 _ _ (b02 _ _ (hz_ne hg0) (hz_le _ _ hg0))
    obtain ⟨ca, ea, la, ha⟩ := cut_ints c0 none (some 1)
    refine ⟨rfl, yesT ⟨_, rfl, _, rfl, g0, _, rfl, SqL.of hg3, fun pa hpa => ?_⟩⟩
    rw [ea]
    exact hR _ _ (same_upd hpa) ⟨ca, pa, c0, ⟨rfl, (ne_of_none hac hpa).symm, dr3.ne hpa⟩, upd_same, hc0, la, ha⟩
  obtain ⟨ds1, f1, l11, l12, l13⟩ := li_list (H := Hz d H3) (lD.trans hF.len) fun j v hv => by
    obtain ⟨c', p, c0, ⟨e1, e2, e3⟩, e4, e5⟩ := gD j v hv
    exact ⟨c', p, c0, e1, hz_get e3 e4, e5⟩
  have dr3 := dr2.same s3
  have b03 := b02.trans (But.of (d := d) s3)
  have hh3 := s3 _ _ hh2
  refine ⟨_, rfl, hl, rfl, ⟨_, SqL.of hh3⟩, fun E hE => ?_⟩
  have nE := dr3.ne hE
  refine lc_genD (K := K) hE (SqL.of hh3) (by omega) (fun j v H' => ∃ (c' : List Int) (p : Addr) (c0 : List Int), (v = .ref p ∧ p ≠ E ∧ p ≠ d) ∧ H' p = some (.lst (c'.map V.int)) ∧ cs[j]? = some c0 ∧ c'.length ≤ c0.length ∧ ∀ n ∈ c', n ∈ c0) (fun j v H1 H2 bt ⟨c', p, c0, ⟨e1, e2, e3⟩, e4, e5⟩ => ⟨c', p, c0, ⟨e1, e2, e3⟩, bt _ _ e2 e4, e5⟩) (fun j x H4 R C hx s4 ⟨acc3, hac⟩ hR => ?_) fun H4 acc2 s4 eE lE gE => ?_
  · obtain ⟨c0, hc0, g0, rfl, hg0⟩ := hF.get hx
    have dr4 := dr3.same s4
    have hg3 := s4 _ _ (b03 _ _ (hz_ne hg0) (hz_le _ _ hg0))
    obtain ⟨ca, ea, la, ha⟩ := cut_ints c0 (some 1) none
    refine ⟨rfl, yesT ⟨_, rfl, _, rfl, nopart ⟨g0, _, rfl, SqL.of hg3, fun pa hpa => ?_⟩⟩⟩
    rw [ea]
    exact hR _ _ (same_upd hpa) ⟨ca, pa, c0, ⟨rfl, (ne_of_none hac hpa).symm, dr4.ne hpa⟩, upd_same, hc0, la, ha⟩
  obtain ⟨ds2, f2, l21, l22, l23⟩ := li_list (H := Hz d H4) (lE.trans hF.len) fun j v hv => by
    obtain ⟨c', p, c0, ⟨e1, e2, e3⟩, e4, e5⟩ := gE j v hv
    exact ⟨c', p, c0, e1, hz_get e3 e4, e5⟩
  have b04 := b03.trans (But.of (d := d) s4)
  have g1 := (GrL.of_li (K := K) f1 (fun c hc n hn => by
    obtain ⟨c0, h1, h2⟩ := l13 c hc n hn
    exact hcn c0 h1 n h2)).same (hz_same (But.of (d := d) s4))
  have g2 := GrL.of_li (K := K) f2 (fun c hc n hn => by
    obtain ⟨c0, h1, h2⟩ := l23 c hc n hn
    exact hcn c0 h1 n h2)
  refine ⟨D, E, _, _, rfl, rfl, s4 _ _ eD, eE, Nat.le_trans (show _ ≤ 1000 by omega) (by decide), fun p5 hp5 => ?_⟩
  refine fin H4 p5 _ b04 ((dr3.same s4).mono (by omega)) hp5 ((g1.app g2).mono (by omega) (by omega)) ?_
  rw [List.length_append]
  omega
end
end KB
namespace KB
open PySem PySem.Spec PyProof.Rows L2 KA

section
variable {P : Program} {w : World} {K : PySem.W.Frag} {mg : Str → Option Value} {base : Heap}
theorem cls_flat (m : Int) (rs : List Rw) : (clsOf m rs).flatten.Perm (rs.map Rw.num) := by
  unfold clsOf
  refine (srtM_perm _).flatten.trans ?_
  rw [← List.map_flatten, KMat.ch_fl]
  exact (srtC_perm rs).map _
theorem cls_len (m : Int) (rs : List Rw) : (clsOf m rs).length ≤ rs.length := by
  unfold clsOf
  rw [(srtM_perm _).length_eq, List.length_map]
  have h3 := (ch_len (P := PB m) (srtC rs)).1
  rwa [(srtC_perm rs).length_eq] at h3
theorem gp_len {α : Type} {P : α → α → Bool} : ∀ s : List α, (KMat.gp P s).length ≤ s.length
  | [] => Nat.le_refl _
  | [_] => Nat.zero_le _
  | x :: y :: t => by
    by_cases c : P x y = true
    · rw [KMat.gp_yes c, List.length_cons, List.length_cons, List.length_cons]
      have := gp_len (P := P) t
      omega
    · rw [KMat.gp_no c]
      have := gp_len (P := P) (y :: t)
      rw [List.length_cons]
      omega
theorem pairs_few (m : Int) (rs : List Rw) : (pairsOf m rs).length ≤ rs.length := by
  unfold pairsOf
  rw [List.length_map]
  have := gp_len (P := PB m) (srtC rs)
  rw [(srtC_perm rs).length_eq] at this
  exact this
theorem prv_hz {d : Addr} {n : Nat} {H : Hp} {ys : List V} {zs : List (Int × Int)} (dr : Dr PM d n H) (h : F2 (PrV H) ys zs) : F2 (PrV (Hz d H)) ys zs := h.mono fun v z ⟨t, e1, e2⟩ => ⟨t, e1, hz_get (fun e => by
  rw [e] at e2
  obtain ⟨_, _, _, h, _⟩ := dr
  rw [h] at e2
  cases e2) e2⟩
theorem li_hz {d : Addr} {H : Hp} : ∀ {ys : List V} {cs : List (List Int)}, F2 (LI H) ys cs → (∀ y ∈ ys, ∃ a, y = .ref a ∧ a ≠ d) → F2 (LI (Hz d H)) ys cs
  | _, _, .nil, _ => .nil
  | _, _, .cons ⟨a, e1, e2⟩ t, k => .cons ⟨a, e1, hz_get (by
      obtain ⟨a', h1, h2⟩ := k _ (List.mem_cons_self ..)
      rw [e1] at h1
      cases h1
      exact h2) e2⟩ (li_hz t fun y hy => k y (List.mem_cons_of_mem _ hy))
theorem okps_nums {m : Int} {rs : List Rw} {zs : List (Int × Int)} (hb : ∀ r ∈ rs, 1 ≤ r.num ∧ r.num ≤ 1000000000) (h : OkPs m rs zs) : Nums zs := fun z hz => by
  obtain ⟨_, r, r', hr, hr', e1, e2, _⟩ := h.1 z hz
  rw [← e1, ← e2]
  exact ⟨hb r hr, hb r' hr'⟩
/-- groups of numbers of the beads -/
structure Grp (rs : List Rw) (cs : List (List Int)) : Prop where
  nc : ∀ c ∈ cs, NumC c
  le : cs.length ≤ 62
  ne : cs ≠ []
  fl : cs.flatten.length ≤ 62
theorem nums_c {rs : List Rw} {c : List Int} (hb : ∀ r ∈ rs, 1 ≤ r.num ∧ r.num ≤ 1000000000) (h : ∀ n ∈ c, n ∈ rs.map Rw.num) : NumC c := fun n hn => by
  obtain ⟨r, hr, rfl⟩ := List.mem_map.mp (h n hn)
  exact hb r hr
def spBegun (K : PySem.W.Frag) (C : Addr) : Sp := fun vs H Q _ => ∃ (d b : Addr) (xs : List V) (rs : List Rw) (m : Int) (n : Nat), vs = [.ref d, .ref b, .int m] ∧ H b = some (.lst xs) ∧ b ≠ d ∧ BdL C H xs rs ∧ rs.length ≤ 60 ∧ rs ≠ [] ∧ (rs.map Rw.num).Nodup ∧ (∀ r ∈ rs, 1 ≤ r.num ∧ r.num ≤ 1000000000) ∧ Dr PM d n H ∧ n ≤ 90000 ∧
  ∀ (H' : Hp) (t pl hl : Addr) (ys gs : List V) (zs : List (Int × Int)) (cs : List (List Int)), Hz d H' t = some (.tup [.ref pl, .ref hl]) → Hz d H' pl = some (.lst ys) → F2 (PrV (Hz d H')) ys zs → Nums zs → zs.length ≤ 62 → Hz d H' hl = some (.lst gs) → F2 (LI (Hz d H')) gs cs → Grp rs cs → But d H H' → Dr PM d (n + 10) H' → Q (.ref t) H'
theorem ok_begun (T : Tx K mg) : FnOk P w K mg base CX0 11 T.A_begun T.fd_begun ["_law_source", "_law_beads_here", "_law_wide_by"] (spBegun K T.C_Bead) := by
  refine T.F_begun.ok sc_begun (fun vs H Q E h => ?_) (fun cdv A outer s H vs Q E hr h => ?_)
  · obtain ⟨d, b, xs, rs, m, n, rfl, hb, hbd, hB, hlen, hne, hu, hnb, dr, hn, q⟩ := h
    rfl
  obtain ⟨d, b, xs, rs, m, n, rfl, hb, hbd, hB, hlen, hne, hu, hnb, dr, hn, q⟩ := h
  refine ⟨_, (pss_cons (ps_set (i := 3) sc_begun.nd rfl (Or.inl rfl) (pe_call (ok_most_pairs T) (hr.mono (by decide)) (by rfl) T.g_most_pairs T.F_most_pairs.kp T.b_most_pairs .nil pass0 (pa_cons (pv 1) (pa_cons (pv 2) pa_nil))))
      (pss_cons (ps_set (i := 4) sc_begun.nd rfl (Or.inl rfl) (pe_call (ok_clusters T) (hr.mono (by decide)) (by rfl) T.g_clusters T.F_clusters.kp T.b_clusters .nil pass0 (pa_cons (pv 1) (pa_cons (pv 2) pa_nil))))
      (pss_cons (ps_set (i := 5) sc_begun.nd rfl (Or.inl rfl) (pe_call (ok_draw T) (hr.mono (by decide)) (by rfl) T.g_draw T.F_draw.kp T.b_draw .nil pass0 (pa_cons (pv 0) (pa_cons pe_int pa_nil))))
      (pss_cons (ps_if (pt_cmpR op_eq (pv 5) pe_int (nomark _)) (pss_one (ps_set (i := 4) sc_begun.nd rfl (Or.inl rfl) (pe_lst (pa_cons (pe_lc (own := [("_law_bead", 6)]) (g := gName 6) (tt := tYes) rfl sc_begun.nd (pi_list (pv 1)) (blkOk_by (N := ["_law_source", "_law_beads_here", "_law_wide_by", "_law_pairs", "_law_heaps", "_law_way", "_law_bead"]) (sc := defScope s_begun) (by decide +kernel)) (fun _ _ _ _ _ => (pg_name (i := 6) sc_begun.nd rfl (Or.inl rfl))) (fun _ _ _ _ _ => pts_nil) (fun _ _ _ _ _ => (pe_fldK (K' := K) rfl (pv 6) rfl))) pa_nil)))) pss_nil)
      (pss_cons (ps_if (pt_cmpR op_eq (pv 5) pe_int (nomark _)) (pss_one (ps_setLc (i := 4) (own := [("_law_bead", 6)]) (g := gName 6) (tt := tYes) rfl sc_begun.nd rfl rfl (sw_true rfl rfl rfl (by decide +kernel)) (pi_list (pv 1)) (blkOk_by (N := ["_law_source", "_law_beads_here", "_law_wide_by", "_law_pairs", "_law_heaps", "_law_way", "_law_bead"]) (sc := defScope s_begun) (by decide +kernel)) (fun _ _ _ _ _ => (pg_name (i := 6) sc_begun.nd rfl (Or.inl rfl))) (fun _ _ _ _ _ => pts_nil) (fun _ _ _ _ _ => (pe_lst (pa_cons (pe_fldK (K' := K) rfl (pv 6) rfl) pa_nil))))) pss_nil)
      (pss_cons (ps_if (pt_cmpR op_eq (pv 5) pe_int (nomark _)) (pss_one (ps_set (i := 3) sc_begun.nd rfl (Or.inl rfl) (pe_slice sl_list (pv 3) (po_some (pe_call (ok_draw T) (hr.mono (by decide)) (by rfl) T.g_draw T.F_draw.kp T.b_draw .nil pass0 (pa_cons (pv 0) (pa_cons pe_int pa_nil)))) po_none))) pss_nil)
      (pss_one (ps_ret (pe_tup (pa_cons (pv 3) (pa_cons (pv 4) pa_nil))))))))))), ?_⟩
  refine ⟨_, rfl, _, rfl, b, xs, rs, m, rfl, hb, hB, by omega, fun H1 pl ys zs s1 npl epl hP hzp hzs => ?_⟩
  refine ⟨_, rfl, _, rfl, b, xs, rs, m, rfl, s1 _ _ hb, hB.nl (NL.of s1), by omega, fun H2 hl gs cs s2 nhl ehl hG hc hfr => ?_⟩
  have dr1 := dr.same s1
  have dr2 := dr1.same s2
  have npd : pl ≠ d := dr.ne npl
  have nhd : hl ≠ d := dr1.ne nhl
  have hNz : Nums zs := okps_nums hnb (pairs_ok hu hzp)
  have hzl : zs.length ≤ 60 := by
    have := pairs_few m rs
    rw [hzp.length_eq]
    omega
  have b02 := But.of (d := d) (s1.trans s2)
  have P2 : F2 (PrV (Hz d H2)) ys zs := prv_hz dr2 (hP.mono fun _ _ h => h.nl (NL.of s2))
  have L2' : F2 (LI (Hz d H2)) gs cs := li_hz hG fun y hy => by
    obtain ⟨a, e1, e2, _⟩ := hfr y hy
    exact ⟨a, e1, dr1.ne e2⟩
  have hcp := cls_flat m rs
  rw [← hc] at hcp
  have hfl : cs.flatten.length = rs.length := by
    rw [hcp.length_eq, List.length_map]
  have hr0 : 0 < rs.length := List.length_pos_iff.mpr hne
  have hxl := hB.1
  have G2 : Grp rs cs := ⟨fun c hcc => nums_c hnb fun n hn => hcp.mem_iff.mp (List.mem_flatten.mpr ⟨c, hcc, hn⟩), by rw [hc]; have := cls_len m rs; omega, fun e => by rw [e] at hfl; simp at hfl; omega, by omega⟩
  refine ⟨_, rfl, d, 6, n, rfl, by decide, log_tiny (by decide) (by decide), dr2, by omega, fun H3 way w0 w1 b3 dr3 => ?_⟩
  have b03 := b02.trans b3
  have hpl3 : Hz d H3 pl = some (.lst ys) := hz_get npd (b3 _ _ npd (s2 _ _ epl))
  have P3 := P2.mono (fun _ _ ⟨t, e1, e2⟩ => ⟨t, e1, hz_same b3 _ _ e2⟩ : ∀ v z, PrV (Hz d H2) v z → PrV (Hz d H3) v z)
  have hb3 := b03 _ _ hbd hb
  have hB3 : BdL T.C_Bead H3 xs rs := hB.nl (dr_nl dr b03)
  refine ⟨_, rfl, rfl, _, rfl, ?_⟩
  rw [dec_int]
  -- whatever the groups are: the end
  have stp : ∀ {H4 : Hp} (hl' : Addr) (gs' : List V) (cs' : List (List Int)), But d H3 H4 → Hz d H4 hl' = some (.lst gs') → F2 (LI (Hz d H4)) gs' cs' → Grp rs cs' → Dr PM d (n + 3) H4 → ∀ t, H4 t = none → ∀ pl' ys' zs', Hz d H4 pl' = some (.lst ys') → F2 (PrV (Hz d H4)) ys' zs' → Nums zs' → zs'.length ≤ 62 → Q (.ref t) (upd H4 t (.tup [.ref pl', .ref hl'])) := fun {H4} hl' gs' cs' b4 e1 e2 e3 dr4 t ht pl' ys' zs' e4 e5 e6 e7 => by
    have nt := dr4.ne ht
    have xt := But.new (d := d) ht (o := .tup [.ref pl', .ref hl'])
    have sz := hz_same xt
    exact q _ t pl' hl' ys' gs' zs' cs' (hz_get nt upd_same) (sz _ _ e4) (e5.mono fun _ _ ⟨t, k1, k2⟩ => ⟨t, k1, sz _ _ k2⟩) e6 e7 (sz _ _ e1) (e2.mono fun _ _ ⟨t, k1, k2⟩ => ⟨t, k1, sz _ _ k2⟩) e3 ((b03.trans b4).trans xt) ((dr4.upd nt).mono (by omega))
  have hl3 : Hz d H3 hl = some (.lst gs) := hz_get nhd (b3 _ _ nhd ehl)
  have L3 := L2'.mono (fun _ _ ⟨t, e1, e2⟩ => ⟨t, e1, hz_same b3 _ _ e2⟩ : ∀ v z, LI (Hz d H2) v z → LI (Hz d H3) v z)
  have no : ∀ {a c : Int}, a ≠ c → decide (V.int a = V.int c) = false := fun h => by rw [dec_int, decide_eq_false h]
  by_cases h0 : way = 0
  · subst h0
    refine iteT ⟨_, rfl, b, rfl, ⟨_, SqL.of hb3⟩, fun D hD => lc_gen (K := K) hD (SqL.of hb3) (by omega) (fun j v _ => ∃ r, rs[j]? = some r ∧ v = .int r.num) (fun _ _ _ _ _ h => h) (fun j x H4 R C hx s4 hR => ?_) fun H4 acc s4 eD lD gD => ?_⟩
    · have hi : j < xs.length := (List.getElem?_eq_some_iff.mp hx).1
      have hir : rs[j]? = some rs[j] := List.getElem?_eq_getElem (by omega)
      obtain ⟨p, h1, dp, hp⟩ := hB3.2 j _ hir
      rw [h1] at hx
      cases hx
      refine ⟨rfl, yesT ⟨_, rfl, p, _, dp, _, _, rfl, s4 _ _ hp, T.cl_Bead, T.n_Bead_number, bf_number _, ?_⟩⟩
      exact hR _ _ (Same.refl _) ⟨_, hir, rfl⟩
    have ea : acc = (rs.map Rw.num).map V.int := by
      rw [List.map_map]
      refine List.ext_getElem? fun j => ?_
      rw [List.getElem?_map]
      cases e : acc[j]? with
      | none =>
        have := List.getElem?_eq_none_iff.mp e
        rw [List.getElem?_eq_none (by omega)]
        rfl
      | some v =>
        obtain ⟨r, k1, k2⟩ := gD j v e
        rw [k1, k2]
        rfl
    have nD := dr3.ne hD
    have dr4 := dr3.same s4
    refine ⟨(by show 1 ≤ sizeLine; decide), fun l1 hl1 => ?_⟩
    have x1 := same_upd hl1 (o := .lst [.ref D])
    have n1 := dr4.ne hl1
    have eD' : Hz d (upd H4 l1 (.lst [.ref D])) D = some (.lst ((rs.map Rw.num).map V.int)) := hz_get nD (x1 _ _ (by rw [← ea]; exact eD))
    have b35 := But.of (d := d) (s4.trans x1)
    refine ⟨_, rfl, rfl, _, rfl, ?_⟩
    rw [no (by decide)]
    refine iteF ⟨_, rfl, rfl, _, rfl, ?_⟩
    rw [no (by decide)]
    refine iteF ⟨_, rfl, _, rfl, (by show 2 ≤ sizeLine; decide), fun t ht => ?_⟩
    exact stp l1 [.ref D] [rs.map Rw.num] b35 (hz_get n1 upd_same) (.cons ⟨D, rfl, eD'⟩ .nil) ⟨fun c hc => by
      rw [List.mem_singleton.mp hc]
      exact nums_c hnb fun n hn => hn, by simp, by simp, by simp; omega⟩ (((dr3.same s4).same x1).mono (by omega)) t ht pl ys zs (hz_same b35 _ _ hpl3) (P3.mono fun _ _ ⟨t, k1, k2⟩ => ⟨t, k1, hz_same b35 _ _ k2⟩) hNz (by omega)
  rw [decide_eq_false h0]
  refine iteF ⟨_, rfl, rfl, _, rfl, ?_⟩
  rw [dec_int]
  by_cases h1 : way = 1
  · subst h1
    refine iteT ⟨_, rfl, b, rfl, ⟨_, SqL.of hb3⟩, fun D hD => lc_genD (K := K) hD (SqL.of hb3) (by omega) (fun j v H' => ∃ r p, rs[j]? = some r ∧ (v = .ref p ∧ p ≠ D ∧ p ≠ d) ∧ H' p = some (.lst [.int r.num])) (fun j v H1 H2 bt ⟨r, p, e0, ⟨e1, e2, e3⟩, e4⟩ => ⟨r, p, e0, ⟨e1, e2, e3⟩, bt _ _ e2 e4⟩) (fun j x H4 R C hx s4 ⟨acc3, hac⟩ hR => ?_) fun H4 acc s4 eD lD gD => ?_⟩
    · have hi : j < xs.length := (List.getElem?_eq_some_iff.mp hx).1
      have hir : rs[j]? = some rs[j] := List.getElem?_eq_getElem (by omega)
      obtain ⟨p, h1, dp, hp⟩ := hB3.2 j _ hir
      rw [h1] at hx
      cases hx
      refine ⟨rfl, yesT ⟨_, rfl, p, _, dp, _, _, rfl, s4 _ _ hp, T.cl_Bead, T.n_Bead_number, bf_number _, (by show 1 ≤ sizeLine; decide), fun pa hpa => ?_⟩⟩
      exact hR _ _ (same_upd hpa) ⟨_, pa, hir, ⟨rfl, (ne_of_none hac hpa).symm, (dr3.same s4).ne hpa⟩, upd_same⟩
    have nD := dr3.ne hD
    have dr4 := dr3.same s4
    obtain ⟨ds1, f1, l11, l12, l13⟩ := li_list (H := Hz d H4) (cs := rs.map fun r => [r.num]) (lD.trans (by rw [List.length_map]; exact hxl)) fun j v hv => by
      obtain ⟨r, p, e0, ⟨e1, e2, e3⟩, e4⟩ := gD j v hv
      exact ⟨[r.num], p, [r.num], e1, hz_get e3 e4, by rw [List.getElem?_map, e0]; rfl, Nat.le_refl _, fun n hn => hn⟩
    have l1f : (rs.map fun r => [r.num]).flatten.length = rs.length := by
      have : ∀ l : List Rw, (l.map fun r => [r.num]).flatten.length = l.length := fun l => by
        induction l with
        | nil => rfl
        | cons r l ih => rw [List.map_cons, List.flatten_cons, List.length_append, ih]; show 1 + l.length = l.length + 1; omega
      exact this rs
    rw [List.length_map] at l12
    have b34 := But.of (d := d) s4
    refine ⟨_, rfl, rfl, _, rfl, ?_⟩
    rw [no (by decide)]
    refine iteF ⟨_, rfl, _, rfl, (by show 2 ≤ sizeLine; decide), fun t ht => ?_⟩
    exact stp D acc ds1 b34 (hz_get nD eD) f1 ⟨fun c hc n hn => by
      obtain ⟨c0, k1, k2⟩ := l13 c hc n hn
      obtain ⟨r, hr, rfl⟩ := List.mem_map.mp k1
      rw [List.mem_singleton.mp k2]
      exact hnb r hr, by omega, fun e => by rw [e] at l12; simp at l12; omega, by omega⟩ (dr4.mono (by omega)) t ht pl ys zs (hz_same b34 _ _ hpl3) (P3.mono fun _ _ ⟨t, k1, k2⟩ => ⟨t, k1, hz_same b34 _ _ k2⟩) hNz (by omega)
  rw [decide_eq_false h1]
  refine iteF ⟨_, rfl, rfl, _, rfl, ?_⟩
  rw [dec_int]
  by_cases h2 : way = 2
  · subst h2
    refine iteT ⟨_, rfl, _, rfl, d, 3, _, rfl, by decide, log_tiny (by decide) (by decide), dr3, by omega, fun H4 c c0 c1 b4 dr4 => ?_⟩
    have hpl4 := hz_le _ _ (hz_same b4 _ _ hpl3)
    obtain ⟨k, rfl⟩ : ∃ k : Nat, c = (k : Int) := ⟨c.toNat, by omega⟩
    refine ⟨_, rfl, nopart ⟨pl, _, rfl, SqL.of hpl4, fun p4 hp4 => ?_⟩⟩
    dsimp only
    rw [cut_from]
    have n4 := dr4.ne hp4
    have x4 := But.new (d := d) hp4 (o := .lst (ys.drop k))
    have b35 := b4.trans x4
    refine ⟨_, rfl, _, rfl, (by show 2 ≤ sizeLine; decide), fun t ht => ?_⟩
    exact stp hl gs cs b35 (hz_same b35 _ _ hl3) (L3.mono fun _ _ ⟨t, k1, k2⟩ => ⟨t, k1, hz_same b35 _ _ k2⟩) G2 ((dr4.upd n4).mono (by omega)) t ht p4 _ (zs.drop k) (hz_get n4 upd_same) ((P3.mono (fun _ _ ⟨t, k1, k2⟩ => ⟨t, k1, hz_same b35 _ _ k2⟩ : ∀ v z, PrV (Hz d H3) v z → PrV (Hz d (upd H4 p4 (.lst (ys.drop k)))) v z)).drop k) (fun z hz => hNz z (List.mem_of_mem_drop hz)) (by rw [List.length_drop]; omega)
  rw [decide_eq_false h2]
  refine iteF ⟨_, rfl, _, rfl, (by show 2 ≤ sizeLine; decide), fun t ht => ?_⟩
  exact stp hl gs cs (But.refl d H3) hl3 L3 G2 (dr3.mono (by omega)) t ht pl ys zs hpl3 P3 hNz (by omega)
end
end KB
namespace KB
open PySem PySem.Spec PyProof.Rows L2 KA

section
variable {P : Program} {w : World} {K : PySem.W.Frag} {mg : Str → Option Value} {base : Heap}
/-- how a thing is shown -/
def Txt (K : PySem.W.Frag) (H : Hp) (v : V) (s : Str) : Prop := (∃ dd, Dp K H v dd ∧ OkD dd 3 20000 ∧ s = dd.shown) ∨ ∃ a, v = .ref a ∧ H a = some (.dT []) ∧ s = dictText []
theorem Txt.same {H H' : Hp} (e : Same H H') {v : V} {s : Str} (h : Txt K H v s) : Txt K H' v s := by
  rcases h with ⟨dd, a, b, c⟩ | ⟨a, b, c, k⟩
  · exact .inl ⟨dd, dp_same e dd v a, b, c⟩
  · exact .inr ⟨a, b, e _ _ c, k⟩
theorem Txt.len {H : Hp} {v : V} {s : Str} (h : Txt K H v s) : s.length ≤ 2000000 := by
  rcases h with ⟨dd, a, b, rfl⟩ | ⟨a, b, c, rfl⟩
  · have := PyData.shown_le 50 (by decide) dd b.lv
    have := b.we
    omega
  · exact by decide +kernel
theorem Txt.shows {X : Cx} {n : Nat} {H : Hp} {t0 : Addr} {xs0 : List V} {v : V} {s : Str} (ht0 : H t0 = some (.tup xs0)) (hv : v ∈ xs0) (h : Txt X.K H v s) : ShowsG X n t0 v s H := by
  rcases h with ⟨dd, a, b, rfl⟩ | ⟨a, rfl, c, rfl⟩
  · exact shows_dpG ht0 hv a b.sh b.nd (Nat.le_trans b.de (by decide))
  · exact shows_dT (kvs := []) ht0 (fun ks e => by
      rw [e] at hv
      obtain ⟨k, _, h⟩ := List.mem_map.mp hv
      cases h) c (fun p hp => nomatch hp)
/-- what may be handed in for pairs, for groups -/
def PV (K : PySem.W.Frag) (H : Hp) (v : V) : Prop := ∃ op s, PsAt K H v op ∧ lenO op ≤ 200 ∧ Txt K H v s
def GV (K : PySem.W.Frag) (H : Hp) (v : V) : Prop := ∃ og s, GsAt K H v og ∧ lenO og ≤ 200 ∧ (flGO og).length ≤ 400 ∧ Txt K H v s
def PL (K : PySem.W.Frag) (H : Hp) (v : V) : Prop := ∃ pl ys, v = .ref pl ∧ H pl = some (.lst ys) ∧ PrL K H ys 20000 ∧ ys.length ≤ 102
def GL (K : PySem.W.Frag) (H : Hp) (v : V) : Prop := ∃ pl ys, v = .ref pl ∧ H pl = some (.lst ys) ∧ GrL K H ys 300 20000 ∧ ys.length ≤ 130
theorem PV.same {H H' : Hp} (e : Same H H') {v : V} (h : PV K H v) : PV K H' v := by
  obtain ⟨op, s, a, b, c⟩ := h
  exact ⟨op, s, a.same e, b, c.same e⟩
theorem GV.same {H H' : Hp} (e : Same H H') {v : V} (h : GV K H v) : GV K H' v := by
  obtain ⟨op, s, a, b, b2, c⟩ := h
  exact ⟨op, s, a.same e, b, b2, c.same e⟩
theorem PL.same {H H' : Hp} (e : Same H H') {v : V} (h : PL K H v) : PL K H' v := by
  obtain ⟨p, ys, a, b, c, k⟩ := h
  exact ⟨p, ys, a, e _ _ b, c.same e, k⟩
theorem GL.same {H H' : Hp} (e : Same H H') {v : V} (h : GL K H v) : GL K H' v := by
  obtain ⟨p, ys, a, b, c, k⟩ := h
  exact ⟨p, ys, a, e _ _ b, c.same e, k⟩
theorem PL.pv {H : Hp} {v : V} (h : PL K H v) : PV K H v := by
  obtain ⟨p, ys, rfl, e, ⟨qs, ds, f, g, k⟩, l⟩ := h
  exact ⟨some qs, _, ⟨p, ys, rfl, e, f⟩, by show qs.length ≤ 200; rw [← f.len]; omega, .inl ⟨.list ds, .lst (.of e) g, k.lst, rfl⟩⟩
theorem GL.gv {H : Hp} {v : V} (h : GL K H v) : GV K H v := by
  obtain ⟨p, ys, rfl, e, ⟨qs, ds, f, n, g, k⟩, l⟩ := h
  exact ⟨some qs, _, ⟨p, ys, rfl, e, f⟩, by show qs.length ≤ 200; rw [← f.len]; omega, by show (flG qs).length ≤ 400; omega, .inl ⟨.list ds, .lst (.of e) g, k.lst, rfl⟩⟩
theorem PV.tup {H : Hp} {t : Addr} {ys : List V} (h : H t = some (.tup ys)) (k : PrL K H ys 20000) : PV K H (.ref t) := by
  obtain ⟨qs, ds, f, g, k⟩ := k
  exact ⟨none, _, ⟨_, .base (.tup h), kit_tl K⟩, Nat.zero_le _, .inl ⟨.tuple ds, .tup (.of h) g, k.tup, rfl⟩⟩
theorem GV.tup {H : Hp} {t : Addr} {ys : List V} (h : H t = some (.tup ys)) (k : GrL K H ys 300 20000) : GV K H (.ref t) := by
  obtain ⟨qs, ds, f, n, g, k⟩ := k
  exact ⟨none, _, ⟨_, .base (.tup h), kit_tl K⟩, Nat.zero_le _, Nat.zero_le _, .inl ⟨.tuple ds, .tup (.of h) g, k.tup, rfl⟩⟩
theorem PV.non {H : Hp} : PV K H .non := ⟨none, _, ⟨_, .base .non, kit_nl K⟩, Nat.zero_le _, .inl ⟨.none, .non, okd_non.mono (by decide) (by decide), rfl⟩⟩
theorem GV.non {H : Hp} : GV K H .non := ⟨none, _, ⟨_, .base .non, kit_nl K⟩, Nat.zero_le _, Nat.zero_le _, .inl ⟨.none, .non, okd_non.mono (by decide) (by decide), rfl⟩⟩
theorem PV.str {H : Hp} : PV K H (.str "a") := ⟨none, _, ⟨_, .base (.str _), kit_sl K⟩, Nat.zero_le _, .inl ⟨.str "a", .str _, (okd_str (s := "a") (by decide)).mono (by decide) (by decide), rfl⟩⟩
theorem GV.int {H : Hp} : GV K H (.int 0) := ⟨none, _, ⟨_, .base (.int _), kit_il K⟩, Nat.zero_le _, Nat.zero_le _, .inl ⟨.int 0, .int _, (okd_int (i := 0) (by decide)).mono (by decide) (by decide), rfl⟩⟩
theorem PV.dct {H : Hp} {a : Addr} (h : H a = some (.dT [])) : PV K H (.ref a) := ⟨none, _, ⟨_, .base (.dT h), kit_dl K⟩, Nat.zero_le _, .inr ⟨a, rfl, h, rfl⟩⟩
theorem GV.dct {H : Hp} {a : Addr} (h : H a = some (.dT [])) : GV K H (.ref a) := ⟨none, _, ⟨_, .base (.dT h), kit_dl K⟩, Nat.zero_le _, Nat.zero_le _, .inr ⟨a, rfl, h, rfl⟩⟩
theorem cells_int2 {ns : List Int} {n : Int} {lo hi : Option Int} {i : Nat} {x : V} (h : ([V.int n] ++ cutV (ns.map V.int) lo hi)[i]? = some x) : ∃ k, x = .int k := cells_int h
theorem good_num {r : Rw} (h : GoodRw r) : 1 ≤ r.num ∧ r.num ≤ 1000000000 := by
  have h1 := h.1
  simp only [whl, Bool.and_eq_true, decide_eq_true_iff] at h1
  exact h1
def spLaw (K : PySem.W.Frag) : Sp := fun vs H Q _ => ∃ (a : Addr) (ns : List Int), vs = [.ref a] ∧ SqL K H a (ns.map V.int) ∧ ns.length ≤ 63 ∧ ∀ H', Q (.bl true) H'
theorem ok_law {f : Addr} {fd : FuncData} (T : Tx K mg) (F : Fun K "law" "law" s_law f fd) : FnG P w K mg base CX0 25 f fd ["_law_script"] (spLaw K) := by
  refine fun_okG F sc_law (fun vs H Q E h => ?_) (fun cdv A outer s H vs Q E hr gd h => ?_)
  · obtain ⟨a, ns, rfl, hS, hlen, q⟩ := h
    rfl
  obtain ⟨a, ns, rfl, hS, hlen, q⟩ := h
  refine ⟨_, (pss_cons (ps_for PassesOwn.never rfl (pi_list (pe_op op_cat (pe_lst (pa_cons (pe_call (ok_cell_at T) (hr.mono (by decide)) (by rfl) T.g_cell_at T.F_cell_at.kp T.b_cell_at .nil pass0 (pa_cons (pv 0) (pa_cons pe_int pa_nil))) pa_nil)) (pe_slice sl_list (pv 0) (po_some pe_int) (po_some pe_int)))) (pg_name (i := 1) sc_law.nd rfl (Or.inl rfl))
        (pss_cons (ps_set (i := 2) sc_law.nd rfl (Or.inl rfl) (pe_call (ok_begin T) (hr.mono (by decide)) (by rfl) T.g_begin T.F_begin.kp T.b_begin .nil pass0 (pa_cons (pv 1) pa_nil)))
      (pss_cons (ps_set (i := 3) sc_law.nd rfl (Or.inl rfl) (pe_ix ix_list (pe_lst (pa_cons (pe_op op_add pe_int (pe_call (ok_draw T) (hr.mono (by decide)) (by rfl) T.g_draw T.F_draw.kp T.b_draw .nil pass0 (pa_cons (pv 2) (pa_cons pe_int pa_nil)))) (pa_cons (pe_op op_add pe_int (pe_call (ok_draw T) (hr.mono (by decide)) (by rfl) T.g_draw T.F_draw.kp T.b_draw .nil pass0 (pa_cons (pv 2) (pa_cons pe_int pa_nil)))) (pa_cons pe_int pa_nil)))) (pe_op op_fdiv (pe_call (ok_draw T) (hr.mono (by decide)) (by rfl) T.g_draw T.F_draw.kp T.b_draw .nil pass0 (pa_cons (pv 2) (pa_cons pe_int pa_nil))) pe_int) (fun _ _ => rfl)))
      (pss_cons (ps_set (i := 4) sc_law.nd rfl (Or.inl rfl) (pe_call (ok_beads T) (hr.mono (by decide)) (by rfl) T.g_beads T.F_beads.kp T.b_beads .nil pass0 (pa_cons (pv 2) (pa_cons (pv 3) pa_nil))))
      (pss_cons (ps_set (i := 5) sc_law.nd rfl (Or.inl rfl) (pe_call (ok_match T) (hr.mono (by decide)) (by rfl) T.g_match T.F_match.kp T.b_match .nil pass0 (pa_cons (pv 2) pa_nil)))
      (pss_cons (ps_setLc (i := 6) (own := [("_law_bead", 12)]) (g := gName 12) (tt := tYes) rfl sc_law.nd rfl rfl (sw_true rfl rfl rfl (by decide +kernel)) (pi_list (pv 4)) (blkOk_by (N := ["_law_script", "_law_cell", "_law_source", "_law_size", "_law_beads_here", "_law_wide_by", "_law_numbers_here", "_law_pairs", "_law_heaps", "_law_kept", "_law_due_here", "_law_found", "_law_bead"]) (sc := defScope s_law) (by decide +kernel)) (fun _ _ _ _ _ => (pg_name (i := 12) sc_law.nd rfl (Or.inl rfl))) (fun _ _ _ _ _ => pts_nil) (fun _ _ _ _ _ => (pe_fldK (K' := K) rfl (pv 12) rfl)))
      (pss_cons (ps_asg (pe_call (ok_begun T) (hr.mono (by decide)) (by rfl) T.g_begun T.F_begun.kp T.b_begun .nil pass0 (pa_cons (pv 2) (pa_cons (pv 4) (pa_cons (pv 5) pa_nil)))) (pg_tup (by rfl) (pgs_cons (pg_name (i := 7) sc_law.nd rfl (Or.inl rfl)) (pgs_cons (pg_name (i := 8) sc_law.nd rfl (Or.inl rfl)) pgs_nil))))
      (pss_cutJ (ps_if (pt_cmpR op_eq (pe_call (ok_draw T) (hr.mono (by decide)) (by rfl) T.g_draw T.F_draw.kp T.b_draw .nil pass0 (pa_cons (pv 2) (pa_cons pe_int pa_nil))) pe_int (nomark _)) (pss_one (ps_set (i := 7) sc_law.nd rfl (Or.inl rfl) (pe_call (ok_pairs_turned T) (hr.mono (by decide)) (by rfl) T.g_pairs_turned T.F_pairs_turned.kp T.b_pairs_turned .nil pass0 (pa_cons (pv 2) (pa_cons (pv 7) (pa_cons (pv 6) pa_nil)))))) pss_nil)
      (pss_cutJ (ps_if (pt_cmpR op_eq (pe_call (ok_draw T) (hr.mono (by decide)) (by rfl) T.g_draw T.F_draw.kp T.b_draw .nil pass0 (pa_cons (pv 2) (pa_cons pe_int pa_nil))) pe_int (nomark _)) (pss_one (ps_set (i := 8) sc_law.nd rfl (Or.inl rfl) (pe_call (ok_groups_turned T) (hr.mono (by decide)) (by rfl) T.g_groups_turned T.F_groups_turned.kp T.b_groups_turned .nil pass0 (pa_cons (pv 2) (pa_cons (pv 8) (pa_cons (pv 6) pa_nil)))))) pss_nil)
      (pss_cutJ (ps_if (pt_cmpR op_eq (pe_call (ok_draw T) (hr.mono (by decide)) (by rfl) T.g_draw T.F_draw.kp T.b_draw .nil pass0 (pa_cons (pv 2) (pa_cons pe_int pa_nil))) pe_int (nomark _)) (pss_one (ps_set (i := 7) sc_law.nd rfl (Or.inl rfl) (pe_call (ok_one T) (hr.mono (by decide)) (by rfl) T.g_one T.F_one.kp T.b_one .nil pass0 (pa_cons (pv 2) (pa_cons (pe_lst (pa_cons pe_non (pa_cons (pe_callTy call_tuple_of (by rfl) T.z_tuple (by decide +kernel) (pa_cons (pv 7) pa_nil)) (pa_cons pe_str (pa_cons pe_dnewT pa_nil))))) pa_nil))))) pss_nil)
      (pss_cutJ (ps_if (pt_cmpR op_eq (pe_call (ok_draw T) (hr.mono (by decide)) (by rfl) T.g_draw T.F_draw.kp T.b_draw .nil pass0 (pa_cons (pv 2) (pa_cons pe_int pa_nil))) pe_int (nomark _)) (pss_one (ps_set (i := 8) sc_law.nd rfl (Or.inl rfl) (pe_call (ok_one T) (hr.mono (by decide)) (by rfl) T.g_one T.F_one.kp T.b_one .nil pass0 (pa_cons (pv 2) (pa_cons (pe_lst (pa_cons pe_non (pa_cons (pe_callTy call_tuple_of (by rfl) T.z_tuple (by decide +kernel) (pa_cons (pv 8) pa_nil)) (pa_cons pe_int (pa_cons pe_dnewT pa_nil))))) pa_nil))))) pss_nil)
      (pss_cons (ps_set (i := 9) sc_law.nd rfl (Or.inl rfl) (pe_callB (call_reprT (n := 1) gd (hr.mono (by decide))) (by rfl) T.z_repr (by decide +kernel) (pa_cons (pe_tup (pa_cons (pv 7) (pa_cons (pv 8) pa_nil))) pa_nil)))
      (pss_cons (ps_set (i := 10) sc_law.nd rfl (Or.inl rfl) (pe_call (ok_due T) (hr.mono (by decide)) (by rfl) T.g_due T.F_due.kp T.b_due .nil pass0 (pa_cons (pv 4) (pa_cons (pv 7) (pa_cons (pv 8) (pa_cons (pv 5) pa_nil))))))
      (pss_cons (ps_set (i := 11) sc_law.nd rfl (Or.inl rfl) (pe_call (ok_shows T) (hr.mono (by decide)) (by rfl) T.g_shows T.F_shows.kp T.b_shows .nil pass0 (pa_cons (pv 4) (pa_cons (pv 7) (pa_cons (pv 8) (pa_cons (pv 5) pa_nil))))))
      (pss_cons (ps_if (PW.pt (pw_or (pt_not (pt_val (pe_callB call_isi (by rfl) T.z_isinstance (by decide +kernel) (pa_cons (pv 11) (pa_cons (pe_bltn (v := .ty "bool") (by rfl) T.z_bool (by decide +kernel) rfl) pa_nil))))) (pw_or (pt_cmpR op_ne (pv 11) (pv 10) (nomark _)) (pw_or1 (pt_cmpR op_ne (pe_callN (ok_shows T) (hr.mono (by decide)) (by rfl) T.g_shows T.F_shows.kp T.kb_sh pass0 (pa_cons (pv 4) (pa_cons (pv 7) (pa_cons (pv 8) pa_nil))) (pk_cons (pv 5) pk_nil)) (pv 10) (nomark _)))))) (pss_one (ps_ret pe_bl)) pss_nil)
      (pss_one (ps_if (pt_cmpR op_ne (pe_callB (call_reprT (n := 1) gd (hr.mono (by decide))) (by rfl) T.z_repr (by decide +kernel) (pa_cons (pe_tup (pa_cons (pv 7) (pa_cons (pv 8) pa_nil))) pa_nil)) (pv 9) (nomark _)) (pss_one (ps_ret pe_bl)) pss_nil)))))))))))))))))
      (pss_one (ps_ret pe_bl))), ?_⟩
  refine ⟨_, rfl, a, ns, rfl, hS, (by show 1 ≤ sizeLine; decide), fun p hp => ?_⟩
  have s1 : Same H (upd H p (.lst [.int (ns.headD 0)])) := same_upd hp
  refine ⟨_, rfl, _, rfl, _, rfl, a, _, rfl, s1.seq hS, fun p2 hp2 => ?_⟩
  have s2 : Same (upd H p (.lst [.int (ns.headD 0)])) (upd (upd H p (.lst [.int (ns.headD 0)])) p2 (.lst (cutV (ns.map V.int) (some 1) (some 6)))) := same_upd hp2
  have hcut : (cutV (ns.map V.int) (some 1) (some 6)).length ≤ 63 := by
    have := cutV_length (ns.map V.int) (some 1) (some 6)
    rw [List.length_map] at this
    omega
  refine ⟨p, p2, _, _, rfl, rfl, s2 _ _ upd_same, upd_same, sz _ (by rw [List.length_singleton]; omega), fun p3 hp3 => ?_⟩
  refine ⟨p3, rfl, ⟨_, SqL.of upd_same⟩, for_list (K := K) (a := p3) (xs := [V.int (ns.headD 0)] ++ cutV (ns.map V.int) (some 1) (some 6)) (fun i σ H' => ∃ w1 w2 w3 w4 w5 w6 w7 w8 w9 w10 w11 w12, σ = [some (.ref a), w1, w2, w3, w4, w5, w6, w7, w8, w9, w10, w11, w12] ∧ H' p3 = some (.lst ([V.int (ns.headD 0)] ++ cutV (ns.map V.int) (some 1) (some 6)))) ⟨_, _, _, _, _, _, _, _, _, _, _, _, rfl, upd_same⟩ (fun i σ H' _ h => ?_) ?_ ?_⟩
  · obtain ⟨_, _, _, _, _, _, _, _, _, _, _, _, _, e⟩ := h
    exact SqL.of e
  rotate_left
  · rintro σ H' ⟨w1, w2, w3, w4, w5, w6, w7, w8, w9, w10, w11, w12, rfl, e0⟩
    exact q H'
  rintro i x σ H0 hi ⟨w1, w2, w3, w4, w5, w6, w7, w8, w9, w10, w11, w12, rfl, e0⟩
  obtain ⟨cell, rfl⟩ := cells_int hi
  refine ⟨_, rfl, cell, rfl, fun d H1 hd t1 dr1 => ?_⟩
  have np3 : p3 ≠ d := ne_of_none e0 hd
  refine ⟨_, rfl, d, 16, _, rfl, by decide, log_tiny (by decide) (by decide), dr1, by omega, fun H2 a1 a10 a11 b2 dr2 => ⟨_, _, rfl, rfl, ?_⟩⟩
  refine ⟨_, rfl, d, 44, _, rfl, by decide, log_tiny (by decide) (by decide), dr2, by omega, fun H3 a2 a20 a21 b3 dr3 => ⟨_, _, rfl, rfl, (by show 3 ≤ sizeLine; decide), fun l0 hl0 => ?_⟩⟩
  have n0 := dr3.ne hl0
  refine ⟨_, rfl, d, 12, _, rfl, by decide, log_tiny (by decide) (by decide), dr3.upd n0, by omega, fun H4 a3 a30 a31 b4 dr4 => ⟨_, _, rfl, rfl, ⟨by decide, by decide⟩, ?_⟩⟩
  obtain ⟨v, hv, hvv⟩ := at3i (a := 1 + a1) (b := 17 + a2) (c := 60) (r := a3 / 5) (by omega) (by omega)
  have hv0 : 1 ≤ v ∧ v ≤ 60 := by rcases hvv with rfl | rfl | rfl <;> omega
  refine ⟨l0, _, _, _, rfl, rfl, SqL.of (b4 _ _ n0 upd_same), hv, ?_⟩
  have b14 : But d H1 H4 := (b2.trans b3).trans ((But.new hl0).trans b4)
  refine ⟨_, rfl, _, rfl, d, v, _, rfl, by omega, hv0.2, dr4, by omega, fun H5 l xs rs hl nl el hB lrs hU b5 dr5 => ?_⟩
  refine ⟨_, rfl, d, _, rfl, dr5, by omega, fun H6 m m0 m1 b6 dr6 => ?_⟩
  obtain ⟨hGd, hu⟩ := hU
  have el6 := b6 _ _ nl el
  have hB6 := hB.nl (dr_nl dr5 b6)
  have e6 := (b14.trans (b5.trans b6)) _ _ np3 (t1 _ _ e0)
  have hrl : rs.length ≤ 60 := by omega
  have hr0 : rs ≠ [] := fun e => by
    rw [e] at lrs
    simp at lrs
    omega
  have hxl := hB6.1
  have hnb : ∀ r ∈ rs, 1 ≤ r.num ∧ r.num ≤ 1000000000 := fun r hr => good_num (hGd r hr)
  refine ⟨_, rfl, l, rfl, ⟨_, SqL.of el6⟩, fun D hD => lc_gen (K := K) hD (SqL.of el6) (by omega) (fun j v _ => ∃ r, rs[j]? = some r ∧ v = .int r.num) (fun _ _ _ _ _ h => h) (fun j x H7 R C hx s7 hR => ?_) fun H7 acc s7 eD lD gD => ?_⟩
  · have hi : j < xs.length := (List.getElem?_eq_some_iff.mp hx).1
    have hir : rs[j]? = some rs[j] := List.getElem?_eq_getElem (by omega)
    obtain ⟨pb, h1, dp, hpb⟩ := hB6.2 j _ hir
    rw [h1] at hx
    cases hx
    refine ⟨rfl, yesT ⟨_, rfl, pb, _, dp, _, _, rfl, s7 _ _ hpb, T.cl_Bead, T.n_Bead_number, bf_number _, ?_⟩⟩
    exact hR _ _ (Same.refl _) ⟨_, hir, rfl⟩
  have ea : acc = (rs.map Rw.num).map V.int := by
    rw [List.map_map]
    refine List.ext_getElem? fun j => ?_
    rw [List.getElem?_map]
    cases e : acc[j]? with
    | none =>
      have := List.getElem?_eq_none_iff.mp e
      rw [List.getElem?_eq_none (by omega)]
      rfl
    | some v =>
      obtain ⟨r, k1, k2⟩ := gD j v e
      rw [k1, k2]
      rfl
  rw [ea] at eD
  have nD := dr6.ne hD
  have dr7 := dr6.same s7
  have el7 := s7 _ _ el6
  have e7 := s7 _ _ e6
  have hB7 := hB6.nl (NL.of s7)
  refine ⟨_, rfl, _, rfl, _, rfl, d, l, xs, rs, m, _, rfl, el7, nl, hB7, hrl, hr0, hu, hnb, dr7, by omega, fun H8 t pl hl8 ys gs zs cs et epl hP hN hzl ehl hG hGrp b8 dr8 => ?_⟩
  refine ⟨t, _, rfl, .inl (.inl (hz_le _ _ et)), rfl, _, _, rfl, _, _, rfl, rfl, ?_⟩
  have el8 : Hz d H8 l = some (.lst xs) := hz_get nl (b8 _ _ nl el7)
  have eD8 : Hz d H8 D = some (.lst ((rs.map Rw.num).map V.int)) := hz_get nD (b8 _ _ nD eD)
  have hB8 : BdL T.C_Bead H8 xs rs := hB7.nl (dr_nl dr7 b8)
  have e8 := b8 _ _ np3 e7
  have hnc : NumC (rs.map Rw.num) := nums_c hnb fun n hn => hn
  have hne : rs.map Rw.num ≠ [] := fun e => hr0 (List.map_eq_nil_iff.mp e)
  have hln : (rs.map Rw.num).length ≤ 1000 := by rw [List.length_map]; omega
  -- the pairs turned
  refine ⟨fun σ' H' => ∃ (px : V) (n : Nat), σ' = [some (.ref a), some (.int cell), some (.ref d), some (.int v), some (.ref l), some (.int m), some (.ref D), some px, some (.ref hl8), w9, w10, w11, w12] ∧ PL K (Hz d H') px ∧ But d H8 H' ∧ Dr PM d n H' ∧ n ≤ 3000, ?_, ?_⟩
  · refine ⟨_, rfl, d, 3, _, rfl, by decide, log_tiny (by decide) (by decide), dr8, by omega, fun H9 c c0 c1 b9 dr9 => ⟨rfl, _, rfl, ?_⟩⟩
    rw [dec_int]
    by_cases hc0 : c = 0
    · rw [decide_eq_true hc0]
      refine iteT ?_
      refine ⟨_, rfl, _, rfl, _, rfl, d, pl, D, ys, zs, _, _, rfl, hz_same b9 _ _ epl, hP.mono (fun _ _ ⟨t, k1, k2⟩ => ⟨t, k1, hz_same b9 _ _ k2⟩), hN, by omega, hz_same b9 _ _ eD8, hne, hln, hnc, dr9, by omega, fun HA pa us ea2 hus hl2 bA drA => ?_⟩
      exact ⟨_, _, rfl, ⟨pa, us, rfl, ea2, hus, hl2⟩, b9.trans bA, drA, by omega⟩
    · rw [decide_eq_false hc0]
      refine iteF ?_
      exact ⟨_, _, rfl, ⟨pl, ys, rfl, hz_same b9 _ _ epl, ((PrL.of_prv hP hN).same (hz_same b9)).mono (by omega), by rw [hP.len]; omega⟩, b9, dr9, by omega⟩
  rintro σ1 HB ⟨px1, n1, rfl, hpx1, bB, drB, hn1⟩
  -- the groups turned
  refine ⟨fun σ' H' => ∃ (px gx : V) (n : Nat), σ' = [some (.ref a), some (.int cell), some (.ref d), some (.int v), some (.ref l), some (.int m), some (.ref D), some px, some gx, w9, w10, w11, w12] ∧ PL K (Hz d H') px ∧ GL K (Hz d H') gx ∧ But d H8 H' ∧ Dr PM d n H' ∧ n ≤ 4000, ?_, ?_⟩
  · refine ⟨_, rfl, d, 3, _, rfl, by decide, log_tiny (by decide) (by decide), drB, by omega, fun H9 c c0 c1 b9 dr9 => ⟨rfl, _, rfl, ?_⟩⟩
    rw [dec_int]
    have b89 := bB.trans b9
    by_cases hc0 : c = 0
    · rw [decide_eq_true hc0]
      refine iteT ?_
      refine ⟨_, rfl, _, rfl, _, rfl, d, hl8, D, gs, cs, _, _, rfl, hz_same b89 _ _ ehl, hG.mono (fun _ _ ⟨t, k1, k2⟩ => ⟨t, k1, hz_same b89 _ _ k2⟩), hGrp.nc, hGrp.le, hGrp.ne, hGrp.fl, hz_same b89 _ _ eD8, hne, hln, hnc, dr9, by omega, fun HA pa us ea2 hus hl2 bA drA => ?_⟩
      exact ⟨_, _, _, rfl, (hpx1.same (hz_same b9)).same (hz_same bA), ⟨pa, us, rfl, ea2, hus, hl2⟩, b89.trans bA, drA, by omega⟩
    · rw [decide_eq_false hc0]
      refine iteF ?_
      have h1 := hGrp.fl
      have h2 := hGrp.le
      exact ⟨_, _, _, rfl, hpx1.same (hz_same b9), ⟨hl8, gs, rfl, hz_same b89 _ _ ehl, ((GrL.of_li hG hGrp.nc).same (hz_same b89)).mono (by omega) (by omega), by rw [hG.len]; omega⟩, b89, dr9, by omega⟩
  rintro σ2 HC ⟨px2, gx2, n2, rfl, hpx2, hgx2, bC, drC, hn2⟩
  -- something else for the pairs
  refine ⟨fun σ' H' => ∃ (px gx : V) (n : Nat), σ' = [some (.ref a), some (.int cell), some (.ref d), some (.int v), some (.ref l), some (.int m), some (.ref D), some px, some gx, w9, w10, w11, w12] ∧ PV K (Hz d H') px ∧ GL K (Hz d H') gx ∧ But d H8 H' ∧ Dr PM d n H' ∧ n ≤ 5000, ?_, ?_⟩
  · refine ⟨_, rfl, d, 12, _, rfl, by decide, log_tiny (by decide) (by decide), drC, by omega, fun H9 c c0 c1 b9 dr9 => ⟨rfl, _, rfl, ?_⟩⟩
    rw [dec_int]
    have b89 := bC.trans b9
    by_cases hc0 : c = 0
    · rw [decide_eq_true hc0]
      obtain ⟨pl9, ys9, rfl, epl9, hpr9, hl9⟩ := hpx2.same (hz_same b9)
      refine iteT ?_
      refine ⟨_, rfl, _, rfl, pl9, _, rfl, .inl ⟨SqL.of (hz_le _ _ epl9), fun pt hpt => ?_⟩⟩
      have npt := dr9.ne hpt
      have xt := same_upd hpt (o := .tup ys9)
      have drt := dr9.same xt
      refine fun pd hpd => ⟨(by show 4 ≤ sizeLine; decide), fun pq hpq => ?_⟩
      have npd := drt.ne hpd
      have xd := same_upd hpd (o := .dT [])
      have drd := drt.same xd
      have npq := drd.ne hpq
      have xq := same_upd hpq (o := .lst [.non, .ref pt, .str "a", .ref pd])
      refine ⟨d, pq, _, _, rfl, npq, SqL.of upd_same, by simp, (by show 4 ≤ 1000; decide), drd.same xq, by omega, fun HA vv hv bA drA => ?_⟩
      have x3 := xt.trans (xd.trans xq)
      have b9A : But d H9 HA := (But.of x3).trans bA
      have et' : Hz d HA pt = some (.tup ys9) := hz_get npt (bA _ _ npt ((xd.trans xq) _ _ upd_same))
      have ed' : Hz d HA pd = some (.dT []) := hz_get npd (bA _ _ npd (xq _ _ upd_same))
      refine ⟨vv, gx2, _, rfl, ?_, (hgx2.same (hz_same b9)).same (hz_same b9A), b89.trans b9A, drA, by omega⟩
      simp only [List.mem_cons, List.not_mem_nil, or_false] at hv
      rcases hv with rfl | rfl | rfl | rfl
      · exact PV.non
      · exact PV.tup et' (hpr9.same (hz_same b9A))
      · exact PV.str
      · exact PV.dct ed'
    · rw [decide_eq_false hc0]
      refine iteF ?_
      exact ⟨_, _, _, rfl, (hpx2.same (hz_same b9)).pv, hgx2.same (hz_same b9), b89, dr9, by omega⟩
  rintro σ3 HD ⟨px3, gx3, n3, rfl, hpx3, hgx3, bD, drD, hn3⟩
  -- something else for the groups
  refine ⟨fun σ' H' => ∃ (px gx : V) (n : Nat), σ' = [some (.ref a), some (.int cell), some (.ref d), some (.int v), some (.ref l), some (.int m), some (.ref D), some px, some gx, w9, w10, w11, w12] ∧ PV K (Hz d H') px ∧ GV K (Hz d H') gx ∧ But d H8 H' ∧ Dr PM d n H' ∧ n ≤ 6000, ?_, ?_⟩
  · refine ⟨_, rfl, d, 12, _, rfl, by decide, log_tiny (by decide) (by decide), drD, by omega, fun H9 c c0 c1 b9 dr9 => ⟨rfl, _, rfl, ?_⟩⟩
    rw [dec_int]
    have b89 := bD.trans b9
    by_cases hc0 : c = 0
    · rw [decide_eq_true hc0]
      obtain ⟨pl9, ys9, rfl, epl9, hpr9, hl9⟩ := hgx3.same (hz_same b9)
      refine iteT ?_
      refine ⟨_, rfl, _, rfl, pl9, _, rfl, .inl ⟨SqL.of (hz_le _ _ epl9), fun pt hpt => ?_⟩⟩
      have npt := dr9.ne hpt
      have xt := same_upd hpt (o := .tup ys9)
      have drt := dr9.same xt
      refine fun pd hpd => ⟨(by show 4 ≤ sizeLine; decide), fun pq hpq => ?_⟩
      have npd := drt.ne hpd
      have xd := same_upd hpd (o := .dT [])
      have drd := drt.same xd
      have npq := drd.ne hpq
      have xq := same_upd hpq (o := .lst [.non, .ref pt, .int 0, .ref pd])
      refine ⟨d, pq, _, _, rfl, npq, SqL.of upd_same, by simp, (by show 4 ≤ 1000; decide), drd.same xq, by omega, fun HA vv hv bA drA => ?_⟩
      have x3 := xt.trans (xd.trans xq)
      have b9A : But d H9 HA := (But.of x3).trans bA
      have et' : Hz d HA pt = some (.tup ys9) := hz_get npt (bA _ _ npt ((xd.trans xq) _ _ upd_same))
      have ed' : Hz d HA pd = some (.dT []) := hz_get npd (bA _ _ npd (xq _ _ upd_same))
      refine ⟨px3, vv, _, rfl, (hpx3.same (hz_same b9)).same (hz_same b9A), ?_, b89.trans b9A, drA, by omega⟩
      simp only [List.mem_cons, List.not_mem_nil, or_false] at hv
      rcases hv with rfl | rfl | rfl | rfl
      · exact GV.non
      · exact GV.tup et' (hpr9.same (hz_same b9A))
      · exact GV.int
      · exact GV.dct ed'
    · rw [decide_eq_false hc0]
      refine iteF ?_
      exact ⟨_, _, _, rfl, hpx3.same (hz_same b9), (hgx3.same (hz_same b9)).gv, b89, dr9, by omega⟩
  rintro σ4 HE ⟨px, gx, n4, rfl, ⟨op, sp, hP4, hlp, hTp⟩, ⟨og, sg, hG4, hlg, hfg, hTg⟩, bE, drE, hn4⟩
  have toE : Same (Hz d HE) HE := hz_le
  have hP4 := hP4.same toE
  have hG4 := hG4.same toE
  have hTp := hTp.same toE
  have hTg := hTg.same toE
  have el9 := hz_le _ _ (hz_same bE _ _ el8)
  have hB9 : BdL T.C_Bead HE xs rs := hB8.nl (dr_nl dr8 bE)
  have e9 := bE _ _ np3 e8
  have hlen2 : (tupleText [sp, sg]).length ≤ sizeLine := by
    refine Nat.le_trans (tupleText_len_le [sp, sg]) (Nat.le_trans (show _ ≤ 8000000 from ?_) (by decide))
    have h1 := hTp.len
    have h2 := hTg.len
    simp only [List.map_cons, List.map_nil, List.sum_cons, List.sum_nil, List.length_cons, List.length_nil]
    omega
  refine ⟨_, rfl, _, rfl, (by show 2 ≤ sizeLine; decide), fun t1 ht1 => ?_⟩
  have x1 := same_upd ht1 (o := .tup [px, gx])
  have et1 : (upd HE t1 (.tup [px, gx])) t1 = some (.tup [px, gx]) := upd_same
  refine ⟨t1, [px, gx], [sp, sg], rfl, et1, .cons ((hTp.same x1).shows et1 (by simp)) (.cons ((hTg.same x1).shows et1 (by simp)) .nil), hlen2, fun HF sF => ?_⟩
  have sEF : Same HE HF := x1.trans sF
  refine ⟨_, rfl, _, rfl, _, rfl, _, rfl, l, px, gx, m, xs, rs, op, og, rfl, sEF _ _ el9, hB9.nl (NL.of sEF), by omega, hu, hP4.same sEF, hG4.same sEF, hlp, hlg, hfg, fun HG r1 sG hr1 => ?_⟩
  have sEG := sEF.trans sG
  refine ⟨_, rfl, _, rfl, _, rfl, _, rfl, l, px, gx, m, xs, rs, op, og, rfl, sEG _ _ el9, hB9.nl (NL.of sEG), by omega, hu, hP4.same sEG, hG4.same sEG, hlp, hlg, hfg, fun HH r2 sH hr2 => ?_⟩
  have sEH := sEG.trans sH
  have e12 : r2 = r1 := Bool.eq_iff_iff.mpr (hr2.trans ((shows_due hu).trans hr1.symm))
  subst e12
  refine ⟨_, rfl, _, _, .type "bool", _, true, rfl, .ty _, .base (.bl _), kit_ty (by decide +kernel), _, rfl, iteF ?_⟩
  refine ⟨_, rfl, _, rfl, rfl, _, rfl, ?_⟩
  rw [decide_eq_true rfl]
  refine iteF ?_
  refine ⟨_, rfl, _, rfl, _, rfl, _, rfl, rfl, rfl, l, px, gx, m, xs, rs, op, og, rfl, sEH _ _ el9, hB9.nl (NL.of sEH), by omega, hu, hP4.same sEH, hG4.same sEH, hlp, hlg, hfg, fun HI r3 sI hr3 => ?_⟩
  have sEI := sEH.trans sI
  have e13 : r3 = r2 := Bool.eq_iff_iff.mpr (hr3.trans hr2.symm)
  subst e13
  refine ⟨_, rfl, rfl, _, rfl, ?_⟩
  rw [decide_eq_true rfl]
  refine iteF ?_
  refine ⟨_, rfl, _, rfl, (by show 2 ≤ sizeLine; decide), fun t2 ht2 => ?_⟩
  have x2 := same_upd ht2 (o := .tup [px, gx])
  have et2 : (upd HI t2 (.tup [px, gx])) t2 = some (.tup [px, gx]) := upd_same
  have sEJ := sEI.trans x2
  refine ⟨t2, [px, gx], [sp, sg], rfl, et2, .cons ((hTp.same sEJ).shows et2 (by simp)) (.cons ((hTg.same sEJ).shows et2 (by simp)) .nil), hlen2, fun HK sK => ?_⟩
  refine ⟨_, rfl, rfl, _, rfl, ?_⟩
  rw [decide_eq_true rfl]
  refine iteF ?_
  exact ⟨_, _, _, _, _, _, _, _, _, _, _, _, rfl, (sEJ.trans sK) _ _ e9⟩
end
theorem all_mk {l : PySem.W.OpenLaw} {w : World} {K : PySem.W.Frag} {h : Heap} {mg : Str → Option Value} {fa : Addr} (X : K.In h) (G : h.Ns mainGlobals mg) (hfa : mg "law" = some (.ref fa))
    {C_Bead : Addr}
    {f0 : Addr} {od0 an0 : Option Addr} {sl0 : Array (Option Value)} {oc0 kV0 dc0 pm0 cd0 ct0 : Value}
    {f1 : Addr} {od1 an1 : Option Addr} {sl1 : Array (Option Value)} {oc1 kV1 dc1 pm1 cd1 ct1 : Value}
    {f2 : Addr} {od2 an2 : Option Addr} {sl2 : Array (Option Value)} {oc2 kV2 dc2 pm2 cd2 ct2 : Value}
    {f3 : Addr} {od3 an3 : Option Addr} {sl3 : Array (Option Value)} {oc3 kV3 dc3 pm3 cd3 ct3 : Value}
    {f4 : Addr} {od4 an4 : Option Addr} {sl4 : Array (Option Value)} {oc4 kV4 dc4 pm4 cd4 ct4 : Value}
    {f5 : Addr} {od5 an5 : Option Addr} {sl5 : Array (Option Value)} {oc5 kV5 dc5 pm5 cd5 ct5 : Value}
    {T5 : Addr} {oT5 : Value} {dT5 : Option Addr} {nT5 : Nat} {sT5 : Array (Option Value)} {td5_0 : Tok}
    {f6 : Addr} {od6 an6 : Option Addr} {sl6 : Array (Option Value)} {oc6 kV6 dc6 pm6 cd6 ct6 : Value}
    {f7 : Addr} {od7 an7 : Option Addr} {sl7 : Array (Option Value)} {oc7 kV7 dc7 pm7 cd7 ct7 : Value}
    {f8 : Addr} {od8 an8 : Option Addr} {sl8 : Array (Option Value)} {oc8 kV8 dc8 pm8 cd8 ct8 : Value}
    {f9 : Addr} {od9 an9 : Option Addr} {sl9 : Array (Option Value)} {oc9 kV9 dc9 pm9 cd9 ct9 : Value}
    {f10 : Addr} {od10 an10 : Option Addr} {sl10 : Array (Option Value)} {oc10 kV10 dc10 pm10 cd10 ct10 : Value}
    {T10 : Addr} {oT10 : Value} {dT10 : Option Addr} {nT10 : Nat} {sT10 : Array (Option Value)} {td10_0 : Tok}
    {f11 : Addr} {od11 an11 : Option Addr} {sl11 : Array (Option Value)} {oc11 kV11 dc11 pm11 cd11 ct11 : Value}
    {T11 : Addr} {oT11 : Value} {dT11 : Option Addr} {nT11 : Nat} {sT11 : Array (Option Value)} {td11_0 : Tok}
    {f12 : Addr} {od12 an12 : Option Addr} {sl12 : Array (Option Value)} {oc12 kV12 dc12 pm12 cd12 ct12 : Value}
    {f13 : Addr} {od13 an13 : Option Addr} {sl13 : Array (Option Value)} {oc13 kV13 dc13 pm13 cd13 ct13 : Value}
    {f14 : Addr} {od14 an14 : Option Addr} {sl14 : Array (Option Value)} {oc14 kV14 dc14 pm14 cd14 ct14 : Value}
    {f15 : Addr} {od15 an15 : Option Addr} {sl15 : Array (Option Value)} {oc15 kV15 dc15 pm15 cd15 ct15 : Value}
    {T15 : Addr} {oT15 : Value} {dT15 : Option Addr} {nT15 : Nat} {sT15 : Array (Option Value)} {td15_0 : Tok}
    {f16 : Addr} {od16 an16 : Option Addr} {sl16 : Array (Option Value)} {oc16 kV16 dc16 pm16 cd16 ct16 : Value}
    {f17 : Addr} {od17 an17 : Option Addr} {sl17 : Array (Option Value)} {oc17 kV17 dc17 pm17 cd17 ct17 : Value}
    {f18 : Addr} {od18 an18 : Option Addr} {sl18 : Array (Option Value)} {oc18 kV18 dc18 pm18 cd18 ct18 : Value}
    {f19 : Addr} {od19 an19 : Option Addr} {sl19 : Array (Option Value)} {oc19 kV19 dc19 pm19 cd19 ct19 : Value}
    {f20 : Addr} {od20 an20 : Option Addr} {sl20 : Array (Option Value)} {oc20 kV20 dc20 pm20 cd20 ct20 : Value}
    {f21 : Addr} {od21 an21 : Option Addr} {sl21 : Array (Option Value)} {oc21 kV21 dc21 pm21 cd21 ct21 : Value}
    {f22 : Addr} {od22 an22 : Option Addr} {sl22 : Array (Option Value)} {oc22 kV22 dc22 pm22 cd22 ct22 : Value}
    {f23 : Addr} {od23 an23 : Option Addr} {sl23 : Array (Option Value)} {oc23 kV23 dc23 pm23 cd23 ct23 : Value}
    {f24 : Addr} {od24 an24 : Option Addr} {sl24 : Array (Option Value)} {oc24 kV24 dc24 pm24 cd24 ct24 : Value}
    {f25 : Addr} {od25 an25 : Option Addr} {sl25 : Array (Option Value)} {oc25 kV25 dc25 pm25 cd25 ct25 : Value}
    {f26 : Addr} {od26 an26 : Option Addr} {sl26 : Array (Option Value)} {oc26 kV26 dc26 pm26 cd26 ct26 : Value}
    {f27 : Addr} {od27 an27 : Option Addr} {sl27 : Array (Option Value)} {oc27 kV27 dc27 pm27 cd27 ct27 : Value}
    {f28 : Addr} {od28 an28 : Option Addr} {sl28 : Array (Option Value)} {oc28 kV28 dc28 pm28 cd28 ct28 : Value}
    {f29 : Addr} {od29 an29 : Option Addr} {sl29 : Array (Option Value)} {oc29 kV29 dc29 pm29 cd29 ct29 : Value}
    {f30 : Addr} {od30 an30 : Option Addr} {sl30 : Array (Option Value)} {oc30 kV30 dc30 pm30 cd30 ct30 : Value}
    {f31 : Addr} {od31 an31 : Option Addr} {sl31 : Array (Option Value)} {oc31 kV31 dc31 pm31 cd31 ct31 : Value}
    {tc0 : Tok}
    {tc1 : Tok}
    {tc2 : Tok}
    (aC_Bead : PySem.W.nsIn K mainGlobals "Bead" = some (some (.ref C_Bead)))
    (pg_Bead : PySem.W.plainGet K C_Bead Str.empty = true)
    (hd_Bead : PySem.W.hasDictIn K C_Bead = true)
    (po_Bead : PySem.W.plainOver K C_Bead = true)
    (sa_Bead : PySem.W.findIn K (.ref C_Bead) "__setattr__" = some (some (.builtin "object.__setattr__")))
    (mk_Bead : PySem.W.makesIn K C_Bead = true)
    (kc_Bead : PySem.W.keepIn K (.ref C_Bead) = true)
    (n_Bead_number : PySem.W.findIn K (.ref C_Bead) "number" = some none)
    (n_Bead_across : PySem.W.findIn K (.ref C_Bead) "across" = some none)
    (n_Bead_weight : PySem.W.findIn K (.ref C_Bead) "weight" = some none)
    (n_Bead_shade : PySem.W.findIn K (.ref C_Bead) "shade" = some none)
    (n_Bead_form : PySem.W.findIn K (.ref C_Bead) "form" = some none)
    (n_Bead_drilled : PySem.W.findIn K (.ref C_Bead) "drilled" = some none)
    (a0 : PySem.W.nsIn K mainGlobals "is_int" = some (some (.ref f0)))
    (l0 : K.lookup f0 = some ⟨oc0, od0, .func (PySem.W.fnOf "is_int" "is_int" (defArgs s_is_int) (defBody s_is_int) (defScope s_is_int) .none kV0 dc0 pm0 an0 cd0 ct0), sl0⟩)
    (c0 : PySem.W.codeIn K cd0 "is_int" = true)
    (k0 : PySem.W.keepIn K (.ref f0) = true)
    (a1 : PySem.W.nsIn K mainGlobals "is_whole" = some (some (.ref f1)))
    (l1 : K.lookup f1 = some ⟨oc1, od1, .func (PySem.W.fnOf "is_whole" "is_whole" (defArgs s_is_whole) (defBody s_is_whole) (defScope s_is_whole) .none kV1 dc1 pm1 an1 cd1 ct1), sl1⟩)
    (c1 : PySem.W.codeIn K cd1 "is_whole" = true)
    (k1 : PySem.W.keepIn K (.ref f1) = true)
    (a2 : PySem.W.nsIn K mainGlobals "is_name" = some (some (.ref f2)))
    (l2 : K.lookup f2 = some ⟨oc2, od2, .func (PySem.W.fnOf "is_name" "is_name" (defArgs s_is_name) (defBody s_is_name) (defScope s_is_name) .none kV2 dc2 pm2 an2 cd2 ct2), sl2⟩)
    (c2 : PySem.W.codeIn K cd2 "is_name" = true)
    (k2 : PySem.W.keepIn K (.ref f2) = true)
    (a3 : PySem.W.nsIn K mainGlobals "is_number" = some (some (.ref f3)))
    (l3 : K.lookup f3 = some ⟨oc3, od3, .func (PySem.W.fnOf "is_number" "is_number" (defArgs s_is_number) (defBody s_is_number) (defScope s_is_number) .none kV3 dc3 pm3 an3 cd3 ct3), sl3⟩)
    (c3 : PySem.W.codeIn K cd3 "is_number" = true)
    (k3 : PySem.W.keepIn K (.ref f3) = true)
    (a4 : PySem.W.nsIn K mainGlobals "is_measure" = some (some (.ref f4)))
    (l4 : K.lookup f4 = some ⟨oc4, od4, .func (PySem.W.fnOf "is_measure" "is_measure" (defArgs s_is_measure) (defBody s_is_measure) (defScope s_is_measure) .none kV4 dc4 pm4 an4 cd4 ct4), sl4⟩)
    (c4 : PySem.W.codeIn K cd4 "is_measure" = true)
    (k4 : PySem.W.keepIn K (.ref f4) = true)
    (a5 : PySem.W.findIn K (.ref C_Bead) "__init__" = some (some (.ref f5)))
    (i5 : PySem.W.isFn K (.ref f5) = true)
    (l5 : K.lookup f5 = some ⟨oc5, od5, .func (PySem.W.fnOf "__init__" "Bead.__init__" (defArgs s_Bead_init) (defBody s_Bead_init) (defScope s_Bead_init) (.ref T5) kV5 dc5 pm5 an5 cd5 ct5), sl5⟩)
    (d5 : K.lookup T5 = some ⟨oT5, dT5, .seq (List.toArray [.str "round" td5_0, .bool false]) nT5, sT5⟩)
    (c5 : PySem.W.codeIn K cd5 "Bead.__init__" = true)
    (k5 : PySem.W.keepIn K (.ref f5) = true)
    (a6 : PySem.W.nsIn K mainGlobals "are_once" = some (some (.ref f6)))
    (l6 : K.lookup f6 = some ⟨oc6, od6, .func (PySem.W.fnOf "are_once" "are_once" (defArgs s_are_once) (defBody s_are_once) (defScope s_are_once) .none kV6 dc6 pm6 an6 cd6 ct6), sl6⟩)
    (c6 : PySem.W.codeIn K cd6 "are_once" = true)
    (k6 : PySem.W.keepIn K (.ref f6) = true)
    (a7 : PySem.W.nsIn K mainGlobals "same_look" = some (some (.ref f7)))
    (l7 : K.lookup f7 = some ⟨oc7, od7, .func (PySem.W.fnOf "same_look" "same_look" (defArgs s_same_look) (defBody s_same_look) (defScope s_same_look) .none kV7 dc7 pm7 an7 cd7 ct7), sl7⟩)
    (c7 : PySem.W.codeIn K cd7 "same_look" = true)
    (k7 : PySem.W.keepIn K (.ref f7) = true)
    (a8 : PySem.W.nsIn K mainGlobals "may_pair" = some (some (.ref f8)))
    (l8 : K.lookup f8 = some ⟨oc8, od8, .func (PySem.W.fnOf "may_pair" "may_pair" (defArgs s_may_pair) (defBody s_may_pair) (defScope s_may_pair) .none kV8 dc8 pm8 an8 cd8 ct8), sl8⟩)
    (c8 : PySem.W.codeIn K cd8 "may_pair" = true)
    (k8 : PySem.W.keepIn K (.ref f8) = true)
    (a9 : PySem.W.nsIn K mainGlobals "chain_key" = some (some (.ref f9)))
    (l9 : K.lookup f9 = some ⟨oc9, od9, .func (PySem.W.fnOf "chain_key" "chain_key" (defArgs s_chain_key) (defBody s_chain_key) (defScope s_chain_key) .none kV9 dc9 pm9 an9 cd9 ct9), sl9⟩)
    (c9 : PySem.W.codeIn K cd9 "chain_key" = true)
    (k9 : PySem.W.keepIn K (.ref f9) = true)
    (a10 : PySem.W.nsIn K mainGlobals "clusters" = some (some (.ref f10)))
    (l10 : K.lookup f10 = some ⟨oc10, od10, .func (PySem.W.fnOf "clusters" "clusters" (defArgs s_clusters) (defBody s_clusters) (defScope s_clusters) (.ref T10) kV10 dc10 pm10 an10 cd10 ct10), sl10⟩)
    (d10 : K.lookup T10 = some ⟨oT10, dT10, .seq (List.toArray [.int 0 td10_0]) nT10, sT10⟩)
    (c10 : PySem.W.codeIn K cd10 "clusters" = true)
    (k10 : PySem.W.keepIn K (.ref f10) = true)
    (a11 : PySem.W.nsIn K mainGlobals "most_pairs" = some (some (.ref f11)))
    (l11 : K.lookup f11 = some ⟨oc11, od11, .func (PySem.W.fnOf "most_pairs" "most_pairs" (defArgs s_most_pairs) (defBody s_most_pairs) (defScope s_most_pairs) (.ref T11) kV11 dc11 pm11 an11 cd11 ct11), sl11⟩)
    (d11 : K.lookup T11 = some ⟨oT11, dT11, .seq (List.toArray [.int 0 td11_0]) nT11, sT11⟩)
    (c11 : PySem.W.codeIn K cd11 "most_pairs" = true)
    (k11 : PySem.W.keepIn K (.ref f11) = true)
    (a12 : PySem.W.nsIn K mainGlobals "are_pairs" = some (some (.ref f12)))
    (l12 : K.lookup f12 = some ⟨oc12, od12, .func (PySem.W.fnOf "are_pairs" "are_pairs" (defArgs s_are_pairs) (defBody s_are_pairs) (defScope s_are_pairs) .none kV12 dc12 pm12 an12 cd12 ct12), sl12⟩)
    (c12 : PySem.W.codeIn K cd12 "are_pairs" = true)
    (k12 : PySem.W.keepIn K (.ref f12) = true)
    (a13 : PySem.W.nsIn K mainGlobals "are_groups" = some (some (.ref f13)))
    (l13 : K.lookup f13 = some ⟨oc13, od13, .func (PySem.W.fnOf "are_groups" "are_groups" (defArgs s_are_groups) (defBody s_are_groups) (defScope s_are_groups) .none kV13 dc13 pm13 an13 cd13 ct13), sl13⟩)
    (c13 : PySem.W.codeIn K cd13 "are_groups" = true)
    (k13 : PySem.W.keepIn K (.ref f13) = true)
    (a14 : PySem.W.nsIn K mainGlobals "pairs_across" = some (some (.ref f14)))
    (l14 : K.lookup f14 = some ⟨oc14, od14, .func (PySem.W.fnOf "pairs_across" "pairs_across" (defArgs s_pairs_across) (defBody s_pairs_across) (defScope s_pairs_across) .none kV14 dc14 pm14 an14 cd14 ct14), sl14⟩)
    (c14 : PySem.W.codeIn K cd14 "pairs_across" = true)
    (k14 : PySem.W.keepIn K (.ref f14) = true)
    (a15 : PySem.W.nsIn K mainGlobals "shows" = some (some (.ref f15)))
    (l15 : K.lookup f15 = some ⟨oc15, od15, .func (PySem.W.fnOf "shows" "shows" (defArgs s_shows) (defBody s_shows) (defScope s_shows) (.ref T15) kV15 dc15 pm15 an15 cd15 ct15), sl15⟩)
    (d15 : K.lookup T15 = some ⟨oT15, dT15, .seq (List.toArray [.int 0 td15_0]) nT15, sT15⟩)
    (c15 : PySem.W.codeIn K cd15 "shows" = true)
    (k15 : PySem.W.keepIn K (.ref f15) = true)
    (a16 : PySem.W.nsIn K mainGlobals "_law_cell_at" = some (some (.ref f16)))
    (l16 : K.lookup f16 = some ⟨oc16, od16, .func (PySem.W.fnOf "_law_cell_at" "_law_cell_at" (defArgs s_cell_at) (defBody s_cell_at) (defScope s_cell_at) .none kV16 dc16 pm16 an16 cd16 ct16), sl16⟩)
    (c16 : PySem.W.codeIn K cd16 "_law_cell_at" = true)
    (k16 : PySem.W.keepIn K (.ref f16) = true)
    (a17 : PySem.W.nsIn K mainGlobals "_law_begin" = some (some (.ref f17)))
    (l17 : K.lookup f17 = some ⟨oc17, od17, .func (PySem.W.fnOf "_law_begin" "_law_begin" (defArgs s_begin) (defBody s_begin) (defScope s_begin) .none kV17 dc17 pm17 an17 cd17 ct17), sl17⟩)
    (c17 : PySem.W.codeIn K cd17 "_law_begin" = true)
    (k17 : PySem.W.keepIn K (.ref f17) = true)
    (a18 : PySem.W.nsIn K mainGlobals "_law_draw" = some (some (.ref f18)))
    (l18 : K.lookup f18 = some ⟨oc18, od18, .func (PySem.W.fnOf "_law_draw" "_law_draw" (defArgs s_draw) (defBody s_draw) (defScope s_draw) .none kV18 dc18 pm18 an18 cd18 ct18), sl18⟩)
    (c18 : PySem.W.codeIn K cd18 "_law_draw" = true)
    (k18 : PySem.W.keepIn K (.ref f18) = true)
    (a19 : PySem.W.nsIn K mainGlobals "_law_one" = some (some (.ref f19)))
    (l19 : K.lookup f19 = some ⟨oc19, od19, .func (PySem.W.fnOf "_law_one" "_law_one" (defArgs s_one) (defBody s_one) (defScope s_one) .none kV19 dc19 pm19 an19 cd19 ct19), sl19⟩)
    (c19 : PySem.W.codeIn K cd19 "_law_one" = true)
    (k19 : PySem.W.keepIn K (.ref f19) = true)
    (a20 : PySem.W.nsIn K mainGlobals "_law_names" = some (some (.ref f20)))
    (l20 : K.lookup f20 = some ⟨oc20, od20, .func (PySem.W.fnOf "_law_names" "_law_names" (defArgs s_names) (defBody s_names) (defScope s_names) .none kV20 dc20 pm20 an20 cd20 ct20), sl20⟩)
    (c20 : PySem.W.codeIn K cd20 "_law_names" = true)
    (k20 : PySem.W.keepIn K (.ref f20) = true)
    (a21 : PySem.W.nsIn K mainGlobals "_law_numbers" = some (some (.ref f21)))
    (l21 : K.lookup f21 = some ⟨oc21, od21, .func (PySem.W.fnOf "_law_numbers" "_law_numbers" (defArgs s_numbers) (defBody s_numbers) (defScope s_numbers) .none kV21 dc21 pm21 an21 cd21 ct21), sl21⟩)
    (c21 : PySem.W.codeIn K cd21 "_law_numbers" = true)
    (k21 : PySem.W.keepIn K (.ref f21) = true)
    (a22 : PySem.W.nsIn K mainGlobals "_law_beads" = some (some (.ref f22)))
    (l22 : K.lookup f22 = some ⟨oc22, od22, .func (PySem.W.fnOf "_law_beads" "_law_beads" (defArgs s_beads) (defBody s_beads) (defScope s_beads) .none kV22 dc22 pm22 an22 cd22 ct22), sl22⟩)
    (c22 : PySem.W.codeIn K cd22 "_law_beads" = true)
    (k22 : PySem.W.keepIn K (.ref f22) = true)
    (a23 : PySem.W.nsIn K mainGlobals "_law_do_pair" = some (some (.ref f23)))
    (l23 : K.lookup f23 = some ⟨oc23, od23, .func (PySem.W.fnOf "_law_do_pair" "_law_do_pair" (defArgs s_do_pair) (defBody s_do_pair) (defScope s_do_pair) .none kV23 dc23 pm23 an23 cd23 ct23), sl23⟩)
    (c23 : PySem.W.codeIn K cd23 "_law_do_pair" = true)
    (k23 : PySem.W.keepIn K (.ref f23) = true)
    (a24 : PySem.W.nsIn K mainGlobals "_law_match" = some (some (.ref f24)))
    (l24 : K.lookup f24 = some ⟨oc24, od24, .func (PySem.W.fnOf "_law_match" "_law_match" (defArgs s_match) (defBody s_match) (defScope s_match) .none kV24 dc24 pm24 an24 cd24 ct24), sl24⟩)
    (c24 : PySem.W.codeIn K cd24 "_law_match" = true)
    (k24 : PySem.W.keepIn K (.ref f24) = true)
    (a25 : PySem.W.nsIn K mainGlobals "_law_is_number" = some (some (.ref f25)))
    (l25 : K.lookup f25 = some ⟨oc25, od25, .func (PySem.W.fnOf "_law_is_number" "_law_is_number" (defArgs s_Lis_number) (defBody s_Lis_number) (defScope s_Lis_number) .none kV25 dc25 pm25 an25 cd25 ct25), sl25⟩)
    (c25 : PySem.W.codeIn K cd25 "_law_is_number" = true)
    (k25 : PySem.W.keepIn K (.ref f25) = true)
    (a26 : PySem.W.nsIn K mainGlobals "_law_due" = some (some (.ref f26)))
    (l26 : K.lookup f26 = some ⟨oc26, od26, .func (PySem.W.fnOf "_law_due" "_law_due" (defArgs s_due) (defBody s_due) (defScope s_due) .none kV26 dc26 pm26 an26 cd26 ct26), sl26⟩)
    (c26 : PySem.W.codeIn K cd26 "_law_due" = true)
    (k26 : PySem.W.keepIn K (.ref f26) = true)
    (a27 : PySem.W.nsIn K mainGlobals "_law_odd" = some (some (.ref f27)))
    (l27 : K.lookup f27 = some ⟨oc27, od27, .func (PySem.W.fnOf "_law_odd" "_law_odd" (defArgs s_odd) (defBody s_odd) (defScope s_odd) .none kV27 dc27 pm27 an27 cd27 ct27), sl27⟩)
    (c27 : PySem.W.codeIn K cd27 "_law_odd" = true)
    (k27 : PySem.W.keepIn K (.ref f27) = true)
    (a28 : PySem.W.nsIn K mainGlobals "_law_pairs_turned" = some (some (.ref f28)))
    (l28 : K.lookup f28 = some ⟨oc28, od28, .func (PySem.W.fnOf "_law_pairs_turned" "_law_pairs_turned" (defArgs s_pairs_turned) (defBody s_pairs_turned) (defScope s_pairs_turned) .none kV28 dc28 pm28 an28 cd28 ct28), sl28⟩)
    (c28 : PySem.W.codeIn K cd28 "_law_pairs_turned" = true)
    (k28 : PySem.W.keepIn K (.ref f28) = true)
    (a29 : PySem.W.nsIn K mainGlobals "_law_groups_turned" = some (some (.ref f29)))
    (l29 : K.lookup f29 = some ⟨oc29, od29, .func (PySem.W.fnOf "_law_groups_turned" "_law_groups_turned" (defArgs s_groups_turned) (defBody s_groups_turned) (defScope s_groups_turned) .none kV29 dc29 pm29 an29 cd29 ct29), sl29⟩)
    (c29 : PySem.W.codeIn K cd29 "_law_groups_turned" = true)
    (k29 : PySem.W.keepIn K (.ref f29) = true)
    (a30 : PySem.W.nsIn K mainGlobals "_law_begun" = some (some (.ref f30)))
    (l30 : K.lookup f30 = some ⟨oc30, od30, .func (PySem.W.fnOf "_law_begun" "_law_begun" (defArgs s_begun) (defBody s_begun) (defScope s_begun) .none kV30 dc30 pm30 an30 cd30 ct30), sl30⟩)
    (c30 : PySem.W.codeIn K cd30 "_law_begun" = true)
    (k30 : PySem.W.keepIn K (.ref f30) = true)
    (a31 : PySem.W.nsIn K mainGlobals "law" = some (some (.ref f31)))
    (l31 : K.lookup f31 = some ⟨oc31, od31, .func (PySem.W.fnOf "law" "law" (defArgs s_law) (defBody s_law) (defScope s_law) .none kV31 dc31 pm31 an31 cd31 ct31), sl31⟩)
    (c31 : PySem.W.codeIn K cd31 "law" = true)
    (k31 : PySem.W.keepIn K (.ref f31) = true)
    (q0 : PySem.W.nsIn K mainGlobals "LONGEST_NAME" = some (some (.int 8 tc0)))
    (q1 : PySem.W.nsIn K mainGlobals "GREATEST_NUMBER" = some (some (.int 1000000000 tc1)))
    (q2 : PySem.W.nsIn K mainGlobals "GREATEST_MEASURE" = some (some (.int 1000000 tc2)))
    (z0 : PySem.W.nsIn K mainGlobals "bool" = some none)
    (z1 : PySem.W.nsIn K mainGlobals "isinstance" = some none)
    (z2 : PySem.W.nsIn K mainGlobals "int" = some none)
    (z3 : PySem.W.nsIn K mainGlobals "len" = some none)
    (z4 : PySem.W.nsIn K mainGlobals "str" = some none)
    (z5 : PySem.W.nsIn K mainGlobals "all" = some none)
    (z6 : PySem.W.nsIn K mainGlobals "set" = some none)
    (z7 : PySem.W.nsIn K mainGlobals "abs" = some none)
    (z8 : PySem.W.nsIn K mainGlobals "sorted" = some none)
    (z9 : PySem.W.nsIn K mainGlobals "min" = some none)
    (z10 : PySem.W.nsIn K mainGlobals "range" = some none)
    (z11 : PySem.W.nsIn K mainGlobals "max" = some none)
    (z12 : PySem.W.nsIn K mainGlobals "tuple" = some none)
    (z13 : PySem.W.nsIn K mainGlobals "list" = some none)
    (z14 : PySem.W.nsIn K mainGlobals "enumerate" = some none)
    (z15 : PySem.W.nsIn K mainGlobals "any" = some none)
    (z16 : PySem.W.nsIn K mainGlobals "dict" = some none)
    (z17 : PySem.W.nsIn K mainGlobals "repr" = some none)
    (ir1_Bead : PySem.W.findIn K (.ref C_Bead) "__class__" = some (some (.builtin "object.__class__")))
    (ir4_Bead : PySem.W.mroIn K C_Bead (.type "object") = some true)
    (xcg : PySem.W.specialIn K (.builtin "object.__class__") "__get__" = some (some (.builtin "getset_descriptor.__get__")))
    (xct : PySem.W.takesIn K (.builtin "object.__class__") = some true)
    (bb_Bead : PySem.W.findIn K (.ref C_Bead) "__bool__" = some none)
    (bl_Bead : PySem.W.findIn K (.ref C_Bead) "__len__" = some none) :
    ∃ fd : FuncData, (∀ (s : Shared) (v : Value), BindsTo s fd ⟨[v], []⟩ [("_law_script", v)]) ∧ ∀ base : Heap, K.In base → base.Ns mainGlobals mg → FnG l.prog w K mg base CX0 25 fa fd ["_law_script"] (spLaw K) := by
  have e := hfa.symm.trans (PySem.W.mg_of X G a31)
  cases e
  have F0 := fun_mk (st := s_is_int) l0 c0 k0
  have F1 := fun_mk (st := s_is_whole) l1 c1 k1
  have F2 := fun_mk (st := s_is_name) l2 c2 k2
  have F3 := fun_mk (st := s_is_number) l3 c3 k3
  have F4 := fun_mk (st := s_is_measure) l4 c4 k4
  have F5 : FunD K "__init__" "Bead.__init__" (defArgs s_Bead_init) (defBody s_Bead_init) (defScope s_Bead_init) [.str "round", .bl false] [] f5 (PySem.W.fnOf "__init__" "Bead.__init__" (defArgs s_Bead_init) (defBody s_Bead_init) (defScope s_Bead_init) (.ref T5) kV5 dc5 pm5 an5 cd5 ct5) := ⟨⟨_, _, _, _, _, _, _, _, _, _, rfl, l5, c5, .inr ⟨(fun z => nomatch z), _, _, _, _, rfl, d5, rfl, .cons ⟨_, rfl⟩ (.cons rfl (.nil))⟩, .inl rfl⟩, k5⟩
  have F6 := fun_mk (st := s_are_once) l6 c6 k6
  have F7 := fun_mk (st := s_same_look) l7 c7 k7
  have F8 := fun_mk (st := s_may_pair) l8 c8 k8
  have F9 := fun_mk (st := s_chain_key) l9 c9 k9
  have F10 : FunD K "clusters" "clusters" (defArgs s_clusters) (defBody s_clusters) (defScope s_clusters) [.int 0] [] f10 (PySem.W.fnOf "clusters" "clusters" (defArgs s_clusters) (defBody s_clusters) (defScope s_clusters) (.ref T10) kV10 dc10 pm10 an10 cd10 ct10) := ⟨⟨_, _, _, _, _, _, _, _, _, _, rfl, l10, c10, .inr ⟨(fun z => nomatch z), _, _, _, _, rfl, d10, rfl, .cons ⟨_, rfl⟩ (.nil)⟩, .inl rfl⟩, k10⟩
  have F11 : FunD K "most_pairs" "most_pairs" (defArgs s_most_pairs) (defBody s_most_pairs) (defScope s_most_pairs) [.int 0] [] f11 (PySem.W.fnOf "most_pairs" "most_pairs" (defArgs s_most_pairs) (defBody s_most_pairs) (defScope s_most_pairs) (.ref T11) kV11 dc11 pm11 an11 cd11 ct11) := ⟨⟨_, _, _, _, _, _, _, _, _, _, rfl, l11, c11, .inr ⟨(fun z => nomatch z), _, _, _, _, rfl, d11, rfl, .cons ⟨_, rfl⟩ (.nil)⟩, .inl rfl⟩, k11⟩
  have F12 := fun_mk (st := s_are_pairs) l12 c12 k12
  have F13 := fun_mk (st := s_are_groups) l13 c13 k13
  have F14 := fun_mk (st := s_pairs_across) l14 c14 k14
  have F15 : FunD K "shows" "shows" (defArgs s_shows) (defBody s_shows) (defScope s_shows) [.int 0] [] f15 (PySem.W.fnOf "shows" "shows" (defArgs s_shows) (defBody s_shows) (defScope s_shows) (.ref T15) kV15 dc15 pm15 an15 cd15 ct15) := ⟨⟨_, _, _, _, _, _, _, _, _, _, rfl, l15, c15, .inr ⟨(fun z => nomatch z), _, _, _, _, rfl, d15, rfl, .cons ⟨_, rfl⟩ (.nil)⟩, .inl rfl⟩, k15⟩
  have F16 := fun_mk (st := s_cell_at) l16 c16 k16
  have F17 := fun_mk (st := s_begin) l17 c17 k17
  have F18 := fun_mk (st := s_draw) l18 c18 k18
  have F19 := fun_mk (st := s_one) l19 c19 k19
  have F20 := fun_mk (st := s_names) l20 c20 k20
  have F21 := fun_mk (st := s_numbers) l21 c21 k21
  have F22 := fun_mk (st := s_beads) l22 c22 k22
  have F23 := fun_mk (st := s_do_pair) l23 c23 k23
  have F24 := fun_mk (st := s_match) l24 c24 k24
  have F25 := fun_mk (st := s_Lis_number) l25 c25 k25
  have F26 := fun_mk (st := s_due) l26 c26 k26
  have F27 := fun_mk (st := s_odd) l27 c27 k27
  have F28 := fun_mk (st := s_pairs_turned) l28 c28 k28
  have F29 := fun_mk (st := s_groups_turned) l29 c29 k29
  have F30 := fun_mk (st := s_begun) l30 c30 k30
  have F31 := fun_mk (st := s_law) l31 c31 k31
  have b0 := F0.binds (ps := ["thing"]) fun _ _ _ _ _ _ us hl => match us, hl with | [_], _ => rfl
  have b1 := F1.binds (ps := ["thing", "least", "most"]) fun _ _ _ _ _ _ us hl => match us, hl with | [_, _, _], _ => rfl
  have b2 := F2.binds (ps := ["thing"]) fun _ _ _ _ _ _ us hl => match us, hl with | [_], _ => rfl
  have b3 := F3.binds (ps := ["thing"]) fun _ _ _ _ _ _ us hl => match us, hl with | [_], _ => rfl
  have b4 := F4.binds (ps := ["thing"]) fun _ _ _ _ _ _ us hl => match us, hl with | [_], _ => rfl
  have b5 : Binds K (PySem.W.fnOf "__init__" "Bead.__init__" (defArgs s_Bead_init) (defBody s_Bead_init) (defScope s_Bead_init) (.ref T5) kV5 dc5 pm5 an5 cd5 ct5) ["self", "number", "across", "weight", "shade", "form", "drilled"] [] := by
    obtain ⟨ds, hv, hb⟩ := F5.binds1 (ps := ["self", "number", "across", "weight", "shade", "form", "drilled"]) 7 2 (fun z => nomatch z) rfl fun _ _ _ _ _ _ _ us its h1 h2 => match us, its, h1, h2 with | [_, _, _, _, _, _, _], [_, _], _, _ => ⟨_, rfl, rfl⟩
    cases hv
    exact hb
  have b6 := F6.binds (ps := ["numbers", "by_number"]) fun _ _ _ _ _ _ us hl => match us, hl with | [_, _], _ => rfl
  have b7 := F7.binds (ps := ["bead", "other"]) fun _ _ _ _ _ _ us hl => match us, hl with | [_, _], _ => rfl
  have b8 := F8.binds (ps := ["bead", "other", "match"]) fun _ _ _ _ _ _ us hl => match us, hl with | [_, _, _], _ => rfl
  have b9 := F9.binds (ps := ["bead"]) fun _ _ _ _ _ _ us hl => match us, hl with | [_], _ => rfl
  have b10 : Binds K (PySem.W.fnOf "clusters" "clusters" (defArgs s_clusters) (defBody s_clusters) (defScope s_clusters) (.ref T10) kV10 dc10 pm10 an10 cd10 ct10) ["beads", "match"] [] := by
    obtain ⟨ds, hv, hb⟩ := F10.binds1 (ps := ["beads", "match"]) 2 1 (fun z => nomatch z) rfl fun _ _ _ _ _ _ _ us its h1 h2 => match us, its, h1, h2 with | [_, _], [_], _, _ => ⟨_, rfl, rfl⟩
    cases hv
    exact hb
  have b11 : Binds K (PySem.W.fnOf "most_pairs" "most_pairs" (defArgs s_most_pairs) (defBody s_most_pairs) (defScope s_most_pairs) (.ref T11) kV11 dc11 pm11 an11 cd11 ct11) ["beads", "match"] [] := by
    obtain ⟨ds, hv, hb⟩ := F11.binds1 (ps := ["beads", "match"]) 2 1 (fun z => nomatch z) rfl fun _ _ _ _ _ _ _ us its h1 h2 => match us, its, h1, h2 with | [_, _], [_], _, _ => ⟨_, rfl, rfl⟩
    cases hv
    exact hb
  have b12 := F12.binds (ps := ["pairs", "by_number", "match"]) fun _ _ _ _ _ _ us hl => match us, hl with | [_, _, _], _ => rfl
  have b13 := F13.binds (ps := ["groups", "by_number"]) fun _ _ _ _ _ _ us hl => match us, hl with | [_, _], _ => rfl
  have b14 := F14.binds (ps := ["groups", "by_number", "match"]) fun _ _ _ _ _ _ us hl => match us, hl with | [_, _, _], _ => rfl
  have b15 : Binds K (PySem.W.fnOf "shows" "shows" (defArgs s_shows) (defBody s_shows) (defScope s_shows) (.ref T15) kV15 dc15 pm15 an15 cd15 ct15) ["beads", "pairs", "groups", "match"] [] := by
    obtain ⟨ds, hv, hb⟩ := F15.binds1 (ps := ["beads", "pairs", "groups", "match"]) 4 1 (fun z => nomatch z) rfl fun _ _ _ _ _ _ _ us its h1 h2 => match us, its, h1, h2 with | [_, _, _, _], [_], _, _ => ⟨_, rfl, rfl⟩
    cases hv
    exact hb
  have b16 := F16.binds (ps := ["_law_script", "_law_k"]) fun _ _ _ _ _ _ us hl => match us, hl with | [_, _], _ => rfl
  have b17 := F17.binds (ps := ["_law_cell"]) fun _ _ _ _ _ _ us hl => match us, hl with | [_], _ => rfl
  have b18 := F18.binds (ps := ["_law_source", "_law_many"]) fun _ _ _ _ _ _ us hl => match us, hl with | [_, _], _ => rfl
  have b19 := F19.binds (ps := ["_law_source", "_law_some"]) fun _ _ _ _ _ _ us hl => match us, hl with | [_, _], _ => rfl
  have b20 := F20.binds (ps := ["_law_source", "_law_many"]) fun _ _ _ _ _ _ us hl => match us, hl with | [_, _], _ => rfl
  have b21 := F21.binds (ps := ["_law_source", "_law_many"]) fun _ _ _ _ _ _ us hl => match us, hl with | [_, _], _ => rfl
  have b22 := F22.binds (ps := ["_law_source", "_law_many"]) fun _ _ _ _ _ _ us hl => match us, hl with | [_, _], _ => rfl
  have b23 := F23.binds (ps := ["_law_one_here", "_law_other", "_law_wide_by"]) fun _ _ _ _ _ _ us hl => match us, hl with | [_, _, _], _ => rfl
  have b24 := F24.binds (ps := ["_law_source"]) fun _ _ _ _ _ _ us hl => match us, hl with | [_], _ => rfl
  have b25 := F25.binds (ps := ["_law_thing", "_law_numbers_here"]) fun _ _ _ _ _ _ us hl => match us, hl with | [_, _], _ => rfl
  have b26 := F26.binds (ps := ["_law_beads_here", "_law_pairs", "_law_heaps", "_law_wide_by"]) fun _ _ _ _ _ _ us hl => match us, hl with | [_, _, _, _], _ => rfl
  have b27 := F27.binds (ps := ["_law_source", "_law_number"]) fun _ _ _ _ _ _ us hl => match us, hl with | [_, _], _ => rfl
  have b28 := F28.binds (ps := ["_law_source", "_law_pairs", "_law_numbers_here"]) fun _ _ _ _ _ _ us hl => match us, hl with | [_, _, _], _ => rfl
  have b29 := F29.binds (ps := ["_law_source", "_law_heaps", "_law_numbers_here"]) fun _ _ _ _ _ _ us hl => match us, hl with | [_, _, _], _ => rfl
  have b30 := F30.binds (ps := ["_law_source", "_law_beads_here", "_law_wide_by"]) fun _ _ _ _ _ _ us hl => match us, hl with | [_, _, _], _ => rfl
  obtain ⟨i_kb_sh, h_kb_sh⟩ := F15.kbindsD (ps := ["beads", "pairs", "groups", "match"]) 3 ["match"] (fun us its ws => kw [(0, 0), (0, 1), (0, 2), (2, 0)] us its ws) (fun z => nomatch z) (fun r1 r2 r3 => kw_rel _ r1 r2 r3) (fun _ _ _ _ _ _ _ us its ws h1 h2 h3 => match us, its, ws, h1, h2, h3 with | [_, _, _], [_], [_], _, _, _ => ⟨_, rfl, rfl⟩)
  let T : Tx K mg := ⟨C_Bead, ⟨pg_Bead, hd_Bead, po_Bead, sa_Bead⟩, PySem.W.mg_of X G aC_Bead, n_Bead_number, n_Bead_across, n_Bead_weight, n_Bead_shade, n_Bead_form, n_Bead_drilled,
    _, _, F0, PySem.W.mg_of X G a0, b0,
    _, _, F1, PySem.W.mg_of X G a1, b1,
    _, _, F2, PySem.W.mg_of X G a2, b2,
    _, _, F3, PySem.W.mg_of X G a3, b3,
    _, _, F4, PySem.W.mg_of X G a4, b4,
    _, _, F5, ⟨mk_Bead, a5, i5, kc_Bead⟩, b5,
    _, _, F6, PySem.W.mg_of X G a6, b6,
    _, _, F7, PySem.W.mg_of X G a7, b7,
    _, _, F8, PySem.W.mg_of X G a8, b8,
    _, _, F9, PySem.W.mg_of X G a9, b9,
    _, _, F10, PySem.W.mg_of X G a10, b10,
    _, _, F11, PySem.W.mg_of X G a11, b11,
    _, _, F12, PySem.W.mg_of X G a12, b12,
    _, _, F13, PySem.W.mg_of X G a13, b13,
    _, _, F14, PySem.W.mg_of X G a14, b14,
    _, _, F15, PySem.W.mg_of X G a15, b15,
    _, _, F16, PySem.W.mg_of X G a16, b16,
    _, _, F17, PySem.W.mg_of X G a17, b17,
    _, _, F18, PySem.W.mg_of X G a18, b18,
    _, _, F19, PySem.W.mg_of X G a19, b19,
    _, _, F20, PySem.W.mg_of X G a20, b20,
    _, _, F21, PySem.W.mg_of X G a21, b21,
    _, _, F22, PySem.W.mg_of X G a22, b22,
    _, _, F23, PySem.W.mg_of X G a23, b23,
    _, _, F24, PySem.W.mg_of X G a24, b24,
    _, _, F25, PySem.W.mg_of X G a25, b25,
    _, _, F26, PySem.W.mg_of X G a26, b26,
    _, _, F27, PySem.W.mg_of X G a27, b27,
    _, _, F28, PySem.W.mg_of X G a28, b28,
    _, _, F29, PySem.W.mg_of X G a29, b29,
    _, _, F30, PySem.W.mg_of X G a30, b30,
    i_kb_sh,
    h_kb_sh,
    ⟨ir1_Bead, xcg, xct, ir4_Bead, if_pos (beq_self_eq_true _)⟩,
    bb_Bead,
    bl_Bead,
    _, PySem.W.mg_of X G q0,
    _, PySem.W.mg_of X G q1,
    _, PySem.W.mg_of X G q2,
    PySem.W.mg_none_of X G z0,
    PySem.W.mg_none_of X G z1,
    PySem.W.mg_none_of X G z2,
    PySem.W.mg_none_of X G z3,
    PySem.W.mg_none_of X G z4,
    PySem.W.mg_none_of X G z5,
    PySem.W.mg_none_of X G z6,
    PySem.W.mg_none_of X G z7,
    PySem.W.mg_none_of X G z8,
    PySem.W.mg_none_of X G z9,
    PySem.W.mg_none_of X G z10,
    PySem.W.mg_none_of X G z11,
    PySem.W.mg_none_of X G z12,
    PySem.W.mg_none_of X G z13,
    PySem.W.mg_none_of X G z14,
    PySem.W.mg_none_of X G z15,
    PySem.W.mg_none_of X G z16,
    PySem.W.mg_none_of X G z17⟩
  exact ⟨PySem.W.fnOf "law" "law" (defArgs s_law) (defBody s_law) (defScope s_law) .none kV31 dc31 pm31 an31 cd31 ct31, fun s v => .of_eq rfl, fun base _ _ => ok_law T F31⟩
end KB
open PySem PySem.W PyProof.Rows
set_option maxRecDepth 100000 in
set_option maxHeartbeats 0 in
theorem PySem.Challenge.cw_pearlrise_k43_whole_shown_or_not_holds : PySem.Challenge.rw_pearlrise_k43_whole_shown_or_not.Holds := by
  w_on; o_law; k_head; (case hw => w_witness2)
  k_fill
  refine KA.walk_G (l := PySem.Challenge.rw_pearlrise_k43_whole_shown_or_not) (n := 63) (k := 25) (x := "_law_script") (CX := fun _ => L2.CX0) (sp := fun w => KB.spLaw _) rfl (by decide) rfl ⟨rfl, by decide, by decide⟩ (fun w h Y => PySem.W.kIn_of Y) ?F (fun _ _ a ns hl _ hS => ⟨a, ns, rfl, hS, hl, fun _ => rfl⟩) (fun _ _ _ _ _ h => h)
  case F =>
    intro w mg fa h KX G hmg
    refine' KB.all_mk KX G hmg ?aC_Bead ?pg_Bead ?hd_Bead ?po_Bead ?sa_Bead ?mk_Bead ?kc_Bead ?n_Bead_number ?n_Bead_across ?n_Bead_weight ?n_Bead_shade ?n_Bead_form ?n_Bead_drilled ?a0 ?l0 ?c0 ?k0 ?a1 ?l1 ?c1 ?k1 ?a2 ?l2 ?c2 ?k2 ?a3 ?l3 ?c3 ?k3 ?a4 ?l4 ?c4 ?k4 ?a5 ?i5 ?l5 ?d5 ?c5 ?k5 ?a6 ?l6 ?c6 ?k6 ?a7 ?l7 ?c7 ?k7 ?a8 ?l8 ?c8 ?k8 ?a9 ?l9 ?c9 ?k9 ?a10 ?l10 ?d10 ?c10 ?k10 ?a11 ?l11 ?d11 ?c11 ?k11 ?a12 ?l12 ?c12 ?k12 ?a13 ?l13 ?c13 ?k13 ?a14 ?l14 ?c14 ?k14 ?a15 ?l15 ?d15 ?c15 ?k15 ?a16 ?l16 ?c16 ?k16 ?a17 ?l17 ?c17 ?k17 ?a18 ?l18 ?c18 ?k18 ?a19 ?l19 ?c19 ?k19 ?a20 ?l20 ?c20 ?k20 ?a21 ?l21 ?c21 ?k21 ?a22 ?l22 ?c22 ?k22 ?a23 ?l23 ?c23 ?k23 ?a24 ?l24 ?c24 ?k24 ?a25 ?l25 ?c25 ?k25 ?a26 ?l26 ?c26 ?k26 ?a27 ?l27 ?c27 ?k27 ?a28 ?l28 ?c28 ?k28 ?a29 ?l29 ?c29 ?k29 ?a30 ?l30 ?c30 ?k30 ?a31 ?l31 ?c31 ?k31 ?q0 ?q1 ?q2 ?z0 ?z1 ?z2 ?z3 ?z4 ?z5 ?z6 ?z7 ?z8 ?z9 ?z10 ?z11 ?z12 ?z13 ?z14 ?z15 ?z16 ?z17 ?ir1_Bead ?ir4_Bead ?xcg ?xct ?bb_Bead ?bl_Bead
    (case aC_Bead => k_is)
    (case pg_Bead => k_is)
    (case hd_Bead => k_is)
    (case po_Bead => k_is)
    (case sa_Bead => k_is)
    (case mk_Bead => k_is)
    (case kc_Bead => k_is)
    (case n_Bead_number => k_is)
    (case n_Bead_across => k_is)
    (case n_Bead_weight => k_is)
    (case n_Bead_shade => k_is)
    (case n_Bead_form => k_is)
    (case n_Bead_drilled => k_is)
    (case a0 => k_is)
    (case l0 => k_is)
    (case c0 => k_is)
    (case k0 => k_is)
    (case a1 => k_is)
    (case l1 => k_is)
    (case c1 => k_is)
    (case k1 => k_is)
    (case a2 => k_is)
    (case l2 => k_is)
    (case c2 => k_is)
    (case k2 => k_is)
    (case a3 => k_is)
    (case l3 => k_is)
    (case c3 => k_is)
    (case k3 => k_is)
    (case a4 => k_is)
    (case l4 => k_is)
    (case c4 => k_is)
    (case k4 => k_is)
    (case a5 => k_is)
    (case i5 => k_is)
    (case l5 => k_is)
    (case d5 => k_is)
    (case c5 => k_is)
    (case k5 => k_is)
    (case a6 => k_is)
    (case l6 => k_is)
    (case c6 => k_is)
    (case k6 => k_is)
    (case a7 => k_is)
    (case l7 => k_is)
    (case c7 => k_is)
    (case k7 => k_is)
    (case a8 => k_is)
    (case l8 => k_is)
    (case c8 => k_is)
    (case k8 => k_is)
    (case a9 => k_is)
    (case l9 => k_is)
    (case c9 => k_is)
    (case k9 => k_is)
    (case a10 => k_is)
    (case l10 => k_is)
    (case d10 => k_is)
    (case c10 => k_is)
    (case k10 => k_is)
    (case a11 => k_is)
    (case l11 => k_is)
    (case d11 => k_is)
    (case c11 => k_is)
    (case k11 => k_is)
    (case a12 => k_is)
    (case l12 => k_is)
    (case c12 => k_is)
    (case k12 => k_is)
    (case a13 => k_is)
    (case l13 => k_is)
    (case c13 => k_is)
    (case k13 => k_is)
    (case a14 => k_is)
    (case l14 => k_is)
    (case c14 => k_is)
    (case k14 => k_is)
    (case a15 => k_is)
    (case l15 => k_is)
    (case d15 => k_is)
    (case c15 => k_is)
    (case k15 => k_is)
    (case a16 => k_is)
    (case l16 => k_is)
    (case c16 => k_is)
    (case k16 => k_is)
    (case a17 => k_is)
    (case l17 => k_is)
    (case c17 => k_is)
    (case k17 => k_is)
    (case a18 => k_is)
    (case l18 => k_is)
    (case c18 => k_is)
    (case k18 => k_is)
    (case a19 => k_is)
    (case l19 => k_is)
    (case c19 => k_is)
    (case k19 => k_is)
    (case a20 => k_is)
    (case l20 => k_is)
    (case c20 => k_is)
    (case k20 => k_is)
    (case a21 => k_is)
    (case l21 => k_is)
    (case c21 => k_is)
    (case k21 => k_is)
    (case a22 => k_is)
    (case l22 => k_is)
    (case c22 => k_is)
    (case k22 => k_is)
    (case a23 => k_is)
    (case l23 => k_is)
    (case c23 => k_is)
    (case k23 => k_is)
    (case a24 => k_is)
    (case l24 => k_is)
    (case c24 => k_is)
    (case k24 => k_is)
    (case a25 => k_is)
    (case l25 => k_is)
    (case c25 => k_is)
    (case k25 => k_is)
    (case a26 => k_is)
    (case l26 => k_is)
    (case c26 => k_is)
    (case k26 => k_is)
    (case a27 => k_is)
    (case l27 => k_is)
    (case c27 => k_is)
    (case k27 => k_is)
    (case a28 => k_is)
    (case l28 => k_is)
    (case c28 => k_is)
    (case k28 => k_is)
    (case a29 => k_is)
    (case l29 => k_is)
    (case c29 => k_is)
    (case k29 => k_is)
    (case a30 => k_is)
    (case l30 => k_is)
    (case c30 => k_is)
    (case k30 => k_is)
    (case a31 => k_is)
    (case l31 => k_is)
    (case c31 => k_is)
    (case k31 => k_is)
    (case q0 => k_is)
    (case q1 => k_is)
    (case q2 => k_is)
    (case z0 => k_is)
    (case z1 => k_is)
    (case z2 => k_is)
    (case z3 => k_is)
    (case z4 => k_is)
    (case z5 => k_is)
    (case z6 => k_is)
    (case z7 => k_is)
    (case z8 => k_is)
    (case z9 => k_is)
    (case z10 => k_is)
    (case z11 => k_is)
    (case z12 => k_is)
    (case z13 => k_is)
    (case z14 => k_is)
    (case z15 => k_is)
    (case z16 => k_is)
    (case z17 => k_is)
    (case ir1_Bead => k_is)
    (case ir4_Bead => k_is)
    (case xcg => k_is)
    (case xct => k_is)
    (case bb_Bead => k_is)
    (case bl_Bead => k_is)
