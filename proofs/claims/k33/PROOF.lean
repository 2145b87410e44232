import PyProof.Rows.All
import Wide.All
import OpenK.AllK
import Wide.FinOn
import HandS.ForMost
import HandS.IsInst
import HandS.Wide
import HandS.Walk
import HandS.TupAny
import HandS.Style
import HandS.Defaults
import HandS.MakeKw
import KE.IntTextLaws
import HandS.OwnEq
import HandS.ExcInit
import HandS.ExcField
import HandS.ExcIs
import HandS.ExcOwn
import HandS.WordsExc
import KE.KExcIs
import HandS.MakeKwOnly
import KE.KExcInit
import HandS.TryMany
import HandS.FStr
import PyProof.InstSpecial
import PyProof.FString2
import KE.KCallOwn
import PyProof.ReprRoads
import HandS.FStrTup
import HandS.Flow
import KE.SortKeyHeap
import HandS.SortKw
import HandS.TupLe
import HandS.SortRule
import HandS.Lambda
import HandS.EndTab
import HandS.DictComp
import HandS.WordsDict
import HandS.Conv
import PyProof.DictValues
import KE.KDictWalk
import HandS.NoneIn
import HandS.Strs
import HandS.StrMore
import HandS.Zip
import HandS.WideBits
import HandS.More
import HandS.RevRange
import HandS.DictTup
import PySem.Challenge.RW_pearlrise_k33_whole_best_papers_reckoned
set_option Elab.async false
set_option linter.all false
set_option maxRecDepth 100000
set_option maxHeartbeats 4000000
namespace KA
open PySem PySem.Spec PyProof.Rows L2
/-! ### heaps -/
theorem same_upd {H : Hp} {p : Addr} {o : HO} (h : H p = none) : Same H (upd H p o) := fun b x e => by
  rw [upd_ne (ne_of_none e h)]
  exact e
/-- all but what stands at d is as it was -/
def But (d : Addr) (H H' : Hp) : Prop := ∀ b o, b ≠ d → H b = some o → H' b = some o
theorem But.refl (d : Addr) (H : Hp) : But d H H := fun _ _ _ h => h
theorem But.trans {d : Addr} {H H1 H2 : Hp} (a : But d H H1) (b : But d H1 H2) : But d H H2 := fun c o n h => b c o n (a c o n h)
theorem But.of {d : Addr} {H H' : Hp} (s : Same H H') : But d H H' := fun b o _ h => s b o h
theorem But.at_ {d : Addr} {H : Hp} {o : HO} : But d H (upd H d o) := fun b x n h => by
  rw [upd_ne n]
  exact h
theorem But.new {d p : Addr} {H : Hp} {o : HO} (h : H p = none) : But d H (upd H p o) := But.of (same_upd h)
theorem But.same {d : Addr} {H0 H H' : Hp} (h0 : H0 d = none) (s : Same H0 H) (b : But d H H') : Same H0 H' := fun c o h => b c o (ne_of_none h h0) (s c o h)
theorem But.mut {d : Addr} {H0 H : Hp} {o : HO} {p : Addr} (b : But d H0 H) (h : H0 p = none) : But d H0 (upd H p o) := fun c x n e => by
  rw [upd_ne (ne_of_none e h)]
  exact b c x n e
theorem But.free {d p : Addr} {H H' : Hp} (b : But d H H') (n : p ≠ d) (h : H' p = none) : H p = none := by
  cases q : H p with
  | none => rfl
  | some o =>
    rw [b p o n q] at h
    cases h
theorem but_seq {K : PySem.W.Frag} {d a : Addr} {H H' : Hp} {xs : List V} (b : But d H H') (n : a ≠ d) (h : SqL K H a xs) : SqL K H' a xs := by
  rcases h with (h | ⟨o, h⟩) | h
  · exact .inl (.inl (b _ _ n h))
  · exact .inl (.inr ⟨o, b _ _ n h⟩)
  · exact .inr h
/-- the draws' list at d, its counter at most n -/
def Dr (P : Int → Prop) (d : Addr) (n : Nat) (H : Hp) : Prop := ∃ a b c : Int, H d = some (.lst [.int a, .int b, .int c]) ∧ P b ∧ 0 ≤ c ∧ c ≤ n
theorem Dr.same {P : Int → Prop} {d : Addr} {n : Nat} {H H' : Hp} (h : Dr P d n H) (s : Same H H') : Dr P d n H' := by
  obtain ⟨a, b, c, e, r⟩ := h
  exact ⟨a, b, c, s _ _ e, r⟩
theorem Dr.ne {P : Int → Prop} {d p : Addr} {n : Nat} {H : Hp} (h : Dr P d n H) (e : H p = none) : p ≠ d := by
  obtain ⟨a, b, c, z, _⟩ := h
  exact (ne_of_none z e).symm
theorem Dr.mono {P : Int → Prop} {d : Addr} {n m : Nat} {H : Hp} (h : Dr P d n H) (e : n ≤ m) : Dr P d m H := by
  obtain ⟨a, b, c, z, h1, h3, h4⟩ := h
  exact ⟨a, b, c, z, h1, h3, by omega⟩
theorem Dr.upd {P : Int → Prop} {d p : Addr} {n : Nat} {H : Hp} {o : HO} (h : Dr P d n H) (e : p ≠ d) : Dr P d n (L2.upd H p o) := by
  obtain ⟨a, b, c, z, r⟩ := h
  exact ⟨a, b, c, by rw [upd_ne e.symm]; exact z, r⟩
theorem yesT {σ : L2.St} {H : Hp} {A B : Hp → Prop} (h : A H) : tYes σ H (fun b H3 => if b = true then A H3 else B H3) := by
  show if true = true then A H else B H
  exact iteT h
/-! ### what is no own object -/
inductive Th (K : PySem.W.Frag) (H : Hp) : V → Prop
  | int (i : Int) : Th K H (.int i)
  | bl (b : Bool) : Th K H (.bl b)
  | str (z : Str) : Th K H (.str z)
  | non : Th K H .non
  | lst {a : Addr} (h : TyX K H (.ref a) (.type "list")) : Th K H (.ref a)
  | tup {a : Addr} (h : TyX K H (.ref a) (.type "tuple")) : Th K H (.ref a)
  | dct {a : Addr} (h : TyX K H (.ref a) (.type "dict")) : Th K H (.ref a)
def isI : V → Bool
  | .int _ => true
  | _ => false
def isB : V → Bool
  | .bl _ => true
  | _ => false
def isS : V → Bool
  | .str _ => true
  | _ => false
theorem isi_int {K : PySem.W.Frag} {H : Hp} {v : V} (h : Th K H v) : ∃ t, TyX K H v t ∧ PySem.W.kitOne K t (.type "int") = some (isI v || isB v) := by
  cases h with
  | int i => exact ⟨_, .base (.int i), kit_ty (r := true) (by decide +kernel)⟩
  | bl b => exact ⟨_, .base (.bl b), kit_ty (r := true) (by decide +kernel)⟩
  | str z => exact ⟨_, .base (.str z), kit_ty (r := false) (by decide +kernel)⟩
  | non => exact ⟨_, .base .non, kit_ty (r := false) (by decide +kernel)⟩
  | lst h => exact ⟨_, h, kit_ty (r := false) (by decide +kernel)⟩
  | tup h => exact ⟨_, h, kit_ty (r := false) (by decide +kernel)⟩
  | dct h => exact ⟨_, h, kit_ty (r := false) (by decide +kernel)⟩
theorem isi_bool {K : PySem.W.Frag} {H : Hp} {v : V} (h : Th K H v) : ∃ t, TyX K H v t ∧ PySem.W.kitOne K t (.type "bool") = some (isB v) := by
  cases h with
  | int i => exact ⟨_, .base (.int i), kit_ty (r := false) (by decide +kernel)⟩
  | bl b => exact ⟨_, .base (.bl b), kit_ty (r := true) (by decide +kernel)⟩
  | str z => exact ⟨_, .base (.str z), kit_ty (r := false) (by decide +kernel)⟩
  | non => exact ⟨_, .base .non, kit_ty (r := false) (by decide +kernel)⟩
  | lst h => exact ⟨_, h, kit_ty (r := false) (by decide +kernel)⟩
  | tup h => exact ⟨_, h, kit_ty (r := false) (by decide +kernel)⟩
  | dct h => exact ⟨_, h, kit_ty (r := false) (by decide +kernel)⟩
theorem isi_str {K : PySem.W.Frag} {H : Hp} {v : V} (h : Th K H v) : ∃ t, TyX K H v t ∧ PySem.W.kitOne K t (.type "str") = some (isS v) := by
  cases h with
  | int i => exact ⟨_, .base (.int i), kit_ty (r := false) (by decide +kernel)⟩
  | bl b => exact ⟨_, .base (.bl b), kit_ty (r := false) (by decide +kernel)⟩
  | str z => exact ⟨_, .base (.str z), kit_ty (r := true) (by decide +kernel)⟩
  | non => exact ⟨_, .base .non, kit_ty (r := false) (by decide +kernel)⟩
  | lst h => exact ⟨_, h, kit_ty (r := false) (by decide +kernel)⟩
  | tup h => exact ⟨_, h, kit_ty (r := false) (by decide +kernel)⟩
  | dct h => exact ⟨_, h, kit_ty (r := false) (by decide +kernel)⟩
/-! ### signs -/
def lower (c : Nat) : Bool := decide (97 ≤ c) && decide (c ≤ 122)
def figure (c : Nat) : Bool := decide (48 ≤ c) && decide (c ≤ 57)
theorem sgl_lt (a b : Nat) : (([a] : List Nat) < [b]) ↔ a < b := by
  rw [List.cons_lt_cons_iff]
  simp
theorem ge_a (c : Nat) : (!decide ((⟨#[c]⟩ : Str).cps.toList < ("a" : Str).cps.toList)) = decide (97 ≤ c) := by
  have e : ("a" : Str).cps.toList = [97] := by decide +kernel
  rw [e]
  show (!decide ([c] < [97])) = _
  rw [decide_eq_decide.mpr (sgl_lt c 97), ← decide_not, decide_eq_decide]
  omega
theorem le_z (c : Nat) : (!decide (("z" : Str).cps.toList < (⟨#[c]⟩ : Str).cps.toList)) = decide (c ≤ 122) := by
  have e : ("z" : Str).cps.toList = [122] := by decide +kernel
  rw [e]
  show (!decide ([122] < [c])) = _
  rw [decide_eq_decide.mpr (sgl_lt 122 c), ← decide_not, decide_eq_decide]
  omega
theorem in_az (c : Nat) : decide (c ∈ ("abcdefghijklmnopqrstuvwxyz" : Str).cps.toList) = lower c := by
  have e : ("abcdefghijklmnopqrstuvwxyz" : Str).cps.toList = (List.range 26).map (· + 97) := by decide +kernel
  unfold lower
  rw [e, ← Bool.decide_and, decide_eq_decide, List.mem_map]
  constructor
  · rintro ⟨a, ha, rfl⟩
    rw [List.mem_range] at ha
    omega
  · intro h
    exact ⟨c - 97, List.mem_range.mpr (by omega), by omega⟩
theorem in_09 (c : Nat) : decide (c ∈ ("0123456789" : Str).cps.toList) = figure c := by
  have e : ("0123456789" : Str).cps.toList = (List.range 10).map (· + 48) := by decide +kernel
  unfold figure
  rw [e, ← Bool.decide_and, decide_eq_decide, List.mem_map]
  constructor
  · rintro ⟨a, ha, rfl⟩
    rw [List.mem_range] at ha
    omega
  · intro h
    exact ⟨c - 48, List.mem_range.mpr (by omega), by omega⟩
/-! ### numbers by figures -/
open NumText TL
theorem fold_lt : ∀ (cs : List Nat) (a : Nat), AllDigits cs → a * 10 ^ cs.length ≤ cs.foldl (fun acc c => acc * 10 + (c - 48)) a ∧ cs.foldl (fun acc c => acc * 10 + (c - 48)) a < (a + 1) * 10 ^ cs.length
  | [], a, _ => by simp
  | c :: cs, a, h => by
    have hc := h.head
    have ih := fold_lt cs (a * 10 + (c - 48)) h.tail
    rw [List.foldl_cons, List.length_cons, Nat.pow_succ]
    have p : 0 < 10 ^ cs.length := Nat.pos_of_ne_zero (by simp)
    generalize 10 ^ cs.length = q at *
    refine ⟨Nat.le_trans ?_ ih.1, Nat.lt_of_lt_of_le ih.2 ?_⟩
    · have : a * (q * 10) = (a * 10) * q := by rw [Nat.mul_comm q 10, ← Nat.mul_assoc]
      rw [this]
      exact Nat.mul_le_mul_right q (by omega)
    · have : (a + 1) * (q * 10) = ((a + 1) * 10) * q := by rw [Nat.mul_comm q 10, ← Nat.mul_assoc]
      rw [this]
      exact Nat.mul_le_mul_right q (by omega)
theorem val_lt {cs : List Nat} (h : AllDigits cs) : digitsVal cs < 10 ^ cs.length := by
  have := (fold_lt cs 0 h).2
  rw [Nat.zero_add, Nat.one_mul] at this
  exact this
theorem val_ge {c : Nat} {cs : List Nat} (h : AllDigits (c :: cs)) (hc : c ≠ 48) : 10 ^ cs.length ≤ digitsVal (c :: cs) := by
  have h1 := h.head
  have := (fold_lt cs (0 * 10 + (c - 48)) h.tail).1
  refine Nat.le_trans ?_ this
  have : 1 * 10 ^ cs.length ≤ (0 * 10 + (c - 48)) * 10 ^ cs.length := Nat.mul_le_mul_right _ (by omega)
  omega
theorem val_zero {cs : List Nat} : digitsVal (48 :: cs) = digitsVal cs := rfl
/-- the figures of a number have as many signs as the word just where it has no nought ahead of others -/
theorem len_canon {c : Nat} {cs : List Nat} (h : AllDigits (c :: cs)) : (numL (digitsVal (c :: cs))).length = (c :: cs).length ↔ ¬ (c = 48 ∧ 1 < (c :: cs).length) := by
  constructor
  · rintro e ⟨rfl, hl⟩
    rw [val_zero] at e
    rw [List.length_cons] at e hl
    have := numL_len (n := digitsVal cs) (k := cs.length) (by omega) (val_lt h.tail)
    omega
  · intro hn
    by_cases hc : c = 48
    · subst hc
      have : cs = [] := by
        cases cs with
        | nil => rfl
        | cons d r =>
          exact absurd ⟨rfl, by rw [List.length_cons, List.length_cons]; omega⟩ hn
      subst this
      rw [val_zero]
      show (numL 0).length = 1
      rw [numL_lt (by decide)]
      rfl
    · have u := numL_len (n := digitsVal (c :: cs)) (k := (c :: cs).length) (by rw [List.length_cons]; omega) (val_lt h)
      have l := val_ge h hc
      have v := val_lt (numL_digits (digitsVal (c :: cs)))
      rw [numL_val] at v
      have w : 10 ^ cs.length < 10 ^ (numL (digitsVal (c :: cs))).length := Nat.lt_of_le_of_lt l v
      have := (Nat.pow_lt_pow_iff_right (by decide : 1 < 10)).mp w
      rw [List.length_cons] at *
      omega
/-- words of figures of one length and one worth are one -/
theorem fold_inj : ∀ (cs ds : List Nat) (a b : Nat), AllDigits cs → AllDigits ds → cs.length = ds.length → cs.foldl (fun acc c => acc * 10 + (c - 48)) a = ds.foldl (fun acc c => acc * 10 + (c - 48)) b → a = b ∧ cs = ds
  | [], [], a, b, _, _, _, e => ⟨e, rfl⟩
  | [], _ :: _, _, _, _, _, l, _ => by simp at l
  | _ :: _, [], _, _, _, _, l, _ => by simp at l
  | c :: cs, d :: ds, a, b, h1, h2, l, e => by
    have q := fold_inj cs ds (a * 10 + (c - 48)) (b * 10 + (d - 48)) h1.tail h2.tail (by simpa using l) e
    have hc := h1.head
    have hd := h2.head
    have e1 := q.1
    have : a = b ∧ c = d := by omega
    exact ⟨this.1, by rw [this.2, q.2]⟩
theorem canon_eq {c : Nat} {cs : List Nat} (h : AllDigits (c :: cs)) (hn : ¬ (c = 48 ∧ 1 < (c :: cs).length)) : numL (digitsVal (c :: cs)) = c :: cs :=
  (fold_inj _ _ 0 0 (numL_digits _) h ((len_canon h).mpr hn) (numL_val _)).2
section
variable {X : Cx}
/-- a text many times -/
def timesS (z : Str) (n : Nat) : Str := ⟨(List.replicate n z.cps).foldl (· ++ ·) #[]⟩
theorem times_fold (c : Nat) : ∀ (n : Nat) (a : Array Nat), ((List.replicate n #[c]).foldl (· ++ ·) a).toList = a.toList ++ List.replicate n c
  | 0, a => by simp
  | n + 1, a => by
    rw [List.replicate_succ, List.foldl_cons, times_fold c n (a ++ #[c]), Array.toList_append, List.append_assoc]
    rfl
theorem times_list {z : Str} {c n : Nat} (h : z.cps = #[c]) : (timesS z n).cps.toList = List.replicate n c := by
  unfold timesS
  show ((List.replicate n z.cps).foldl (· ++ ·) #[]).toList = _
  rw [h, times_fold c n #[]]
  rfl
theorem times_len {z : Str} {c n : Nat} (h : z.cps = #[c]) : (timesS z n).length = n := by
  show (timesS z n).cps.size = n
  rw [← Array.length_toList, times_list h, List.length_replicate]
theorem op_mulS : OpR X (binaryOp .Mult) (fun x y H Q => ∃ (z : Str) (k : Int), x = .str z ∧ y = .int k ∧ 2 ≤ k ∧ k ≤ 100000 ∧ (∃ c, z.cps = #[c]) ∧ Q (.str (timesS z k.toNat)) H) := by
  intro pins s σ H x y v u Q I rx ry h
  obtain ⟨z, k, rfl, rfl, h2, h3, ⟨c, hc⟩, q⟩ := h
  have hz : z.length = 1 := by
    show z.cps.size = 1
    rw [hc]
    rfl
  obtain ⟨t, rfl⟩ := rx
  obtain ⟨t', rfl⟩ := ry
  refine PySem.P.mul_str ?_ ?_ ?_ ?_
  · rw [decide_eq_false (by omega), decide_eq_false (by omega)]
    rfl
  · intro _ _
    rw [hz]
    have : (1 : Int) ≤ (2 ^ 63 - 1) / k := by
      have : (2 ^ 63 - 1 : Int) / k ≥ 1 := (Int.le_ediv_iff_mul_le (by omega)).mpr (by omega)
      exact this
    omega
  · intro _ _
    rw [hz]
    exact decide_eq_false (by
      have : (100000 : Nat) ≤ sizeLine := by decide
      show ¬ _ > _
      omega)
  · have hk1 : (k == 1) = false := by
      rw [beq_eq_false_iff_ne]
      omega
    rw [if_neg (by omega), if_neg (by rw [hk1, hz]; decide)]
    refine ⟨?_, ⟨.str (timesS z k.toNat), H, I.tok _, ⟨_, rfl⟩, q⟩⟩
    have e := times_len (n := k.toNat) hc
    have : (100000 : Nat) ≤ sizeLine := by decide
    show (timesS z k.toNat).length ≤ sizeLine
    omega
end

/-! ### comprehensions over a text -/
/-- [truth of each sign] -/
theorem lc_all {z : Str} {H : Hp} {D : Addr} (hD : H D = none) (hz : z.length ≤ 100000) (f : Nat → Bool) {g : TG} {tt : TT} {te : TE} {vs : List Nat} {σ : L2.St} {Qd : Hp → Prop}
    (turn : ∀ (c : Nat) (H2 : Hp) (R : V → Hp → Prop) (C : Hp → Prop), Same H H2 → R (.bl (f c)) H2 → g (.str ⟨#[c]⟩) (wipe σ vs) H2 fun σ2 H2 => wipe σ2 vs = wipe σ vs ∧ tt σ2 H2 fun b H3 => if b = true then te σ2 H3 R else C H3)
    (fin : ∀ H', Same H H' → H' D = some (.lst ((z.cps.toList.map f).map V.bl)) → Qd H') :
    ∃ W : Nat → Nat → Hp → Prop, (∃ m, W 0 m (upd H D (.lst []))) ∧ ∀ i m H, W i m H →
      ((Its z).stop i H ∧ Qd H) ∨ ((Its z).go i H ∧ ∃ Nx : Hp → Prop, (∀ H', Nx H' → ∃ m', m' < m ∧ W (i + 1) m' H') ∧ ∀ x H', (Its z).yld i H x H' → g x (wipe σ vs) H' fun σ2 H2 => wipe σ2 vs = wipe σ vs ∧ tt σ2 H2 fun b H3 =>
        if b = true then te σ2 H3 fun y H4 => ∃ acc, H4 D = some (.lst acc) ∧ acc.length < sizeLine ∧ Nx (upd H4 D (.lst (acc ++ [y]))) else Nx H3) := by
  have hzl : z.length ≤ sizeLine := Nat.le_trans hz (by decide)
  refine lc_it walk_str (fun i H' => Same H H' ∧ H' D = some (.lst (((z.cps.toList.take i).map f).map V.bl))) ⟨same_upd hD, upd_same⟩ (fun _ _ _ _ => trivial) ?_ ?_
  · rintro i x H1 H2 hi ⟨s1, e1⟩ ⟨rfl, c, hc, rfl⟩
    refine turn c _ _ _ s1 ?_
    have hc' : z.cps.toList[i]? = some c := by rw [Array.getElem?_toList]; exact hc
    refine ⟨_, e1, ?_, fun b o h => ?_, ?_⟩
    · rw [List.length_map, List.length_map, List.length_take]
      exact Nat.lt_of_le_of_lt (Nat.min_le_left _ _) (Nat.lt_of_lt_of_le hi hzl)
    · rw [upd_ne (ne_of_none h hD)]
      exact s1 _ _ h
    · rw [upd_same, List.take_add_one, hc', List.map_append, List.map_append]
      rfl
  · rintro H' ⟨s1, e1⟩
    have ef : z.cps.toList.take z.cps.size = z.cps.toList := List.take_of_length_le (by rw [Array.length_toList]; exact Nat.le_refl _)
    rw [ef] at e1
    exact fin H' s1 e1
def sg (c : Nat) : V := .str ⟨#[c]⟩
/-- [sign for sign in text if ..] -/
theorem lc_filter {z : Str} {H : Hp} {D : Addr} (hD : H D = none) (hz : z.length ≤ 100000) (f : Nat → Bool) {g : TG} {tt : TT} {te : TE} {vs : List Nat} {σ : L2.St} {Qd : Hp → Prop}
    (turn : ∀ (c : Nat) (H2 : Hp) (R : V → Hp → Prop) (C : Hp → Prop), Same H H2 → (f c = true → R (sg c) H2) → (f c = false → C H2) → g (.str ⟨#[c]⟩) (wipe σ vs) H2 fun σ2 H2 => wipe σ2 vs = wipe σ vs ∧ tt σ2 H2 fun b H3 => if b = true then te σ2 H3 R else C H3)
    (fin : ∀ H', Same H H' → H' D = some (.lst ((z.cps.toList.filter f).map sg)) → Qd H') :
    ∃ W : Nat → Nat → Hp → Prop, (∃ m, W 0 m (upd H D (.lst []))) ∧ ∀ i m H, W i m H →
      ((Its z).stop i H ∧ Qd H) ∨ ((Its z).go i H ∧ ∃ Nx : Hp → Prop, (∀ H', Nx H' → ∃ m', m' < m ∧ W (i + 1) m' H') ∧ ∀ x H', (Its z).yld i H x H' → g x (wipe σ vs) H' fun σ2 H2 => wipe σ2 vs = wipe σ vs ∧ tt σ2 H2 fun b H3 =>
        if b = true then te σ2 H3 fun y H4 => ∃ acc, H4 D = some (.lst acc) ∧ acc.length < sizeLine ∧ Nx (upd H4 D (.lst (acc ++ [y]))) else Nx H3) := by
  have hzl : z.length ≤ sizeLine := Nat.le_trans hz (by decide)
  refine lc_it walk_str (fun i H' => Same H H' ∧ H' D = some (.lst (((z.cps.toList.take i).filter f).map sg))) ⟨same_upd hD, upd_same⟩ (fun _ _ _ _ => trivial) ?_ ?_
  · rintro i x H1 H2 hi ⟨s1, e1⟩ ⟨rfl, c, hc, rfl⟩
    have hc' : z.cps.toList[i]? = some c := by rw [Array.getElem?_toList]; exact hc
    refine turn c _ _ _ s1 (fun hf => ?_) (fun hf => ?_)
    · refine ⟨_, e1, ?_, fun b o h => ?_, ?_⟩
      · rw [List.length_map]
        refine Nat.lt_of_le_of_lt (List.length_filter_le _ _) ?_
        rw [List.length_take]
        exact Nat.lt_of_le_of_lt (Nat.min_le_left _ _) (Nat.lt_of_lt_of_le hi hzl)
      · rw [upd_ne (ne_of_none h hD)]
        exact s1 _ _ h
      · rw [upd_same, List.take_add_one, hc', List.filter_append, List.map_append]
        show _ = some (HO.lst (_ ++ List.map sg (List.filter f [c])))
        rw [List.filter_cons_of_pos hf]
        rfl
    · refine ⟨s1, ?_⟩
      rw [e1, List.take_add_one, hc', List.filter_append, List.map_append]
      show _ = some (HO.lst (_ ++ List.map sg (List.filter f [c])))
      rw [List.filter_cons_of_neg (by rw [hf]; exact Bool.false_ne_true)]
      show _ = some (HO.lst (_ ++ []))
      rw [List.append_nil]
  · rintro H' ⟨s1, e1⟩
    have ef : z.cps.toList.take z.cps.size = z.cps.toList := List.take_of_length_le (by rw [Array.length_toList]; exact Nat.le_refl _)
    rw [ef] at e1
    exact fin H' s1 e1
/-- a list of signs beside [] -/
theorem dp_signs {K : PySem.W.Frag} {H : Hp} : ∀ cs : List Nat, DpAll K H (cs.map sg) (cs.map fun c => PyData.str ⟨#[c]⟩)
  | [] => .nil
  | c :: cs => .cons (.str _) (dp_signs cs)
theorem eqv_nil (ds : List PyData) : PyData.eqv (.list ds) (.list []) = ds.isEmpty := by
  cases ds with
  | nil => rfl
  | cons d r => rfl
theorem lay_signs : ∀ cs : List Nat, (∀ c ∈ cs, c < 128) → PyData.canLayAll0 (cs.map fun c => PyData.str ⟨#[c]⟩) = true
  | [], _ => rfl
  | c :: r, h => by
    have h1 := h c (List.mem_cons_self ..)
    have h2 := lay_signs r fun d hd => h d (List.mem_cons_of_mem _ hd)
    show (PyData.canLay0 (.str ⟨#[c]⟩) && PyData.canLayAll0 (r.map fun c => PyData.str ⟨#[c]⟩)) = true
    rw [h2, Bool.and_true]
    show (#[c].all (· < 0x110000)) = true
    simp
    omega
theorem dep_signs : ∀ cs : List Nat, PyData.depthAll (cs.map fun c => PyData.str ⟨#[c]⟩) = 0
  | [] => rfl
  | c :: r => by
    show max 0 (PyData.depthAll (r.map fun c => PyData.str ⟨#[c]⟩)) = 0
    rw [dep_signs r]
    rfl
theorem shp_signs {cs : List Nat} (h : ∀ c ∈ cs, c < 128) : SeqAt.shaped (.list (cs.map fun c => PyData.str ⟨#[c]⟩)) = true := by
  unfold SeqAt.shaped
  have e1 : PyData.canLay0 (.list (cs.map fun c => PyData.str ⟨#[c]⟩)) = true := lay_signs cs h
  have e2 : PyData.depth (.list (cs.map fun c => PyData.str ⟨#[c]⟩)) = 1 := by
    show PyData.depthAll _ + 1 = 1
    rw [dep_signs]
  rw [e1, e2]
  rfl
/-- signs below 128 alone -/
def Asc (z : Str) : Prop := ∀ c ∈ z.cps.toList, c < 128
theorem asc_cut {z : Str} (h : Asc z) (lo hi : Option Int) : Asc (cutS z lo hi) := fun c hc => h c (List.mem_of_mem_drop (List.mem_of_mem_take hc))
theorem asc_app {x y : Str} (hx : Asc x) (hy : Asc y) : Asc (x ++ y) := fun c hc => by
  have hc : c ∈ TL.tl (x ++ y) := hc
  rw [TL.tl_append] at hc
  rcases List.mem_append.mp hc with h | h
  · exact hx c h
  · exact hy c h
theorem asc_upper {z : Str} (h : Asc z) : Asc (Txt.upper z) ∧ (Txt.upper z).length = z.length := by
  rw [PyProof.Rows.upper_ascii h]
  refine ⟨fun c hc => ?_, ?_⟩
  · have hc : c ∈ (z.cps.map PyProof.Rows.up1).toList := hc
    rw [Array.toList_map] at hc
    obtain ⟨a, ha, rfl⟩ := List.mem_map.mp hc
    have := h a ha
    unfold PyProof.Rows.up1
    split <;> omega
  · show (z.cps.map PyProof.Rows.up1).size = z.cps.size
    rw [Array.size_map]
theorem asc_of {z : Str} {cs : List Nat} (h : z.cps.toList = cs) (hl : ∀ c ∈ cs, c < 128) : Asc z := fun c hc => hl c (by rw [← h]; exact hc)
theorem lower_lt {c : Nat} (h : lower c = true) : c < 128 := by
  unfold lower at h
  simp only [Bool.and_eq_true, decide_eq_true_eq] at h
  omega
theorem figure_lt {c : Nat} (h : figure c = true) : c < 128 := by
  unfold figure at h
  simp only [Bool.and_eq_true, decide_eq_true_eq] at h
  omega
theorem filter_none {l : List Nat} {f : Nat → Bool} : (l.filter (fun c => !f c)).isEmpty = l.all f := by
  induction l with
  | nil => rfl
  | cons c r ih =>
    rw [List.filter_cons, List.all_cons]
    cases h : f c with
    | true => simpa using ih
    | false => rfl
theorem str_sign {c d : Nat} {z : Str} (h : z.cps = #[d]) : decide (V.str ⟨#[c]⟩ = V.str z) = decide (c = d) := by
  obtain ⟨z⟩ := z
  rw [decide_eq_decide]
  constructor
  · intro e
    injection e with e
    injection e with e
    rw [show z = #[d] from h] at e
    injection e with e
    injection e
  · rintro rfl
    rw [show z = #[c] from h]
/-! ### a text joined of signs -/
open TL
theorem join_signs : ∀ cs : List Nat, joinL [] ((cs.map fun c => (⟨#[c]⟩ : Str)).map tl) = cs
  | [] => rfl
  | [c] => rfl
  | c :: d :: r => by
    show [c] ++ ([] ++ joinL [] (((d :: r).map fun c => (⟨#[c]⟩ : Str)).map tl)) = c :: d :: r
    rw [join_signs (d :: r)]
    rfl
theorem join_text {y : Str} (hy : tl y = []) (cs : List Nat) : (Txt.join y (cs.map fun c => (⟨#[c]⟩ : Str))).cps.toList = cs := by
  show tl (Txt.join y _) = cs
  rw [join_eq, tl_join, hy, join_signs]
theorem size_signs : ∀ cs : List Nat, ((cs.map fun c => (⟨#[c]⟩ : Str)).map (·.length)).sum = cs.length
  | [] => rfl
  | c :: r => by
    rw [List.map_cons, List.map_cons, List.sum_cons, size_signs r, List.length_cons]
    show 1 + r.length = _
    omega

/-- [.. for _ in range(k)], each a drawn sign -/
theorem lc_draw {P : Int → Prop} {d D : Addr} {n k : Nat} {H1 : Hp} (hD : H1 D = none) (dr : Dr P d n H1) (hk : k ≤ 1000) (p : Nat → Bool) {g : TG} {tt : TT} {te : TE} {vs : List Nat} {σ : L2.St} {Qd : Hp → Prop}
    (turn : ∀ (i : Nat) (H2 : Hp) (R : V → Hp → Prop) (C : Hp → Prop), i < k → Dr P d (n + i) H2 → (∀ H3 c, p c = true → But d H2 H3 → Dr P d (n + i + 1) H3 → R (sg c) H3) → g (.int (0 + i)) (wipe σ vs) H2 fun σ2 H2 => wipe σ2 vs = wipe σ vs ∧ tt σ2 H2 fun b H3 => if b = true then te σ2 H3 R else C H3)
    (fin : ∀ H' (cs : List Nat), cs.length = k → (∀ c ∈ cs, p c = true) → But d H1 H' → Dr P d (n + k) H' → H' D = some (.lst (cs.map sg)) → Qd H') :
    ∃ W : Nat → Nat → Hp → Prop, (∃ m, W 0 m (upd H1 D (.lst []))) ∧ ∀ i m H, W i m H →
      ((Itr 0 k).stop i H ∧ Qd H) ∨ ((Itr 0 k).go i H ∧ ∃ Nx : Hp → Prop, (∀ H', Nx H' → ∃ m', m' < m ∧ W (i + 1) m' H') ∧ ∀ x H', (Itr 0 k).yld i H x H' → g x (wipe σ vs) H' fun σ2 H2 => wipe σ2 vs = wipe σ vs ∧ tt σ2 H2 fun b H3 =>
        if b = true then te σ2 H3 fun y H4 => ∃ acc, H4 D = some (.lst acc) ∧ acc.length < sizeLine ∧ Nx (upd H4 D (.lst (acc ++ [y]))) else Nx H3) := by
  have nD : D ≠ d := dr.ne hD
  refine lc_range (lo := 0) (n := k) (fun i H' => ∃ cs : List Nat, cs.length = i ∧ (∀ c ∈ cs, p c = true) ∧ But d H1 H' ∧ Dr P d (n + i) H' ∧ H' D = some (.lst (cs.map sg))) ⟨[], rfl, (fun _ h => nomatch h), But.new hD, dr.upd nD, upd_same⟩ ?_ ?_
  · rintro i H2 hi ⟨cs, hl, hp, b2, dr2, e2⟩
    refine turn i H2 _ _ hi dr2 fun H3 c hc b3 dr3 => ?_
    refine ⟨_, b3 _ _ nD e2, ?_, cs ++ [c], ?_, ?_, ?_, ?_, ?_⟩
    · rw [List.length_map, hl]
      exact Nat.lt_of_lt_of_le (show i < 1000 by omega) (by decide)
    · rw [List.length_append, hl]
      rfl
    · intro x hx
      rcases List.mem_append.mp hx with h | h
      · exact hp x h
      · rw [List.mem_singleton.mp h]
        exact hc
    · exact (b2.trans b3).mut hD
    · exact (dr3.upd nD).mono (by omega)
    · rw [upd_same, List.map_append]
      rfl
  · rintro H' ⟨cs, hl, hp, b, dr', e⟩
    exact fin H' cs hl hp b dr' e
theorem map_sg (cs : List Nat) : (cs.map fun c => (⟨#[c]⟩ : Str)).map V.str = cs.map sg := by
  rw [List.map_map]
  rfl
theorem join_len {y : Str} (hy : TL.tl y = []) (cs : List Nat) : (Txt.join y (cs.map fun c => (⟨#[c]⟩ : Str))).length = cs.length := by
  have := join_text hy cs
  show (Txt.join y (cs.map fun c => (⟨#[c]⟩ : Str))).cps.size = _
  rw [← Array.length_toList, this]
theorem az_at {r : Int} (h0 : 0 ≤ r) (h1 : r < 26) : ∃ c, atI ("abcdefghijklmnopqrstuvwxyz" : Str).cps.toList r = some c ∧ lower c = true := by
  obtain ⟨j, rfl⟩ : ∃ j : Nat, r = (j : Int) := ⟨r.toNat, by omega⟩
  have e : ("abcdefghijklmnopqrstuvwxyz" : Str).cps.toList = (List.range 26).map (· + 97) := by decide +kernel
  refine ⟨j + 97, atI_nat ?_, ?_⟩
  · rw [e, List.getElem?_map, List.getElem?_range (by omega)]
    rfl
  · unfold lower
    rw [decide_eq_true (by omega), decide_eq_true (by omega)]
    rfl
theorem fig_at {r : Int} (h0 : 0 ≤ r) (h1 : r < 10) : ∃ c, atI ("0123456789" : Str).cps.toList r = some c ∧ figure c = true := by
  obtain ⟨j, rfl⟩ : ∃ j : Nat, r = (j : Int) := ⟨r.toNat, by omega⟩
  have e : ("0123456789" : Str).cps.toList = (List.range 10).map (· + 48) := by decide +kernel
  refine ⟨j + 48, atI_nat ?_, ?_⟩
  · rw [e, List.getElem?_map, List.getElem?_range (by omega)]
    rfl
  · unfold figure
    rw [decide_eq_true (by omega), decide_eq_true (by omega)]
    rfl
theorem log_small {m : Int} (h0 : 0 < m) (h : m < 2 ^ 200) : m.natAbs.log2 < 9000 := by
  refine Nat.lt_of_lt_of_le (PySem.Flt.log2_lt_of (k := 200) (by decide) ?_) (by decide)
  have e : ((2 : Int) ^ 200) = ((2 ^ 200 : Nat) : Int) := by decide
  rw [e] at h
  omega
theorem log_tiny {m : Int} (h0 : 0 < m) (h : m < 1000000000000000000000000000000) : m.natAbs.log2 < 9000 := log_small h0 (Int.lt_trans h (by decide))
theorem at_str {z : Str} {r : Int} (h0 : 0 ≤ r) (h1 : r < (z.length : Int)) : ∃ c, atI z.cps.toList r = some c ∧ c ∈ z.cps.toList := by
  obtain ⟨j, rfl⟩ : ∃ j : Nat, r = (j : Int) := ⟨r.toNat, by omega⟩
  have hj : j < z.cps.toList.length := by
    have : z.cps.toList.length = z.length := Array.length_toList
    omega
  exact ⟨_, atI_nat (List.getElem?_eq_getElem hj), List.getElem_mem hj⟩
theorem sz (n : Nat) (h : n ≤ 100000) : n ≤ sizeLine := Nat.le_trans h (by decide)
theorem tyx_same {K : PySem.W.Frag} {H H' : Hp} (s : Same H H') {v : V} {t : Value} (h : TyX K H v t) : TyX K H' v t := by
  cases h with
  | base h =>
    cases h with
    | non => exact .base .non
    | bl b => exact .base (.bl b)
    | int i => exact .base (.int i)
    | str z => exact .base (.str z)
    | flt x => exact .base (.flt x)
    | lst e => exact .base (.lst (s _ _ e))
    | frz e => exact .base (.frz (s _ _ e))
    | tup e => exact .base (.tup (s _ _ e))
    | dK e => exact .base (.dK (s _ _ e))
    | dT e => exact .base (.dT (s _ _ e))
    | ins e cl ha hn htk hm => exact .base (.ins (s _ _ e) cl ha hn htk hm)
  | byt b => exact .byt b
  | set e => exact .set (s _ _ e)
  | kList e c => exact .kList e c
  | kTuple e c => exact .kTuple e c
  | kDict e c => exact .kDict e c
  | fTuple e => exact .fTuple (s _ _ e)
  | fDict e => exact .fDict (s _ _ e)
theorem Th.same {K : PySem.W.Frag} {H H' : Hp} (s : Same H H') {v : V} (h : Th K H v) : Th K H' v := by
  cases h with
  | int i => exact .int i
  | bl b => exact .bl b
  | str z => exact .str z
  | non => exact .non
  | lst h => exact .lst (tyx_same s h)
  | tup h => exact .tup (tyx_same s h)
  | dct h => exact .dct (tyx_same s h)
theorem cells_int {ns : List Int} {n : Int} {lo hi : Option Int} {i : Nat} {x : V} (h : ([V.int n] ++ cutV (ns.map V.int) lo hi)[i]? = some x) : ∃ k, x = .int k := by
  have hm := List.mem_of_getElem? h
  rcases List.mem_append.mp hm with h | h
  · exact ⟨n, List.mem_singleton.mp h⟩
  · have := List.mem_of_mem_drop (List.mem_of_mem_take h)
    obtain ⟨k, _, rfl⟩ := List.mem_map.mp this
    exact ⟨k, rfl⟩
section
variable {P : Program} {w : World} {K : PySem.W.Frag} {mg : Str → Option Value} {base : Heap} {x qual : Str} {params : Arguments} {body : List Stmt} {scope : Scope} {dvs : List V} {kws : List (Str × V)} {f : Addr} {fd : FuncData}
theorem okD {N ps : List Str} {k : Nat} {sp : Sp} (F : FunD K x qual params body scope dvs kws f fd) (S : FnScope N ps scope) (len : ∀ vs H Q E, sp vs H Q E → vs.length = ps.length)
    (hbody : ∀ (cdv : Value) (A : Around) (outer : List Env) (s : Shared) (H : Hp) (vs : List V) (Q : VK) (E : XK), Room k (A.deeper (envOfC qual scope s.heap.objs.size f cdv)) → sp vs H Q E →
      ∃ t, PSs (cxOf CX0 P w K mg base N qual scope f cdv A outer s H E).nox body t ∧ t { nx := fun _ H' => Q .non H', rt := Q } (start N vs) H) : FnOk P w K mg base CX0 (k + 1) f fd ps sp :=
  F.ok S len fun cdv A outer s H vs Q E hr h => by
    obtain ⟨t, h, q⟩ := hbody cdv A outer s H vs Q E hr h
    exact ⟨t, h.nox, q⟩
end
end KA
namespace KA
open PySem PySem.Spec PyProof.Rows L2
/-- what is no list is as it was -/
def NL (H H' : Hp) : Prop := ∀ b o, (∀ xs, o ≠ .lst xs) → H b = some o → H' b = some o
theorem NL.of {H H' : Hp} (s : Same H H') : NL H H' := fun b o _ h => s b o h
theorem NL.at_ {H : Hp} {D : Addr} {xs : List V} {o : HO} (h : H D = some (.lst xs)) : NL H (upd H D o) := fun b u n e => by
  have : b ≠ D := fun z => by
    rw [z, h] at e
    exact n xs (Option.some.inj e).symm
  rw [upd_ne this]
  exact e
theorem NL.trans {H H1 H2 : Hp} (a : NL H H1) (b : NL H1 H2) : NL H H2 := fun c o n h => b c o n (a c o n h)
/-- a comprehension over a list: what it makes is told by G -/
theorem lc_gen {K : PySem.W.Frag} {a : Addr} {xs : List V} {H : Hp} {D : Addr} (hD : H D = none) (hS : SqL K H a xs) (hl : xs.length ≤ 10000) (G : Nat → V → Hp → Prop) (hG : ∀ j v H1 H2, NL H1 H2 → G j v H1 → G j v H2)
    {g : TG} {tt : TT} {te : TE} {vs : List Nat} {σ : L2.St} {Qd : Hp → Prop}
    (turn : ∀ (i : Nat) (x : V) (H2 : Hp) (R : V → Hp → Prop) (C : Hp → Prop), xs[i]? = some x → Same H H2 → (∀ v H3, Same H2 H3 → G i v H3 → R v H3) → g x (wipe σ vs) H2 fun σ2 H2 => wipe σ2 vs = wipe σ vs ∧ tt σ2 H2 fun b H3 => if b = true then te σ2 H3 R else C H3)
    (fin : ∀ H' acc, Same H H' → H' D = some (.lst acc) → acc.length = xs.length → (∀ j v, acc[j]? = some v → G j v H') → Qd H') :
    ∃ W : Nat → Nat → Hp → Prop, (∃ m, W 0 m (upd H D (.lst []))) ∧ ∀ i m H, W i m H →
      ((Itl K a).stop i H ∧ Qd H) ∨ ((Itl K a).go i H ∧ ∃ Nx : Hp → Prop, (∀ H', Nx H' → ∃ m', m' < m ∧ W (i + 1) m' H') ∧ ∀ x H', (Itl K a).yld i H x H' → g x (wipe σ vs) H' fun σ2 H2 => wipe σ2 vs = wipe σ vs ∧ tt σ2 H2 fun b H3 =>
        if b = true then te σ2 H3 fun y H4 => ∃ acc, H4 D = some (.lst acc) ∧ acc.length < sizeLine ∧ Nx (upd H4 D (.lst (acc ++ [y]))) else Nx H3) := by
  refine lc_list (K := K) (a := a) (xs := xs) (fun i H' => Same H H' ∧ ∃ acc, H' D = some (.lst acc) ∧ acc.length = i ∧ ∀ j v, acc[j]? = some v → G j v H') ⟨same_upd hD, [], upd_same, rfl, fun j v h => by simp at h⟩ (fun i H' _ h => h.1.seq hS) ?_ ?_
  · rintro i x H2 hi ⟨s2, acc, e2, l2, g2⟩
    have hil : i < xs.length := (List.getElem?_eq_some_iff.mp hi).1
    refine turn i x H2 _ _ hi s2 fun v H3 s3 hv => ?_
    have e3 := s3 _ _ e2
    refine ⟨acc, e3, ?_, fun b o h => ?_, acc ++ [v], upd_same, ?_, fun j w hj => ?_⟩
    · rw [l2]
      exact Nat.lt_of_lt_of_le (show i < 10000 by omega) (by decide)
    · rw [upd_ne (ne_of_none h hD)]
      exact s3 _ _ (s2 _ _ h)
    · rw [List.length_append, l2]
      rfl
    · refine hG j w H3 _ (NL.at_ e3) ?_
      by_cases h : j < acc.length
      · rw [List.getElem?_append_left h] at hj
        exact hG j w H2 H3 (NL.of s3) (g2 j w hj)
      · rw [List.getElem?_append_right (by omega)] at hj
        have : j = i := by
          have := (List.getElem?_eq_some_iff.mp hj).1
          rw [List.length_singleton] at this
          omega
        subst this
        rw [l2, Nat.sub_self] at hj
        have : v = w := Option.some.inj hj
        subst this
        exact hv
  · rintro H' ⟨s, acc, e, l, g⟩
    exact fin H' acc s e l g
/-- .. whose values are f of the place -/
theorem lc_vals {K : PySem.W.Frag} {a : Addr} {xs : List V} {H : Hp} {D : Addr} (hD : H D = none) (hS : SqL K H a xs) (hl : xs.length ≤ 10000) (f : Nat → V)
    {g : TG} {tt : TT} {te : TE} {vs : List Nat} {σ : L2.St} {Qd : Hp → Prop}
    (turn : ∀ (i : Nat) (x : V) (H2 : Hp) (R : V → Hp → Prop) (C : Hp → Prop), xs[i]? = some x → Same H H2 → R (f i) H2 → g x (wipe σ vs) H2 fun σ2 H2 => wipe σ2 vs = wipe σ vs ∧ tt σ2 H2 fun b H3 => if b = true then te σ2 H3 R else C H3)
    (fin : ∀ H', Same H H' → H' D = some (.lst ((List.range xs.length).map f)) → Qd H') :
    ∃ W : Nat → Nat → Hp → Prop, (∃ m, W 0 m (upd H D (.lst []))) ∧ ∀ i m H, W i m H →
      ((Itl K a).stop i H ∧ Qd H) ∨ ((Itl K a).go i H ∧ ∃ Nx : Hp → Prop, (∀ H', Nx H' → ∃ m', m' < m ∧ W (i + 1) m' H') ∧ ∀ x H', (Itl K a).yld i H x H' → g x (wipe σ vs) H' fun σ2 H2 => wipe σ2 vs = wipe σ vs ∧ tt σ2 H2 fun b H3 =>
        if b = true then te σ2 H3 fun y H4 => ∃ acc, H4 D = some (.lst acc) ∧ acc.length < sizeLine ∧ Nx (upd H4 D (.lst (acc ++ [y]))) else Nx H3) := by
  refine lc_gen hD hS hl (fun j v _ => v = f j) (fun _ _ _ _ _ h => h) (fun i x H2 R C hi s hR => turn i x H2 R C hi s (hR _ _ (Same.refl _) rfl)) fun H' acc s e l g => fin H' s ?_
  rw [e]
  congr 2
  refine List.ext_getElem? fun j => ?_
  by_cases h : j < xs.length
  · rw [List.getElem?_map, List.getElem?_range h]
    have : j < acc.length := by omega
    rw [List.getElem?_eq_getElem this]
    exact congrArg some (g j _ (List.getElem?_eq_getElem this))
  · rw [List.getElem?_eq_none (by omega), List.getElem?_eq_none (by rw [List.length_map, List.length_range]; omega)]
/-- a comprehension over a list that leaves some out; the heap stays -/
theorem lc_some {K : PySem.W.Frag} {a : Addr} {xs : List V} {H : Hp} {D : Addr} (hD : H D = none) (hS : SqL K H a xs) (hl : xs.length ≤ 10000) (p : V → Bool) (f : V → V)
    {g : TG} {tt : TT} {te : TE} {vs : List Nat} {σ : L2.St} {Qd : Hp → Prop}
    (turn : ∀ (i : Nat) (x : V) (H2 : Hp) (R : V → Hp → Prop) (C : Hp → Prop), xs[i]? = some x → Same H H2 → (p x = true → R (f x) H2) → (p x = false → C H2) → g x (wipe σ vs) H2 fun σ2 H2 => wipe σ2 vs = wipe σ vs ∧ tt σ2 H2 fun b H3 => if b = true then te σ2 H3 R else C H3)
    (fin : ∀ H', Same H H' → H' D = some (.lst ((xs.filter p).map f)) → Qd H') :
    ∃ W : Nat → Nat → Hp → Prop, (∃ m, W 0 m (upd H D (.lst []))) ∧ ∀ i m H, W i m H →
      ((Itl K a).stop i H ∧ Qd H) ∨ ((Itl K a).go i H ∧ ∃ Nx : Hp → Prop, (∀ H', Nx H' → ∃ m', m' < m ∧ W (i + 1) m' H') ∧ ∀ x H', (Itl K a).yld i H x H' → g x (wipe σ vs) H' fun σ2 H2 => wipe σ2 vs = wipe σ vs ∧ tt σ2 H2 fun b H3 =>
        if b = true then te σ2 H3 fun y H4 => ∃ acc, H4 D = some (.lst acc) ∧ acc.length < sizeLine ∧ Nx (upd H4 D (.lst (acc ++ [y]))) else Nx H3) := by
  refine lc_list (K := K) (a := a) (xs := xs) (fun i H' => Same H H' ∧ H' D = some (.lst (((xs.take i).filter p).map f))) ⟨same_upd hD, upd_same⟩ (fun i H' _ h => h.1.seq hS) ?_ ?_
  · rintro i x H2 hi ⟨s2, e2⟩
    have hil : i < xs.length := (List.getElem?_eq_some_iff.mp hi).1
    refine turn i x H2 _ _ hi s2 (fun hp => ?_) (fun hp => ?_)
    · refine ⟨_, e2, ?_, fun b o h => ?_, ?_⟩
      · rw [List.length_map]
        refine Nat.lt_of_le_of_lt (List.length_filter_le _ _) ?_
        rw [List.length_take]
        exact Nat.lt_of_le_of_lt (Nat.min_le_left _ _) (Nat.lt_of_lt_of_le (show i < 10000 by omega) (by decide))
      · rw [upd_ne (ne_of_none h hD)]
        exact s2 _ _ h
      · rw [upd_same, List.take_add_one, hi, List.filter_append, List.map_append]
        show _ = some (HO.lst (_ ++ List.map f (List.filter p [x])))
        rw [List.filter_cons_of_pos hp]
        rfl
    · refine ⟨s2, ?_⟩
      rw [e2, List.take_add_one, hi, List.filter_append, List.map_append]
      show _ = some (HO.lst (_ ++ List.map f (List.filter p [x])))
      rw [List.filter_cons_of_neg (by rw [hp]; exact Bool.false_ne_true)]
      show _ = some (HO.lst (_ ++ []))
      rw [List.append_nil]
  · rintro H' ⟨s, e⟩
    rw [List.take_of_length_le (Nat.le_refl _)] at e
    exact fin H' s e
theorem cut_to (xs : List V) (i : Nat) : cutV xs none (some (i : Int)) = xs.take i := by
  unfold cutV
  rw [HT.sIx_none, show HT.sIx xs.length xs.length (some (i : Int)) = min i xs.length from HT.sIx_nat xs.length xs.length i, Nat.sub_zero, List.drop_zero]
  by_cases h : i ≤ xs.length
  · rw [Nat.min_eq_left h]
  · rw [Nat.min_eq_right (by omega), List.take_of_length_le (Nat.le_refl _), List.take_of_length_le (by omega)]
theorem cut_from (xs : List V) (i : Nat) : cutV xs (some (i : Int)) none = xs.drop i := by
  unfold cutV
  rw [HT.sIx_none, show HT.sIx xs.length 0 (some (i : Int)) = min i xs.length from HT.sIx_nat xs.length 0 i]
  by_cases h : i ≤ xs.length
  · rw [Nat.min_eq_left h, List.take_of_length_le (by rw [List.length_drop]; omega)]
  · rw [Nat.min_eq_right (by omega), List.drop_of_length_le (Nat.le_refl _), List.drop_of_length_le (by omega)]
    exact List.take_nil
section
variable {X : Cx} {K' : PySem.W.Frag}
/-! the rules with the written part by its own name (for blocks) -/
theorem pe_fldK (hK : X.K = K') {e : Expr} {f : Str} {pos : Pos} {ta : TE} (ha : PE X e ta) (hb : attributeBase e f X.env (eval e X.env) = eval e X.env) : PE X (.Attribute e f pos) (tFld K' ta f) := by
  subst hK
  exact pe_fld ha hb
theorem ix_listK (hK : X.K = K') : IxR X (rIxL K') := by
  subst hK
  exact ix_list
theorem ix_tupK (hK : X.K = K') : IxR X (rIxT K') := by
  subst hK
  exact ix_tup
theorem sl_listK (hK : X.K = K') : SlR X (rSlL K') := by
  subst hK
  exact sl_list
theorem sl_tupAK (hK : X.K = K') : SlR X (rSlA K') := by
  subst hK
  exact sl_tupA
theorem op_eqDK (hK : X.K = K') (hu : X.A.units + 64 < cLine) : OpR X (compareOp .Eq) (rEqD K') := by
  subst hK
  exact op_eqD hu
theorem op_neDK (hK : X.K = K') (hu : X.A.units + 64 < cLine) : OpR X (compareOp .NotEq) (rNeD K') := by
  subst hK
  exact op_neD hu
theorem op_in_seqK (hK : X.K = K') : OpR X (compareOp .In) (rIn K' false) := by
  subst hK
  exact op_in_seq
end
section
variable {X : Cx}
/-- a statement and what follows it, with a word between -/
def tCutJ (t u : TS) : TS := fun D σ H => ∃ Mid : L2.St → Hp → Prop, t { D with nx := Mid } σ H ∧ ∀ σ' H', Mid σ' H' → u D σ' H'
theorem pss_cutJ {st : Stmt} {rest : List Stmt} {t u : TS} (h1 : PS X st t) (h2 : PSs X rest u) : PSs X (st :: rest) (tCutJ t u) := by
  refine ⟨fun pins s σ H D I h => ?_⟩
  obtain ⟨Mid, hm, hu⟩ := h
  refine wpAny_execs_cons (thn (h1.run pins s σ H { D with nx := Mid } I hm) fun f s1 q => ?_)
  cases f with
  | next =>
    obtain ⟨σ', H', I', q⟩ := q
    exact h2.run pins s1 σ' H' D I' (hu σ' H' q)
  | ret v => exact q
  | brk => exact q
  | cont => exact q
end
theorem nl_tup {K : PySem.W.Frag} {H H' : Hp} {a : Addr} {xs : List V} (s : NL H H') (h : SqT K H a xs) : SqT K H' a xs := by
  rcases h with (h | ⟨o, h⟩) | h
  · exact .inl (.inl (s _ _ (fun _ z => by cases z) h))
  · exact .inl (.inr ⟨o, s _ _ (fun _ z => by cases z) h⟩)
  · exact .inr h
theorem mem_cut {xs : List V} {lo hi : Option Int} {v : V} (h : v ∈ cutV xs lo hi) : v ∈ xs := List.mem_of_mem_drop (List.mem_of_mem_take h)
theorem len_cut (xs : List V) (lo hi : Option Int) : (cutV xs lo hi).length ≤ xs.length := by
  unfold cutV
  rw [List.length_take, List.length_drop]
  omega
/-- a comprehension over a list that leaves places out; the heap stays -/
theorem lc_someI {K : PySem.W.Frag} {a : Addr} {xs : List V} {H : Hp} {D : Addr} (hD : H D = none) (hS : SqL K H a xs) (hl : xs.length ≤ 10000) (p : Nat → Bool) (f : Nat → V)
    {g : TG} {tt : TT} {te : TE} {vs : List Nat} {σ : L2.St} {Qd : Hp → Prop}
    (turn : ∀ (i : Nat) (x : V) (H2 : Hp) (R : V → Hp → Prop) (C : Hp → Prop), xs[i]? = some x → Same H H2 → (p i = true → R (f i) H2) → (p i = false → C H2) → g x (wipe σ vs) H2 fun σ2 H2 => wipe σ2 vs = wipe σ vs ∧ tt σ2 H2 fun b H3 => if b = true then te σ2 H3 R else C H3)
    (fin : ∀ H', Same H H' → H' D = some (.lst (((List.range xs.length).filter p).map f)) → Qd H') :
    ∃ W : Nat → Nat → Hp → Prop, (∃ m, W 0 m (upd H D (.lst []))) ∧ ∀ i m H, W i m H →
      ((Itl K a).stop i H ∧ Qd H) ∨ ((Itl K a).go i H ∧ ∃ Nx : Hp → Prop, (∀ H', Nx H' → ∃ m', m' < m ∧ W (i + 1) m' H') ∧ ∀ x H', (Itl K a).yld i H x H' → g x (wipe σ vs) H' fun σ2 H2 => wipe σ2 vs = wipe σ vs ∧ tt σ2 H2 fun b H3 =>
        if b = true then te σ2 H3 fun y H4 => ∃ acc, H4 D = some (.lst acc) ∧ acc.length < sizeLine ∧ Nx (upd H4 D (.lst (acc ++ [y]))) else Nx H3) := by
  refine lc_list (K := K) (a := a) (xs := xs) (fun i H' => Same H H' ∧ H' D = some (.lst (((List.range i).filter p).map f))) ⟨same_upd hD, upd_same⟩ (fun i H' _ h => h.1.seq hS) ?_ ?_
  · rintro i x H2 hi ⟨s2, e2⟩
    have hil : i < xs.length := (List.getElem?_eq_some_iff.mp hi).1
    refine turn i x H2 _ _ hi s2 (fun hp => ?_) (fun hp => ?_)
    · refine ⟨_, e2, ?_, fun b o h => ?_, ?_⟩
      · rw [List.length_map]
        refine Nat.lt_of_le_of_lt (List.length_filter_le _ _) ?_
        rw [List.length_range]
        exact Nat.lt_of_lt_of_le (show i < 10000 by omega) (by decide)
      · rw [upd_ne (ne_of_none h hD)]
        exact s2 _ _ h
      · rw [upd_same, List.range_succ, List.filter_append, List.map_append, List.filter_cons_of_pos hp]
        rfl
    · refine ⟨s2, ?_⟩
      rw [e2, List.range_succ, List.filter_append, List.map_append, List.filter_cons_of_neg (by rw [hp]; exact Bool.false_ne_true)]
      show _ = some (HO.lst (_ ++ []))
      rw [List.append_nil]
  · rintro H' ⟨s, e⟩
    exact fin H' s e
section
variable {X : Cx} {CX : CXT} {k : Nat} {f : Addr} {fd : FuncData} {ps ks : List Str} {sp : Sp} {E : XK} {x : Str} {p pos : Pos} {kws : List Keyword} {tk : TA} {g : List Value → List Value → List Value} {gV : List V → List V → List V}
/-- f(k = v, ..) -/
theorem pe_callN0 (F : FnOk X.prog X.w X.K X.mg X.base CX k f fd ps sp) (hr : Room k X.A) (hg : Gl X x) (hm : X.mg x = some (.ref f)) (hk : PySem.W.keepIn X.K (.ref f) = true) (hb : KBn X.K fd ps 0 ks g gV) (hx : Passes CX X E) (hkw : PK X kws tk)
    (hall : (backToKw pos (keywordEach kws X.env)).all (·.1.isSome) = true := by rfl) (hks : (backToKw pos (keywordEach kws X.env)).filterMap (·.1) = ks := by rfl) (hdb : (x == ("__debug__" : Str)) = false := by decide)
    (hpl : ((backTo pos (starEach [] X.env)).any (·.1) || (backToKw pos (keywordEach kws X.env)).any (·.1.isNone)) = false := by rfl) :
    PE X (.Call (.Name x p) [] kws pos) (tCallN 0 ks.length sp gV E tNil tk) := by
  refine ⟨fun pins s σ H Q I h => ?_⟩
  refine wpAny_Call_Name_kw (ld_glob I hg hm ?_ hdb)
  refine PySem.W.callWith_KW0 (h₀ := X.base) I.ok.mod.kin hk hall ?_ hpl
  refine thn (hkw.run pos pins s σ H _ I h) fun ws s2 ⟨zs, H2, I2, rz, l1, l2, q2⟩ => ⟨I2.kIn, ?_⟩
  rw [hks]
  exact run_fnN (us := []) (vs := []) F hr hb hx I2 .nil rz rfl l2 q2
end
/-- keywords of a def without defaults -/
theorem kbn_of {K : PySem.W.Frag} {x qual : Str} {st : Stmt} {f : Addr} {fd : FuncData} {ps : List Str} (F : Fun K x qual st f fd) (n : Nat) (ks : List Str) (g : List Value → List Value → List Value) (gV : List V → List V → List V)
    (hrel : ∀ {vs : List V} {us : List Value} {zs : List V} {ws : List Value}, Vals vs us → Vals zs ws → Vals (gV vs zs) (g us ws))
    (h : ∀ (kV doc pm : Value) (an : Option Addr) (cdv ct : Value) (us ws : List Value), us.length = n → ws.length = ks.length → bindArgs (PySem.W.fnOf x qual (defArgs st) (defBody st) (defScope st) .none kV doc pm an cdv ct) ⟨us, ks.zip ws⟩ = pure (ps.zip (g us ws))) : KBn K fd ps n ks g gV := by
  obtain ⟨oc, od, kV, doc, pm, an, cdv, ct, osl, rfl, lk, hcd⟩ := F.ex
  exact ⟨fun s us ws _ l1 l2 => .of_eq (h kV doc pm an cdv ct us ws l1 l2), hrel⟩
def gsw {α : Type} (l : List α) : List α := match l with
  | [a, b] => [b, a]
  | l => l
theorem gsw_rel {zs : List V} {ws : List Value} (h : Vals zs ws) : Vals (gsw zs) (gsw ws) := by
  cases h with
  | nil => exact .nil
  | cons r1 h =>
    cases h with
    | nil => exact .cons r1 .nil
    | cons r2 h =>
      cases h with
      | nil => exact .cons r2 (.cons r1 .nil)
      | cons r3 h => exact .cons r1 (.cons r2 (.cons r3 h))
/-- a comprehension over range(n): what it makes is told by G -/
theorem lc_genR {n : Nat} {H : Hp} {D : Addr} (hD : H D = none) (hl : n ≤ 10000) (G : Nat → V → Hp → Prop) (hG : ∀ j v H1 H2, NL H1 H2 → G j v H1 → G j v H2)
    {g : TG} {tt : TT} {te : TE} {vs : List Nat} {σ : L2.St} {Qd : Hp → Prop}
    (turn : ∀ (i : Nat) (H2 : Hp) (R : V → Hp → Prop) (C : Hp → Prop), i < n → Same H H2 → (∀ v H3, Same H2 H3 → G i v H3 → R v H3) → g (.int (0 + i)) (wipe σ vs) H2 fun σ2 H2 => wipe σ2 vs = wipe σ vs ∧ tt σ2 H2 fun b H3 => if b = true then te σ2 H3 R else C H3)
    (fin : ∀ H' acc, Same H H' → H' D = some (.lst acc) → acc.length = n → (∀ j v, acc[j]? = some v → G j v H') → Qd H') :
    ∃ W : Nat → Nat → Hp → Prop, (∃ m, W 0 m (upd H D (.lst []))) ∧ ∀ i m H, W i m H →
      ((Itr 0 n).stop i H ∧ Qd H) ∨ ((Itr 0 n).go i H ∧ ∃ Nx : Hp → Prop, (∀ H', Nx H' → ∃ m', m' < m ∧ W (i + 1) m' H') ∧ ∀ x H', (Itr 0 n).yld i H x H' → g x (wipe σ vs) H' fun σ2 H2 => wipe σ2 vs = wipe σ vs ∧ tt σ2 H2 fun b H3 =>
        if b = true then te σ2 H3 fun y H4 => ∃ acc, H4 D = some (.lst acc) ∧ acc.length < sizeLine ∧ Nx (upd H4 D (.lst (acc ++ [y]))) else Nx H3) := by
  refine lc_range (lo := 0) (n := n) (fun i H' => Same H H' ∧ ∃ acc, H' D = some (.lst acc) ∧ acc.length = i ∧ ∀ j v, acc[j]? = some v → G j v H') ⟨same_upd hD, [], upd_same, rfl, fun j v h => by simp at h⟩ ?_ ?_
  · rintro i H2 hi ⟨s2, acc, e2, l2, g2⟩
    refine turn i H2 _ _ hi s2 fun v H3 s3 hv => ?_
    have e3 := s3 _ _ e2
    refine ⟨acc, e3, ?_, fun b o h => ?_, acc ++ [v], upd_same, ?_, fun j w hj => ?_⟩
    · rw [l2]
      exact Nat.lt_of_lt_of_le (show i < 10000 by omega) (by decide)
    · rw [upd_ne (ne_of_none h hD)]
      exact s3 _ _ (s2 _ _ h)
    · rw [List.length_append, l2]
      rfl
    · refine hG j w H3 _ (NL.at_ e3) ?_
      by_cases h : j < acc.length
      · rw [List.getElem?_append_left h] at hj
        exact hG j w H2 H3 (NL.of s3) (g2 j w hj)
      · rw [List.getElem?_append_right (by omega)] at hj
        have : j = i := by
          have := (List.getElem?_eq_some_iff.mp hj).1
          rw [List.length_singleton] at this
          omega
        subst this
        rw [l2, Nat.sub_self] at hj
        have : v = w := Option.some.inj hj
        subst this
        exact hv
  · rintro H' ⟨s, acc, e, l, g⟩
    exact fin H' acc s e l g
/-- [k for k in range(n) if a draw ..] -/
theorem lc_drawK {P : Int → Prop} {d D : Addr} {m n : Nat} {H1 : Hp} (hD : H1 D = none) (dr : Dr P d m H1) (hn : n ≤ 1000) {g : TG} {tt : TT} {te : TE} {vs : List Nat} {σ : L2.St} {Qd : Hp → Prop}
    (turn : ∀ (i : Nat) (H2 : Hp) (R : V → Hp → Prop) (C : Hp → Prop), i < n → Dr P d (m + i) H2 → (∀ H3, But d H2 H3 → Dr P d (m + i + 1) H3 → R (.int (i : Int)) H3 ∧ C H3) → g (.int (0 + i)) (wipe σ vs) H2 fun σ2 H2 => wipe σ2 vs = wipe σ vs ∧ tt σ2 H2 fun b H3 => if b = true then te σ2 H3 R else C H3)
    (fin : ∀ H' (ks : List Nat), (∀ k ∈ ks, k < n) → ks.length ≤ n → But d H1 H' → Dr P d (m + n) H' → H' D = some (.lst (ks.map fun (k : Nat) => V.int (k : Int))) → Qd H') :
    ∃ W : Nat → Nat → Hp → Prop, (∃ m, W 0 m (upd H1 D (.lst []))) ∧ ∀ i m H, W i m H →
      ((Itr 0 n).stop i H ∧ Qd H) ∨ ((Itr 0 n).go i H ∧ ∃ Nx : Hp → Prop, (∀ H', Nx H' → ∃ m', m' < m ∧ W (i + 1) m' H') ∧ ∀ x H', (Itr 0 n).yld i H x H' → g x (wipe σ vs) H' fun σ2 H2 => wipe σ2 vs = wipe σ vs ∧ tt σ2 H2 fun b H3 =>
        if b = true then te σ2 H3 fun y H4 => ∃ acc, H4 D = some (.lst acc) ∧ acc.length < sizeLine ∧ Nx (upd H4 D (.lst (acc ++ [y]))) else Nx H3) := by
  have nD : D ≠ d := dr.ne hD
  refine lc_range (lo := 0) (n := n) (fun i H' => ∃ ks : List Nat, (∀ k ∈ ks, k < n) ∧ ks.length ≤ i ∧ But d H1 H' ∧ Dr P d (m + i) H' ∧ H' D = some (.lst (ks.map fun (k : Nat) => V.int (k : Int)))) ⟨[], (fun _ h => nomatch h), Nat.le_refl _, But.new hD, dr.upd nD, upd_same⟩ ?_ ?_
  · rintro i H2 hi ⟨ks, hk, hl, b2, dr2, e2⟩
    refine turn i H2 _ _ hi dr2 fun H3 b3 dr3 => ⟨?_, ks, hk, by omega, b2.trans b3, dr3, b3 _ _ nD e2⟩
    refine ⟨_, b3 _ _ nD e2, ?_, ks ++ [i], ?_, ?_, ?_, ?_, ?_⟩
    · rw [List.length_map]
      exact Nat.lt_of_lt_of_le (show ks.length < 1001 by omega) (by decide)
    · intro k h
      rcases List.mem_append.mp h with h | h
      · exact hk k h
      · rw [List.mem_singleton.mp h]
        exact hi
    · rw [List.length_append, List.length_singleton]
      omega
    · exact (b2.trans b3).mut hD
    · exact (dr3.upd nD).mono (by omega)
    · rw [upd_same, List.map_append]
      rfl
  · rintro H' ⟨ks, hk, hl, b, dr', e⟩
    exact fin H' ks hk hl b dr' e
theorem in_ints (k : Nat) (S : List Nat) : inV (.int (k : Int)) (S.map fun (j : Nat) => V.int (j : Int)) = decide (k ∈ S) := by
  unfold inV
  rw [List.any_map]
  induction S with
  | nil => rfl
  | cons j S ih =>
    rw [List.any_cons, ih]
    show (((j : Int) == (k : Int)) || decide (k ∈ S)) = _
    rw [Bool.eq_iff_iff, Bool.or_eq_true, beq_iff_eq, decide_eq_true_eq, decide_eq_true_eq, List.mem_cons]
    constructor
    · rintro (h | h)
      · exact .inl (by omega)
      · exact .inr h
    · rintro (h | h)
      · exact .inl (by omega)
      · exact .inr h
theorem flat_ints (S : List Nat) : (S.map fun (j : Nat) => V.int (j : Int)).all flatV = true := by
  rw [List.all_eq_true]
  intro v hv
  obtain ⟨j, _, rfl⟩ := List.mem_map.mp hv
  rfl
end KA
namespace KA
open PySem PySem.SeqAt
open AutoSeq1 (wpAny_loadPart')
open MeetsSeq MeetsSeq2 MeetsSeq3 SeqRoads2
section
variable {prog : Program} {w : World} {A : Around} {R : Result → Shared → Prop}
/-- two lists whose items are equal, turn by turn: != is False -/
theorem ne_turns (p q : Addr) (N : Nat) (J : Nat → Shared → Prop) (hJ : GQ.ListI prog w A (fun e s' => R (.error e) s') p q N J)
    (done : ∀ s, J N s → R (.ok (.ret (.bool false))) s) : ∀ (k i : Nat), N - i = k → i ≤ N → ∀ s, J i s →
      wpAny (model prog w) A.in1 (Builtin.«list.__eq__.loop» ⟨[.ref p, .ref q, rawInt i, rawInt 3], []⟩) (GQ.FinOf prog w A R) (fun e s' => R (.error e) s') s
  | 0, i, hk, hi, s, hs => by
    obtain ⟨xs, ys, m, m2, gp, gq, zp, zq, _⟩ := hJ _ _ hs
    have iN : i = N := by omega
    have last : R (.ok (.ret (.bool false))) s := done s (iN ▸ hs)
    obtain ⟨hh, gg, dd, kk, oo⟩ := s
    wp_walk using wpAny_loadPart' gp, wpAny_loadPart' gq
    have n1 : xs[((i : Nat) : Int).toNat]? = none := by simp; omega
    have n2 : ys[((i : Nat) : Int).toNat]? = none := by simp; omega
    rw [n1, n2]
    wp_walk using wpAny_loadPart' gp, wpAny_loadPart' gq
    show R (.ok (.ret (.bool (xs.size != ys.size)))) _
    rw [zp, zq]
    simpa using last
  | k + 1, i, hk, hi, s, hs => by
    obtain ⟨xs, ys, m, m2, gp, gq, zp, zq, tn⟩ := hJ _ _ hs
    have ip : i < xs.size := by omega
    have iq : i < ys.size := by omega
    have tt := tn ip iq
    obtain ⟨hh, gg, dd, kk, oo⟩ := s
    wp_walk using wpAny_loadPart' gp, wpAny_loadPart' gq
    have n1 : xs[((i : Nat) : Int).toNat]? = some xs[i] := by simp [ip]
    have n2 : ys[((i : Nat) : Int).toNat]? = some ys[i] := by simp [iq]
    have up : ((i : Int) + 1) = ((i + 1 : Nat) : Int) := by omega
    rw [n1, n2]
    refine wpAny_bind (wpAny_mono tt (fun r s2 h2 => ?_) fun _ _ x => x)
    obtain ⟨er, h2⟩ := h2
    subst er
    have next := ne_turns p q N J hJ done k (i + 1) (by omega) (by omega) s2 h2
    obtain ⟨hh2, gg2, dd2, kk2, oo2⟩ := s2
    wp_walk
    rw [up]
    exact ⟨plainId_quiet plain_eq_loop _, codeAny_builtin entry_eq_loop (by rw [Around.under_plainId plain_eq_loop _]; exact next)⟩
theorem ne_lists (p q : Addr) (N : Nat) (J : Nat → Shared → Prop) (hJ : GQ.ListI prog w A (fun e s' => R (.error e) s') p q N J)
    (done : ∀ s, J N s → R (.ok (.ret (.bool false))) s) {s : Shared} (hs : J 0 s) :
    wpAny (model prog w) A.in1 (Builtin.«list.__ne__» ⟨[.ref p, .ref q], []⟩) (GQ.FinOf prog w A R) (fun e s' => R (.error e) s') s := by
  obtain ⟨xs, ys, m, m2, gp, gq, zp, zq, _⟩ := hJ _ _ hs
  have all := ne_turns (A := A) (R := R) p q N J hJ done _ 0 rfl (Nat.zero_le _) s hs
  obtain ⟨hh, gg, dd, kk, oo⟩ := s
  have sub := AutoSeq1.sub_list_list
  have same : ¬ (xs.size != ys.size) = true := by simp [zp, zq]
  wp_walk using wpAny_loadPart' gp, wpAny_loadPart' gq
  exact ⟨plainId_quiet plain_eq_loop _, codeAny_builtin entry_eq_loop (by rw [Around.under_plainId plain_eq_loop _]; exact all)⟩
end
section
variable {prog : Program} {w : World} {A : Around} {E : Value → Shared → Prop} {s : Shared}
theorem rc_ne {p q : Addr} {N : Nat} {Q : Value → Shared → Prop} (hu : A.units < cLine) (J : Nat → Shared → Prop) (hJ : GQ.ListI prog w A E p q N J)
    (done : ∀ s, J N s → Q (.bool false) s) (hs : J 0 s) : wpAny (model prog w) A (richCompare .NotEq (.ref p) (.ref q)) Q E s := by
  obtain ⟨xs, ys, m, m2, gp, gq, _, _, _⟩ := hJ _ _ hs
  refine wpAny_richCompare_same_room (op := .NotEq) ⟨_, gp, rfl⟩ ⟨_, gq, rfl⟩ F.slot_list_ne (GQ.call_here F.slot_list_ne ⟨_, gp, rfl⟩ F.entry_list_ne (F.args_list_ne_2 _ _) ?_) hu
  exact ne_lists (R := wants (fun v s' => v ≠ .notImplemented ∧ Q v s') E) p q N J hJ (fun s' z => ⟨(fun x => nomatch x), done s' z⟩) hs
end
open L2 in
/-- xs != ys, where the items are equal by their own == : False -/
def rNeG (D : Eqv) : R2 := fun x y H Q => DList D x y H ∧ ∀ H', Ext H H' → Q (.bl false) H'
open L2 in
theorem op_neG {X : Cx} {n : Nat} {D : Eqv} (hD : Mon D) (h : EqG X n D) (hr : Room (n + 1) X.A) : OpR X (compareOp .NotEq) (rNeG D) := by
  intro pins s σ H x y v u Q I rx ry hq
  obtain ⟨⟨a, b, xs, ys, rfl, rfl, ha, hb, p⟩, q⟩ := hq
  cases rx
  cases ry
  show wpAny (model X.prog X.w) X.A (richCompare .NotEq (.ref a) (.ref b)) (EP X pins σ Q) X.xe s
  refine rc_ne (N := xs.length) hr.units0 (fun _ s' => LoopI X pins σ H s') (fun i s' z => ?_) (fun s' z => ?_) ⟨H, I, Ext.rfl'⟩
  · obtain ⟨H1, I1, e1⟩ := id z
    obtain ⟨_, its, k, r, e⟩ := I1.hok a _ (e1 _ _ ha)
    obtain ⟨_, its2, k2, r2, e2⟩ := I1.hok b _ (e1 _ _ hb)
    exact ⟨its.toArray, its2.toArray, k, k2, e, e2, by rw [List.size_toArray, ← r.length], by rw [List.size_toArray, ← r2.length, ← p.1], fun g1 g2 => turnG hD h ⟨hr, rfl⟩ p r r2 i g1 g2 s' z⟩
  · obtain ⟨H1, I1, e1⟩ := z
    exact ⟨.bl false, H1, I1, rfl, q H1 e1⟩
end KA
namespace KA
open PySem PySem.Spec PyProof.Rows L2
/-! ### shares as pairs -/
/-- by what both are divided -/
def prt (n d : Int) : Int := if d < 0 then -(Int.gcd n d : Int) else (Int.gcd n d : Int)
def shr (n d : Int) : Int × Int := (n.fdiv (prt n d), d.fdiv (prt n d))
theorem gcd_pos {n d : Int} (h : d ≠ 0) : 0 < Int.gcd n d := by
  have : Int.gcd n d ≠ 0 := fun z => h (Int.gcd_eq_zero_iff.mp z).2
  omega
theorem prt_ne {n d : Int} (h : d ≠ 0) : prt n d ≠ 0 := by
  have := gcd_pos (n := n) h
  unfold prt
  split <;> omega
theorem prt_dvd1 (n d : Int) : prt n d ∣ n := by
  unfold prt
  split
  · exact Int.neg_dvd.mpr (Int.gcd_dvd_left ..)
  · exact Int.gcd_dvd_left ..
theorem prt_dvd2 (n d : Int) : prt n d ∣ d := by
  unfold prt
  split
  · exact Int.neg_dvd.mpr (Int.gcd_dvd_right ..)
  · exact Int.gcd_dvd_right ..
theorem shr1 (n d : Int) : prt n d * (shr n d).1 = n := by
  show prt n d * n.fdiv (prt n d) = n
  rw [Int.fdiv_eq_ediv_of_dvd (prt_dvd1 n d)]
  exact Int.mul_ediv_cancel' (prt_dvd1 n d)
theorem shr2 (n d : Int) : prt n d * (shr n d).2 = d := by
  show prt n d * d.fdiv (prt n d) = d
  rw [Int.fdiv_eq_ediv_of_dvd (prt_dvd2 n d)]
  exact Int.mul_ediv_cancel' (prt_dvd2 n d)
theorem shr_pos {n d : Int} (h : d ≠ 0) : 0 < (shr n d).2 := by
  have e := shr2 n d
  have g := gcd_pos (n := n) h
  by_cases hd : d < 0
  · have hp : prt n d < 0 := by unfold prt; rw [if_pos hd]; omega
    rcases Int.lt_trichotomy (shr n d).2 0 with z | z | z
    · have := Int.mul_pos_of_neg_of_neg hp z
      omega
    · rw [z] at e
      omega
    · exact z
  · have hp : 0 < prt n d := by unfold prt; rw [if_neg hd]; omega
    rcases Int.lt_trichotomy (shr n d).2 0 with z | z | z
    · have := Int.mul_neg_of_pos_of_neg hp z
      omega
    · rw [z] at e
      omega
    · exact z
theorem prt_abs (n d : Int) : (prt n d).natAbs = Int.gcd n d := by
  unfold prt
  split <;> omega
theorem shr_low {n d : Int} (h : d ≠ 0) : Int.gcd (shr n d).1 (shr n d).2 = 1 := by
  have g := gcd_pos (n := n) h
  have e : Int.gcd (prt n d * (shr n d).1) (prt n d * (shr n d).2) = (prt n d).natAbs * Int.gcd (shr n d).1 (shr n d).2 := Int.gcd_mul_left ..
  rw [shr1, shr2, prt_abs] at e
  have : Int.gcd n d * 1 = Int.gcd n d * Int.gcd (shr n d).1 (shr n d).2 := by omega
  exact (Nat.eq_of_mul_eq_mul_left g this).symm
/-- of the worth u over g -/
def Eqf (x : Int × Int) (u g : Int) : Prop := x.1 * g = u * x.2
theorem shr_eqf (n d : Int) : Eqf (shr n d) n d := by
  have a := shr1 n d
  have b := shr2 n d
  show (shr n d).1 * d = n * (shr n d).2
  generalize prt n d = p at a b
  generalize (shr n d).1 = x at a ⊢
  generalize (shr n d).2 = y at b ⊢
  subst a b
  grind
theorem eqf_trans {n d u g : Int} (h : d ≠ 0) (e : n * g = u * d) : Eqf (shr n d) u g := by
  have a := shr_eqf n d
  unfold Eqf at a ⊢
  refine Int.eq_of_mul_eq_mul_right h ?_
  grind
theorem eqf_plus {x y : Int × Int} {a b c d : Int} (hx : Eqf x a b) (hy : Eqf y c d) (x0 : 0 < x.2) (y0 : 0 < y.2) : Eqf (shr (x.1 * y.2 + y.1 * x.2) (x.2 * y.2)) (a * d + c * b) (b * d) := by
  unfold Eqf at hx hy
  refine eqf_trans (Int.mul_ne_zero (by omega) (by omega)) ?_
  grind
theorem eqf_minus {x y : Int × Int} {a b c d : Int} (hx : Eqf x a b) (hy : Eqf y c d) (x0 : 0 < x.2) (y0 : 0 < y.2) : Eqf (shr (x.1 * y.2 - y.1 * x.2) (x.2 * y.2)) (a * d - c * b) (b * d) := by
  unfold Eqf at hx hy
  refine eqf_trans (Int.mul_ne_zero (by omega) (by omega)) ?_
  grind
theorem eqf_times {x y : Int × Int} {a b c d : Int} (hx : Eqf x a b) (hy : Eqf y c d) (x0 : 0 < x.2) (y0 : 0 < y.2) : Eqf (shr (x.1 * y.1) (x.2 * y.2)) (a * c) (b * d) := by
  unfold Eqf at hx hy
  refine eqf_trans (Int.mul_ne_zero (by omega) (by omega)) ?_
  grind
def sgn (m : Int) : Int := if m < 0 then -1 else 1
theorem below_iff {x y : Int × Int} {a b c d : Int} (hx : Eqf x a b) (hy : Eqf y c d) (x0 : 0 < x.2) (y0 : 0 < y.2) (hb : b ≠ 0) (hd : d ≠ 0) : (x.1 * y.2 < y.1 * x.2) ↔ (sgn (b * d) * a * d < sgn (b * d) * c * b) := by
  unfold Eqf at hx hy
  have bd : b * d ≠ 0 := Int.mul_ne_zero hb hd
  have hp : 0 < sgn (b * d) * (b * d) := by
    unfold sgn
    split <;> omega
  have xy : 0 < x.2 * y.2 := Int.mul_pos x0 y0
  rw [← Int.mul_lt_mul_right hp, ← Int.mul_lt_mul_right (a := x.2 * y.2) (b := sgn (b * d) * a * d) xy]
  have e1 : x.1 * y.2 * (sgn (b * d) * (b * d)) = sgn (b * d) * a * d * (x.2 * y.2) := by grind
  have e2 : y.1 * x.2 * (sgn (b * d) * (b * d)) = sgn (b * d) * c * b * (x.2 * y.2) := by grind
  rw [e1, e2]
/-! ### sums -/
def PP : List (Int × Int) → Int
  | [] => 1
  | x :: l => x.2 * PP l
def NN : List (Int × Int) → Int
  | [] => 0
  | x :: l => x.1 * PP l + NN l * x.2
theorem PP_app : ∀ l m : List (Int × Int), PP (l ++ m) = PP l * PP m
  | [], m => by show PP m = 1 * PP m; omega
  | x :: l, m => by
    show x.2 * PP (l ++ m) = x.2 * PP l * PP m
    rw [PP_app l m, Int.mul_assoc]
theorem NN_app : ∀ l m : List (Int × Int), NN (l ++ m) = NN l * PP m + NN m * PP l
  | [], m => by
    show NN m = 0 * PP m + NN m * 1
    omega
  | x :: l, m => by
    show x.1 * PP (l ++ m) + NN (l ++ m) * x.2 = (x.1 * PP l + NN l * x.2) * PP m + NN m * (x.2 * PP l)
    rw [NN_app l m, PP_app l m]
    grind
theorem PP_snoc (l : List (Int × Int)) (x : Int × Int) : PP (l ++ [x]) = PP l * x.2 := by
  rw [PP_app]
  show PP l * (x.2 * 1) = _
  rw [Int.mul_one]
theorem NN_snoc (l : List (Int × Int)) (x : Int × Int) : NN (l ++ [x]) = NN l * x.2 + x.1 * PP l := by
  rw [NN_app]
  show NN l * (x.2 * 1) + (x.1 * 1 + 0 * x.2) * PP l = _
  grind
theorem PP_rev : ∀ l : List (Int × Int), PP l.reverse = PP l
  | [] => rfl
  | x :: l => by
    rw [List.reverse_cons, PP_snoc, PP_rev l]
    exact Int.mul_comm ..
theorem NN_rev : ∀ l : List (Int × Int), NN l.reverse = NN l
  | [] => rfl
  | x :: l => by
    rw [List.reverse_cons, NN_snoc, NN_rev l, PP_rev l]
    show NN l * x.2 + x.1 * PP l = x.1 * PP l + NN l * x.2
    omega
/-! ### sizes -/
def Sz (k : Nat) (n : Int) : Prop := n.natAbs < 2 ^ k
theorem Sz.mono {k m : Nat} {n : Int} (h : Sz k n) (e : k ≤ m) : Sz m n := Nat.lt_of_lt_of_le h (Nat.pow_le_pow_right (by decide) e)
theorem Sz.mul {k m : Nat} {a b : Int} (ha : Sz k a) (hb : Sz m b) : Sz (k + m) (a * b) := by
  unfold Sz
  rw [Int.natAbs_mul, Nat.pow_add]
  exact Nat.mul_lt_mul'' ha hb
theorem Sz.add {k : Nat} {a b : Int} (ha : Sz k a) (hb : Sz k b) : Sz (k + 1) (a + b) := by
  unfold Sz at *
  rw [Nat.pow_succ]
  omega
theorem Sz.sub {k : Nat} {a b : Int} (ha : Sz k a) (hb : Sz k b) : Sz (k + 1) (a - b) := by
  unfold Sz at *
  rw [Nat.pow_succ]
  omega
theorem Sz.mw {k m : Nat} {a b : Int} (ha : Sz k a) (hb : Sz m b) (h : k + m + 2 ≤ 1000000) : CMulW a b := wide_mul (ha.mono (Nat.le_succ k)) (hb.mono (Nat.le_succ m)) (by omega) (by omega) (by omega)
theorem Sz.div {k : Nat} {n d : Int} (p : Int) (h : Sz k n) (e : p * d = n) (hp : p ≠ 0) : Sz k d := by
  unfold Sz at *
  subst e
  rw [Int.natAbs_mul] at h
  refine Nat.lt_of_le_of_lt ?_ h
  exact Nat.le_mul_of_pos_left _ (by omega)
theorem shr_sz {k : Nat} {n d : Int} (hd : d ≠ 0) (hn : Sz k n) (h : Sz k d) : Sz k (shr n d).1 ∧ Sz k (shr n d).2 := ⟨hn.div (prt n d) (shr1 n d) (prt_ne hd), h.div (prt n d) (shr2 n d) (prt_ne hd)⟩
/-- // by any number but 0 below 2 ^ 9000 -/
def CDivX (_ j : Int) : Prop := j ≠ 0 ∧ j.natAbs.log2 < 9000
theorem op_fdivX {X : Cx} : OpR X (binaryOp .FloorDiv) (rI CDivX fun i j => .int (i.fdiv j)) := opI fun i j _ _ _ _ _ hc q => floordiv_int hc.1 q (.inl (PyProof.noPylong_of_log2 hc.2))
theorem gcd_turn (a b : Nat) (h : 0 < b) : Nat.gcd b (a % b) = Nat.gcd a b := by
  rw [Nat.gcd_comm a b, Nat.gcd_rec b a, Nat.gcd_comm]
theorem pg_tupK {X : Cx} {K' : PySem.W.Frag} (hK : X.K = K') {es : List Expr} {k : Nat} {pos : Pos} {t : TGs} {n : Nat} (hc : X.calm = true) (h : PGs X es t)
    (hn : (assignEach es X.env).length = n := by rfl) (hst : (assignEach es X.env).findIdx? (·.1) = none := by rfl) : PG X (.Tuple es k pos) (gTup K' n t) := by
  subst hK
  exact pg_tup hc h hn hst
end KA
namespace KA
open PySem PySem.Spec PyProof.Rows L2
/-- what isinstance asks of an own class -/
structure ICls (K : PySem.W.Frag) (C : Addr) : Prop where
  ha : PySem.W.findIn K (.ref C) "__class__" = some (some (.builtin "object.__class__"))
  hn : PySem.W.specialIn K (.builtin "object.__class__") "__get__" = some (some (.builtin "getset_descriptor.__get__"))
  htk : PySem.W.takesIn K (.builtin "object.__class__") = some true
  hm : PySem.W.mroIn K C (.type "object") = some true
  kit : PySem.W.kitOne K (.ref C) (.ref C) = some true
theorem ICls.ty {K : PySem.W.Frag} {C : Addr} (i : ICls K C) (cl : Cls K C) {H : Hp} {p dx : Addr} {fs : List (Str × V)} (h : H p = some (.ins C dx fs)) : TyX K H (.ref p) (.ref C) := .base (.ins h cl i.ha i.hn i.htk i.hm)
theorem prt_log {n d : Int} {k : Nat} (hd : d ≠ 0) (h : Sz k d) (hk : k ≤ 8000) : (prt n d).natAbs.log2 < 9000 := by
  rw [prt_abs]
  refine Nat.lt_of_lt_of_le (PySem.Flt.log2_lt_of (k := k + 1) (by omega) ?_) (by omega : k + 1 ≤ 9000)
  have : Int.gcd n d ≤ d.natAbs := Nat.le_of_dvd (by omega) (Int.gcd_dvd_natAbs_right n d)
  exact Nat.lt_of_le_of_lt this (h.mono (Nat.le_succ k))
theorem abs_nat (n : Int) : (if n < 0 then -n else n) = (n.natAbs : Int) := by
  split <;> omega
end KA
namespace KA
/-- two shares in lowest terms of the same worth are one -/
theorem low_eq {x y : Int × Int} (hx : Int.gcd x.1 x.2 = 1) (hy : Int.gcd y.1 y.2 = 1) (x0 : 0 < x.2) (y0 : 0 < y.2) (e : x.1 * y.2 = y.1 * x.2) : x = y := by
  have d1 : x.2 ∣ y.2 := by
    have : x.2 ∣ x.1 * y.2 := ⟨y.1, by rw [e]; exact Int.mul_comm ..⟩
    have h := Nat.Coprime.dvd_of_dvd_mul_left (k := x.2.natAbs) (m := x.1.natAbs) (n := y.2.natAbs) (by rw [Nat.coprime_comm]; exact hx) (by rw [← Int.natAbs_mul]; exact Int.natAbs_dvd_natAbs.mpr this)
    exact Int.natAbs_dvd_natAbs.mp h
  have d2 : y.2 ∣ x.2 := by
    have : y.2 ∣ y.1 * x.2 := ⟨x.1, by rw [← e]; exact Int.mul_comm ..⟩
    have h := Nat.Coprime.dvd_of_dvd_mul_left (k := y.2.natAbs) (m := y.1.natAbs) (n := x.2.natAbs) (by rw [Nat.coprime_comm]; exact hy) (by rw [← Int.natAbs_mul]; exact Int.natAbs_dvd_natAbs.mpr this)
    exact Int.natAbs_dvd_natAbs.mp h
  have e2 : x.2 = y.2 := by
    have a := Int.le_of_dvd y0 d1
    have b := Int.le_of_dvd x0 d2
    omega
  have e1 : x.1 = y.1 := by
    rw [← e2] at e
    exact Int.eq_of_mul_eq_mul_right (by omega) e
  exact Prod.ext e1 e2
theorem shr_same {n d n' d' : Int} (h : d ≠ 0) (h' : d' ≠ 0) (e : n * d' = n' * d) : shr n d = shr n' d' := by
  refine low_eq (shr_low h) (shr_low h') (shr_pos h) (shr_pos h') ?_
  have a := shr_eqf n d
  have b := shr_eqf n' d'
  unfold Eqf at a b
  refine Int.eq_of_mul_eq_mul_right (a := d * d') (Int.mul_ne_zero h h') ?_
  generalize (shr n d).1 = x at *
  generalize (shr n d).2 = y at *
  generalize (shr n' d').1 = z at *
  generalize (shr n' d').2 = v at *
  have e3 : x * v * (d * d') = (x * d) * (v * d') := by grind
  have e4 : z * y * (d * d') = (z * d') * (y * d) := by grind
  rw [e3, e4, a, b]
  grind
theorem shr_cross {n d n' d' : Int} (h : d ≠ 0) (h' : d' ≠ 0) (e : shr n d = shr n' d') : n * d' = n' * d := by
  have a := shr_eqf n d
  have b := shr_eqf n' d'
  have p := shr_pos (n := n) h
  unfold Eqf at a b
  rw [← e] at b
  generalize (shr n d).1 = x at *
  generalize (shr n d).2 = y at *
  refine Int.eq_of_mul_eq_mul_right (a := y) (by omega) ?_
  have e3 : n * d' * y = (n * y) * d' := by grind
  have e4 : n' * d * y = (n' * y) * d := by grind
  rw [e3, e4, ← a, ← b]
  grind
theorem shr_mul {u g b : Int} (hg : g ≠ 0) (hb : b ≠ 0) : shr (u * b) (g * b) = shr u g := shr_same (Int.mul_ne_zero hg hb) hg (by grind)
theorem shr_more {u g : Int} (hg : g ≠ 0) : shr u g ≠ shr (u + g) g := fun e => by
  have := shr_cross hg hg e
  have := Int.eq_of_mul_eq_mul_right hg this
  omega
theorem shr_num0 {u g : Int} (hg : g ≠ 0) (h : (shr u g).1 ≠ 0) : u ≠ 0 := by
  rintro rfl
  rcases Int.mul_eq_zero.mp (shr1 0 g) with z | z
  · exact prt_ne hg z
  · exact h z
theorem shr_neg {u g : Int} (hg : g ≠ 0) (h : u ≠ 0) : shr u g ≠ shr (0 - u) g := fun e => by
  have := Int.eq_of_mul_eq_mul_right hg (shr_cross hg hg e)
  omega
theorem shr_zero {u g : Int} (hg : g ≠ 0) (h : u ≠ 0) : shr u g ≠ shr 0 g := fun e => by
  have := Int.eq_of_mul_eq_mul_right hg (shr_cross hg hg e)
  omega
theorem shr_two {u g : Int} (hg : g ≠ 0) (h : u ≠ 0) : shr u g ≠ shr u (2 * g) := fun e => by
  have := Int.eq_of_mul_eq_mul_left h (shr_cross hg (Int.mul_ne_zero (by decide) hg) e)
  omega
end KA
namespace KA
open PySem PySem.Spec PyProof.Rows L2
/-! ### isinstance of a caught error that has fields of its own -/
theorem xd_at {P : Program} {w : World} {H : Hp} {h : Heap} {dd : Addr} {fs : List (Str × V)} (hok : HOk P w H h) (e : H dd = some (.xd fs)) : ∃ od, h.get? dd = some od := by
  obtain ⟨mA, ⟨od, es, ep, ho, _⟩, _⟩ := (show ObjOk P w H h dd (.xd fs) from hok dd _ e)
  exact ⟨od, ho⟩
theorem kit_exc {K : PySem.W.Frag} {D x : Addr} {ox : Obj} {od : Option Obj} (C : ExcC K D) : PySem.W.KitX K (.ref x) (.ref D) (fun h => PySem.W.InstAt h x ox D od) :=
  PySem.W.kitx_exc (by obtain ⟨cd, hc, _⟩ := PySem.W.any_some C.hd; rw [hc]; rfl) C.hg C.hk C.hs C.ha C.hn C.ht C.hm
def rIsD (K : PySem.W.Frag) (a : Addr) (cls : Value) (d : Option Addr) : List V → Hp → VK → Prop := fun xs H Q => ∃ (D dd : Addr) (fs : List (Str × V)) (c : V) (u : Value) (b : Bool), xs = [.ref a, c] ∧ cls = .ref D ∧ d = some dd ∧ H dd = some (.xd fs) ∧ ExcC K D ∧ ClsV c u ∧ PySem.W.kitOne K (.ref D) u = some b ∧ Q (.bl b) H
def rIsDT (K : PySem.W.Frag) (a : Addr) (cls : Value) (d : Option Addr) : List V → Hp → VK → Prop := fun xs H Q => ∃ (D dd tp : Addr) (fs : List (Str × V)) (cs : List V) (us : List Value) (b : Bool), xs = [.ref a, .ref tp] ∧ cls = .ref D ∧ d = some dd ∧ H dd = some (.xd fs) ∧ ExcC K D ∧ H tp = some (.tup cs) ∧ Paired ClsV cs us ∧ PySem.W.kitAny K (.ref D) us = some b ∧ Q (.bl b) H
section
variable {X : Cx} {a : Addr} {oe : Obj} {cls : Value} {d : Option Addr} {pn : List (Addr × Obj)}
theorem inst_of {pins : List (Addr × Obj)} {σ : L2.St} {H : Hp} {s : Shared} {D dd : Addr} {fs : List (Str × V)} (hz : Zc (.ref D) (some dd) oe) (hf : ∃ vs, oe.data = .fields vs) (I : Inv (X.suite a ((a, oe) :: pn)) pins σ H s) (e : H dd = some (.xd fs)) : ∃ od, PySem.W.InstAt s.heap a oe D (some od) := by
  obtain ⟨hget, _⟩ := I.pin (a, oe) (List.mem_append.mpr (.inl List.mem_cons_self))
  obtain ⟨vs, hv⟩ := hf
  obtain ⟨od, ho⟩ := xd_at I.hok e
  exact ⟨od, hget, hz.1, by unfold PySem.W.notCls; rw [hv] <;> rfl, by rw [hz.2]; exact ho⟩
theorem call_isD (hz : Zc cls d oe) (hf : ∃ vs, oe.data = .fields vs) : CallR (X.suite a ((a, oe) :: pn)) (.builtin "isinstance") (rIsD X.K a cls d) := by
  intro pins s σ H xs us Q I r h
  obtain ⟨D, dd, fs, c, u, b, rfl, rfl, rfl, e, C, k, hk, q⟩ := h
  obtain ⟨u1, u2, rfl, r1, r2⟩ := vals2 r
  cases (show u1 = Value.ref a from r1)
  have e2 := k.eq r2
  subst e2
  obtain ⟨od, J⟩ := inst_of hz hf I e
  exact PySem.W.kia_one (kit_exc C) I.kIn J hk (fun z => nomatch z) fun tk => ⟨.bl b, H, I.tok tk, rfl, q⟩
theorem call_isDT (hz : Zc cls d oe) (hf : ∃ vs, oe.data = .fields vs) : CallR (X.suite a ((a, oe) :: pn)) (.builtin "isinstance") (rIsDT X.K a cls d) := by
  intro pins s σ H xs us Q I r h
  obtain ⟨D, dd, tp, fs, cs, ws, b, rfl, rfl, rfl, e, C, hT, k, hk, q⟩ := h
  obtain ⟨u1, u2, rfl, r1, r2⟩ := vals2 r
  cases (show u1 = Value.ref a from r1)
  cases (show u2 = Value.ref tp from r2)
  obtain ⟨od, J⟩ := inst_of hz hf I e
  obtain ⟨_, its, rv, o, h1, h2, n, h3⟩ := (show ObjOk X.prog X.w H s.heap tp (.tup cs) from I.hok tp _ hT)
  have e3 := ClsV.all k rv
  subst e3
  obtain ⟨oc, od', dt, sl⟩ := o
  simp only at h2 h3
  subst h2 h3
  exact PySem.W.kia_tup (kit_exc C) I.kIn J h1 hk (fun z => nomatch z) fun tk => ⟨.bl b, H, I.tok tk, rfl, q⟩
end
theorem call_isiS {X : Cx} {K' : PySem.W.Frag} (hK : X.K = K') : CallR X (.builtin "isinstance") (rIsi K') := by
  subst hK
  exact call_isi
/-! ### calls that let nothing out, bodies that are never run -/
theorem passF {X : Cx} : Passes (L2.CX X.prog X.w) X E0 := passes_call takes0 (fun _ _ _ _ h => h)
/-! ### keywords: which of what is handed in, of the defaults, of the keywords stands where -/
def kw1 {α : Type} (p : Nat × Nat) (us its ws : List α) : List α := match p with
  | (0, i) => us[i]?.toList
  | (1, i) => its[i]?.toList
  | (_, i) => ws[i]?.toList
def kw {α : Type} : List (Nat × Nat) → List α → List α → List α → List α
  | [], _, _, _ => []
  | p :: f, us, its, ws => kw1 p us its ws ++ kw f us its ws
theorem vals_at : ∀ {xs : List V} {us : List Value}, Vals xs us → ∀ i : Nat, (xs[i]? = none ∧ us[i]? = none) ∨ ∃ x u, xs[i]? = some x ∧ us[i]? = some u ∧ RelV x u
  | _, _, .nil, _ => .inl ⟨rfl, rfl⟩
  | _, _, .cons r _, 0 => .inr ⟨_, _, rfl, rfl, r⟩
  | _, _, .cons _ t, i + 1 => by
    rw [List.getElem?_cons_succ, List.getElem?_cons_succ]
    exact vals_at t i
theorem vals_one {xs : List V} {us : List Value} (h : Vals xs us) (i : Nat) : Vals xs[i]?.toList us[i]?.toList := by
  rcases vals_at h i with ⟨e1, e2⟩ | ⟨x, u, e1, e2, r⟩
  · rw [e1, e2]
    exact .nil
  · rw [e1, e2]
    exact .cons r .nil
theorem kw_rel : ∀ (f : List (Nat × Nat)) {vs ds zs : List V} {us is ws : List Value}, Vals vs us → Vals ds is → Vals zs ws → Vals (kw f vs ds zs) (kw f us is ws)
  | [], _, _, _, _, _, _, _, _, _ => .nil
  | (0, i) :: f, _, _, _, _, _, _, h1, h2, h3 => (vals_one h1 i).append (kw_rel f h1 h2 h3)
  | (1, i) :: f, _, _, _, _, _, _, h1, h2, h3 => (vals_one h2 i).append (kw_rel f h1 h2 h3)
  | (_ + 2, i) :: f, _, _, _, _, _, _, h1, h2, h3 => (vals_one h3 i).append (kw_rel f h1 h2 h3)
/-! ### PearlError's own way: one field -/
def spPearl (K : PySem.W.Frag) (f : Str) : Sp := fun vs H Q _ => ∃ (a C : Addr) (v : V), vs = [.ref a, v] ∧ OexC K C ∧ PySem.W.findIn K (.ref C) f = some none ∧ H a = some (exo a C none) ∧
  ∀ dx, H dx = none → dx ≠ a → Q .non (upd (upd H dx (exd dx [(f, v)])) a (exo a C (some dx)))
theorem pearl_same {H : Hp} {a dx : Addr} {o1 o2 o3 : HO} {fs : List (Str × V)} (ha : H a = none) (hd : H dx = none) : Same H (upd (del (upd (upd (upd H a o1) dx o2) a o3) a) dx (.xd fs)) := fun b o e => by
  rw [upd_ne (ne_of_none e hd), del_ne (ne_of_none e ha), upd_ne (ne_of_none e ha), upd_ne (ne_of_none e hd), upd_ne (ne_of_none e ha)]
  exact e
end KA
/-! errors of own classes over any built-in class of errors: made, stored into -/
namespace KA
open PySem PySem.W PySem.Calls PyProof.Rows
section
open Builtin Builtin.ObjectAttr
variable {prog : Program} {w : World} {A : Around} {E : Value → Shared → Prop} {R : Result → Shared → Prop} {hp : Heap} {g : Array GenState} {d : Drawn} {t : Nat} {os : OsState} {B : String} {bmB : List Value}
theorem gosa {K : W.Frag} {name : Str} {tk : Tok} {v : Value} {x C : Addr} {fv : Array Value} {cd : ClassData} {bm : List Value} (SF : StoreFacts B bmB "object.__setattr__" "object")
    (X : K.In hp) (hx : hp.get? x = some { cls := .ref C, data := .fields fv }) (hcd : W.clsIn K C = some cd) (hmr : cd.mro = .ref C :: bm) (hm : W.excTail bmB bm = true) (hh : cd.hasDict = true) (ha : W.findIn K (.ref C) name = some none)
    (hq : ∀ h' tk' dx, (∀ b o, b ≠ x → hp.get? b = some o → h'.get? b = some o) → hp.objs.size ≤ dx → dx ≠ x → h'.get? x = some { cls := .ref C, dict := some dx, data := .fields fv } →
      h'.Ns1 dx (fun y => if y = name then some v else none) → R (.ok (.ret .none)) ⟨h', g, d, tk', os⟩) :
    codeAny (model prog w) A (.call (.builtin "object.__setattr__") ⟨[.ref x, .str name tk, v], []⟩) R ⟨hp, g, d, t, os⟩ := by
  have I : W.InstAt hp x { cls := .ref C, data := .fields fv } C none := ⟨hx, rfl, rfl, trivial⟩
  have hxs : x ≠ hp.objs.size := Nat.ne_of_lt (Heap.lt_size hx)
  have tl : W.excTail bmB cd.mro = true := by rw [hmr]; exact hm
  have hob : cd.mro.contains (.type "object") = true := (W.excTail_contains "object" _ tl).trans SF.hasOwner
  have sub : W.Looks (model prog w) hp (isInstance (.ref x) (.type "object")) true := I.type.andThen (W.looks_mroIn X (by unfold W.mroIn; rw [hcd, Option.bind_some, if_neg (by rw [hmr]; simp), hob]))
  have SO := F.store_object
  refine codeAny_call_builtin SO.slot.plain SO.entry (@W.check_slot (model prog w) _ _ ⟨hp, g, d, t, os⟩ "object.__setattr__" "object" "__setattr__" (.ref x) [.str name tk, v] [] _ SO.kind SO.split sub (SO.args (.ref x) (.str name tk) v) ?_)
  have L1 : W.Looks (model prog w) hp (mroOf (.ref C)) cd.mro := (W.looks_clsIn X hcd).andThen .now
  have L2 : W.Looks (model prog w) hp (storeTaker? none) none := .now
  have L3 : W.Looks (model prog w) hp (classData C) cd := W.looks_clsIn X hcd
  rw [W.osa_eq, refuse_eq]
  refine wpAny_bind (wpAny_bind (I.type.at (wpAny_bind (L1.at ?_))))
  rw [W.excTail_pass _ (SF.passes _) _ tl]
  refine wpAny_pure (wpAny_bind (I.type.at (wpAny_bind ((W.looks_findIn X ha).at (wpAny_bind (L2.at ?_))))))
  show wpAny _ _ (storeInOwnDict (.ref x) (.ref C) (.str name tk) name v false) _ _ _
  obtain ⟨nm, bs, mro, ns, qn, hd, sn, sb, ab, col, del⟩ := cd
  dsimp only at hh
  subst hh
  unfold storeInOwnDict ownDictForStores
  repeat (first | with_reducible refine HandSPX.store_in_new ?_ ?_ | with_reducible refine wpAny_loadPart_at hx ?_ | with_reducible refine L3.at ?_ | wp_step)
  · exact ⟨_, #[], _, (Heap.get?_update_ne _ _ _ _ hxs.symm).trans (Heap.get?_push_at rfl rfl), rfl, fun e he => absurd he (by simp), fun _ => rfl⟩
  · intro h' tk' hn' hs
    have hx₁ : (hp.push { cls := .type "dict", data := .dict #[] }).get? x = some { cls := .ref C, data := .fields fv } := Heap.get?_push_of_some _ hx
    refine hq h' tk' hp.objs.size (fun b o hb ho => ?_) (Nat.le_refl _) hxs.symm ?_ hn'
    · exact (hs.2 b (Nat.ne_of_lt (Heap.lt_size ho))).trans ((Heap.get?_update_ne _ _ _ _ hb).trans (Heap.get?_push_of_some _ ho))
    · exact (hs.2 x hxs).trans (Heap.get?_update_self _ hx₁ rfl)
theorem gosa_old {K : W.Frag} {name : Str} {tk : Tok} {v : Value} {x C dx : Addr} {fv : Array Value} {cd : ClassData} {bm : List Value} {m0 : Str → Option Value} {nl : List Str} (SF : StoreFacts B bmB "object.__setattr__" "object")
    (X : K.In hp) (hx : hp.get? x = some { cls := .ref C, dict := some dx, data := .fields fv }) (hns : hp.Ns1 dx m0) (hw : Within m0 nl) (hz : nl.length ≤ 1000) (hcd : W.clsIn K C = some cd) (hmr : cd.mro = .ref C :: bm) (hm : W.excTail bmB bm = true) (hh : cd.hasDict = true)
    (ha : W.findIn K (.ref C) name = some none)
    (hq : ∀ h' tk', (∀ b o, b ≠ dx → hp.get? b = some o → h'.get? b = some o) → h'.Ns1 dx (fun y => if y = name then some v else m0 y) → R (.ok (.ret .none)) ⟨h', g, d, tk', os⟩) :
    codeAny (model prog w) A (.call (.builtin "object.__setattr__") ⟨[.ref x, .str name tk, v], []⟩) R ⟨hp, g, d, t, os⟩ := by
  obtain ⟨oD, esD, epD, hoD, hdD, _⟩ := hns.count hw
  have I : W.InstAt hp x { cls := .ref C, dict := some dx, data := .fields fv } C (some oD) := ⟨hx, rfl, rfl, hoD⟩
  have tl : W.excTail bmB cd.mro = true := by rw [hmr]; exact hm
  have hob : cd.mro.contains (.type "object") = true := (W.excTail_contains "object" _ tl).trans SF.hasOwner
  have sub : W.Looks (model prog w) hp (isInstance (.ref x) (.type "object")) true := I.type.andThen (W.looks_mroIn X (by unfold W.mroIn; rw [hcd, Option.bind_some, if_neg (by rw [hmr]; simp), hob]))
  have SO := F.store_object
  refine codeAny_call_builtin SO.slot.plain SO.entry (@W.check_slot (model prog w) _ _ ⟨hp, g, d, t, os⟩ "object.__setattr__" "object" "__setattr__" (.ref x) [.str name tk, v] [] _ SO.kind SO.split sub (SO.args (.ref x) (.str name tk) v) ?_)
  have L1 : W.Looks (model prog w) hp (mroOf (.ref C)) cd.mro := (W.looks_clsIn X hcd).andThen .now
  have L2 : W.Looks (model prog w) hp (storeTaker? none) none := .now
  have L3 : W.Looks (model prog w) hp (classData C) cd := W.looks_clsIn X hcd
  rw [W.osa_eq, refuse_eq]
  refine wpAny_bind (wpAny_bind (I.type.at (wpAny_bind (L1.at ?_))))
  rw [W.excTail_pass _ (SF.passes _) _ tl]
  refine wpAny_pure (wpAny_bind (I.type.at (wpAny_bind ((W.looks_findIn X ha).at (wpAny_bind (L2.at ?_))))))
  show wpAny _ _ (storeInOwnDict (.ref x) (.ref C) (.str name tk) name v false) _ _ _
  obtain ⟨nm, bs, mro, ns, qn, hd, sn, sb, ab, col, del⟩ := cd
  dsimp only at hh
  subst hh
  unfold storeInOwnDict ownDictForStores
  repeat (first | with_reducible refine OEX.store_in_old hns hw hz ?_ | with_reducible refine wpAny_loadPart_at hx ?_ | with_reducible refine L3.at ?_ | wp_step)
  intro h' tk' hn' hs
  exact hq h' tk' (fun b o hb ho => (hs.2 b hb).trans ho) hn'
end
end KA
namespace KA
open PySem PySem.Spec PyProof.Rows L2
/-- what the written part says of a class of errors over the built-in one B -/
structure OexB (newId : String) (bmB : List Value) (K : PySem.W.Frag) (C : Addr) : Prop where
  cls : ∃ nm q N bs bm sn sub ab col dd k0 k1 k2 k3 k5, K.lookup C = some (excClassObj nm q C N bs bm true sn sub ab col dd k0 k1 k2 k3 k5 newId) ∧ PySem.W.excTail bmB bm = true
  sa : PySem.W.findIn K (.ref C) "__setattr__" = some (some (.builtin "object.__setattr__"))
  exC : PySem.W.subIn K (.ref C) (.type "BaseException") = some true
  tyC : PySem.W.typeIn K (.ref C) = some (.type "type")
  kC : PySem.W.keepIn K (.ref C) = true
section
variable {X : Cx} {pins : List (Addr × Obj)} {σ : L2.St} {H : Hp} {s : Shared} {a C dx : Addr} {f : Str} {y : V} {u : Value} {fs : List (Str × V)} {Q : Unit → Shared → Prop} {E : Value → Shared → Prop} {A : Around} {B newId initId : String} {bmB : List Value}
theorem gost_new (SF : StoreFacts B bmB "object.__setattr__" "object") (T : OexB newId bmB X.K C) (I : L2.Inv X pins σ H s) (e : H a = some (exo a C none)) (hno : PySem.W.findIn X.K (.ref C) f = some none) (ry : RelV y u)
    (h : ∀ dx s', H dx = none → dx ≠ a → L2.Inv X pins σ (upd (upd H dx (exd dx [(f, y)])) a (exo a C (some dx))) s' → Q () s') : wpAny (model X.prog X.w) A (setAttr (.ref a) f u) Q E s := by
  obtain ⟨nm, q, N, bs, bm, sn, sub, ab, col, dd, k0, k1, k2, k3, k5, hC, hbm⟩ := T.cls
  have hcl : PySem.W.clsIn X.K C = some { name := nm, bases := bs, mro := .ref C :: bm, ns := N, qualname := q, hasDict := true, slotNames := sn, subclasses := sub, abstract := ab, collection := col, hasDel := false } := by unfold PySem.W.clsIn; rw [hC] <;> rfl
  obtain ⟨t1, ho⟩ := exo_at I.hok e
  obtain ⟨hp, g, d, t, os⟩ := s
  refine PySem.W.set_plain I.kIn (ox := { cls := .ref C, dict := none, data := .fields #[.ref t1, .none, .none, .none, .bool false, .none] }) (od := none) ⟨ho, rfl, rfl, trivial⟩ T.sa ?_
  refine gosa SF I.kIn ho hcl rfl hbm rfl hno (fun h' tk' dx k dn dne hx hn => ?_)
  have hnd : H dx = none := I.hok.fresh dn
  have nd : ∀ {b : Addr} {o : Obj}, hp.get? b = some o → b ≠ dx := fun {b o} q => Nat.ne_of_lt (Nat.lt_of_lt_of_le (Heap.lt_size q) dn)
  have na : ∀ {b : Addr}, H b = none → b ≠ a := fun {b} n z => by
    rw [z, e] at n
    cases n
  have U : Un X.fs [] H (upd (upd H dx (exd dx [(f, y)])) a (exo a C (some dx))) hp h' := {
    keep := fun b o q n _ _ => k b o (na n) q
    slot := fun b o q n _ _ => ⟨o.slots, k b o (na n) q⟩
    free := fun b o q n _ => by rw [upd_ne (na n), upd_ne (nd q)]; exact n
    there := fun b o q _ => by
      by_cases hb : b = a
      · exact ⟨_, by rw [hb]; exact hx⟩
      · exact ⟨o, k b o hb q⟩
    tups := fun b xs q => by rw [upd_ne (at_ne e q exo_tup), upd_ne (ne_of_none q hnd)]; exact q
    frzs := fun b o v q => by rw [upd_ne (at_ne e q exo_frz), upd_ne (ne_of_none q hnd)]; exact q
    tbls := fun b ps q => ⟨#[], by rw [upd_ne (at_ne e q exo_tbl), upd_ne (ne_of_none q hnd), q]; simp⟩ }
  refine h dx _ hnd dne (I.un (t' := tk') U fun b o q => ?_)
  by_cases hb : b = a
  · subst hb
    rw [upd_same] at q
    cases q
    exact exo_ok hx
  · rw [upd_ne hb] at q
    by_cases hd : b = dx
    · subst hd
      rw [upd_same] at q
      cases q
      exact exd_ok hn (relO_put (fs := []) ry fun g => True.intro)
    · rw [upd_ne hd] at q
      exact (I.hok b o q).stay (fun c v hc z => k c v (by
          rcases hc with hc | hc
          · rw [hc]
            exact hb
          · exact at_ne e hc exo_own) z)
        (fun c hc => by rw [upd_ne (at_ne e hc exo_own), upd_ne (ne_of_none hc hnd)]; exact hc) (fun c xs hc => by rw [upd_ne (at_ne e hc exo_tup), upd_ne (ne_of_none hc hnd)]; exact hc)
theorem gost_old (SF : StoreFacts B bmB "object.__setattr__" "object") (T : OexB newId bmB X.K C) (I : L2.Inv X pins σ H s) (e : H a = some (exo a C (some dx))) (ed : H dx = some (exd dx fs)) (hl : fs.length ≤ 900) (hno : PySem.W.findIn X.K (.ref C) f = some none) (ry : RelV y u)
    (h : ∀ s', L2.Inv X pins σ (upd H dx (exd dx ((f, y) :: fs))) s' → Q () s') : wpAny (model X.prog X.w) A (setAttr (.ref a) f u) Q E s := by
  obtain ⟨nm, q, N, bs, bm, sn, sub, ab, col, dd, k0, k1, k2, k3, k5, hC, hbm⟩ := T.cls
  have hcl : PySem.W.clsIn X.K C = some { name := nm, bases := bs, mro := .ref C :: bm, ns := N, qualname := q, hasDict := true, slotNames := sn, subclasses := sub, abstract := ab, collection := col, hasDel := false } := by unfold PySem.W.clsIn; rw [hC] <;> rfl
  obtain ⟨t1, ho⟩ := exo_at I.hok e
  obtain ⟨mA, hns, rel⟩ := exd_at I.hok ed
  have hw := within_of rel
  obtain ⟨hp, g, d, t, os⟩ := s
  obtain ⟨oD, _, _, hoD, _, _⟩ := hns.count hw
  refine PySem.W.set_plain I.kIn (ox := { cls := .ref C, dict := some dx, data := .fields #[.ref t1, .none, .none, .none, .bool false, .none] }) (od := some oD) ⟨ho, rfl, rfl, hoD⟩ T.sa ?_
  refine gosa_old SF I.kIn ho hns hw (by rw [List.length_map]; omega) hcl rfl hbm rfl hno (fun h' tk' k hn => ?_)
  have hd : ∃ o, h'.get? dx = some o := by
    obtain ⟨o, _, _, e', _⟩ := hn
    exact ⟨o, e'⟩
  exact h _ (I.write (t' := tk') (x := dx) (e := dx) (o := exd dx ((f, y) :: fs)) (by rw [ed]; exact True.intro) (.inl rfl) k hd (exd_ok hn (relO_put ry rel)))
theorem goinit {us : List Value} {Q : Value → Shared → Prop} (FB : ExcBaseFacts B newId initId bmB) (T : OexB newId bmB X.K C) (I : L2.Inv X pins σ H s) (e : H a = some (exo a C none)) (hl : us.length ≤ sizeLine) (h : ∀ s', L2.Inv X pins σ H s' → Q .none s') :
    wpAny (model X.prog X.w) A (call (.builtin initId) (.ref a :: us)) Q E s := by
  obtain ⟨nm, q, N, bs, bm, sn, sub, ab, col, dd, k0, k1, k2, k3, k5, hC, hbm⟩ := T.cls
  obtain ⟨t1, ho⟩ := exo_at I.hok e
  obtain ⟨hp, g, d, t, os⟩ := s
  refine wpAny_call (PySem.HandSPX.init_base FB (fun Y => PySem.W.excTail_contains Y bm hbm) (I.kIn _ _ hC) ho hl fun h' t2 k hx => ?_)
  have J := I.write (t' := t) (x := a) (e := a) (o := exo a C none) (by rw [e]; exact True.intro) (.inl rfl) k ⟨_, hx⟩ (exo_ok hx)
  have eu : upd H a (exo a C none) = H := by
    funext b
    by_cases hb : b = a
    · rw [hb, upd_same, e]
    · rw [upd_ne hb]
  rw [eu] at J
  exact h _ J
end
/-- B.__init__(self, ..) -/
def tBI (newId : String) (bmB : List Value) (K : PySem.W.Frag) (ta : TA) : TE := fun σ H Q => ta σ H fun vs H1 => ∃ (a C : Addr) (ws : List V), vs = .ref a :: ws ∧ ws.length ≤ 1000 ∧ OexB newId bmB K C ∧ H1 a = some (exo a C none) ∧ Q .non H1
/-- self.f = e -/
def tOstB (newId : String) (bmB : List Value) (K : PySem.W.Frag) (f : Str) (to te : TE) : TS := fun D σ H => te σ H fun y H1 => to σ H1 fun x H2 => ∃ a C : Addr, x = .ref a ∧ OexB newId bmB K C ∧ PySem.W.findIn K (.ref C) f = some none ∧
  ((H2 a = some (exo a C none) ∧ ∀ dx, H2 dx = none → dx ≠ a → D.nx σ (upd (upd H2 dx (exd dx [(f, y)])) a (exo a C (some dx)))) ∨
    ∃ (dx : Addr) (fs : List (Str × V)), H2 a = some (exo a C (some dx)) ∧ H2 dx = some (exd dx fs) ∧ fs.length ≤ 900 ∧ D.nx σ (upd H2 dx (exd dx ((f, y) :: fs))))
section
variable {X : Cx} {o e : Expr} {es : List Expr} {to te : TE} {ta : TA} {f : Str} {p p' p1 p2 pos : Pos} {B newId initId : String} {bmB : List Value}
/-- B.__init__(self, ..) of a built-in class of errors -/
theorem pe_binit {pl : Sem Bool} {x : Str} (FB : ExcBaseFacts B newId initId bmB) (hg : Gl X x) (hm : X.mg x = none) (hv : bootBuiltins x = some (.type B)) (htp : typeOf (.type B) = pure (.type "type")) (hst : Manifest.isStub B = false) (hhi : PySem.W.handedIn (.builtin initId) = true)
    (vV : PySem.W.findCls X.K (.type B) (.type "type") "__init__" = some (.val (.builtin initId))) (ha : PA X (e :: es) ta)
    (hc : eval (.Call (.Attribute (.Name x p1) "__init__" p2) (e :: es) [] pos) X.env = (do
      let ov ← eval (.Name x p1) X.env
      standAt p2.atName
      let (f, first) ← holding [ov] (getMethod ov "__init__" pl)
      callWith pos f first (backTo pos (starEach (e :: es) X.env)) (backToKw pos (keywordEach [] X.env))) := by rfl)
    (he : starEach (e :: es) X.env = (false, eval e X.env) :: starEach es X.env := by rfl) (hpl : (backTo pos (starEach es X.env)).any (·.1) = false := by rfl) (hn : x ≠ "__name__" := by decide) (hdb : (x == ("__debug__" : Str)) = false := by decide) :
    PE X (.Call (.Attribute (.Name x p1) "__init__" p2) (e :: es) [] pos) (tBI newId bmB X.K ta) := by
  refine ⟨fun pins s σ H Q I h => ?_⟩
  refine PySem.W.methodCall_KW (ld_blt I hg hm hv ?_ hn hdb) hc
  obtain ⟨m, fr⟩ := I.fr
  refine PySem.W.method_type fr I.ok.mod.kin htp hst vV hhi ?_
  show wpAny _ _ (callWith pos (Value.builtin initId) [] (backTo pos (starEach (e :: es) X.env)) []) _ _ _
  refine PyProof.Rows.callWith_method1 (thn (ha.run pos pins _ σ H _ (I.tok _) h) fun us s1 ⟨vs, H1, I1, r1, a, C, ws, ev, hl, T, ea, q⟩ => ?_) he hpl
  subst ev
  cases r1 with
  | @cons _ u0 _ ur ra rw' =>
    obtain rfl : u0 = Value.ref a := ra
    have hlen : ur.length ≤ sizeLine := by
      rw [← Paired.length rw', sizeLine_eq]
      omega
    exact goinit FB T I1 ea hlen fun s' J => ⟨.non, H1, J, rfl, q⟩
theorem ps_ostB (SF : StoreFacts B bmB "object.__setattr__" "object") (ho : PE X o to) (he : PE X e te) (hs : swapsWith e (some (.Attribute o f p')) pos.line X.env = pure false := by rfl) : PS X (.Assign [.Attribute o f p'] e pos) (tOstB newId bmB X.K f to te) := by
  refine ⟨fun pins s σ H D I h => ?_⟩
  refine plainObj_wpAny_Assign_Attribute (thn (he.run pins s σ H _ I h) fun v s1 ⟨y, H1, I1, r1, q1⟩ => thn (ho.run pins s1 σ H1 _ I1 q1) fun u s2 ⟨x, H2, I2, r2, a, C, ex, T, hno, q⟩ => ?_) hs
  subst ex
  obtain rfl : u = Value.ref a := r2
  rcases q with ⟨ea, q⟩ | ⟨dx, fs, ea, ed, hl, q⟩
  · exact gost_new SF T I2 ea hno r1 fun dx s' n ne J => ⟨σ, _, J, q dx n ne⟩
  · exact gost_old SF T I2 ea ed hl hno r1 fun s' J => ⟨σ, _, J, q⟩
theorem pmk_gex {CX : CXT} {x : Str} {C fI : Addr} {k : Nat} {fd : FuncData} {ps : List Str} {sp : Sp} {ds : List Value} {dvs : List V} (FB : ExcBaseFacts B newId initId bmB) (T : OexB newId bmB X.K C) (iC : PySem.W.findIn X.K (.ref C) "__init__" = some (some (.ref fI))) (tI : PySem.W.typeIn X.K (.ref fI) = some (.type "function"))
    (F1 : FnOk X.prog X.w X.K X.mg X.base CX k fI fd ps sp) (hr : Room (k + 1) X.A) (hb : Binds X.K fd ps ds) (hd : Vals dvs ds) (hx : Passes CX X (fun _ _ _ => False)) (hg : Gl X x) (hm : X.mg x = some (.ref C)) (ha : PA X (e :: es) ta)
    (hdb : (x == ("__debug__" : Str)) = false := by decide) (he : starEach (e :: es) X.env = (false, eval e X.env) :: starEach es X.env := by rfl) (hpl : (backTo pos (starEach es X.env)).any (·.1) = false := by rfl) :
    PMk X (.Call (.Name x p) (e :: es) [] pos) (tMkO C sp dvs ta) := by
  intro pins s σ H Q I h
  obtain ⟨nm, q, N, bs, bm, sn, sub, ab, col, dd, k0, k1, k2, k3, k5, hC, hbm⟩ := T.cls
  refine wpAny_Call_Name_kw (ld_glob I hg hm ?_ hdb)
  refine PySem.W.callWith_K (h₀ := X.base) I.ok.mod.kin T.kC (thn (ha.run pos pins s σ H _ I h) fun us s1 ⟨vs, H1, I1, r1, hz, q1⟩ => ⟨I1.kIn, ?_⟩) he hpl
  show wpAny _ _ (call (.ref C) us) _ _ _
  obtain ⟨hp, g, dr, tk, os⟩ := s1
  have hsz : hp.objs.size ≤ hp.objs.size + 1 := Nat.le_succ _
  have hn : H1 (hp.objs.size + 1) = none := I1.hok.fresh hsz
  have hq := q1 (hp.objs.size + 1) hn
  have kk : ∀ b o, hp.get? b = some o → ((hp.push (PySem.W.kdv_tup us)).push (PySem.HandSPX.excO C hp.objs.size)).get? b = some o := fun b o e => Heap.get?_push_of_some _ (Heap.get?_push_of_some _ e)
  have hget : ((hp.push (PySem.W.kdv_tup us)).push (PySem.HandSPX.excO C hp.objs.size)).get? (hp.objs.size + 1) = some (PySem.HandSPX.excO C hp.objs.size) := by heap_get
  have I2 : L2.Inv X pins σ (upd H1 (hp.objs.size + 1) (exo (hp.objs.size + 1) C none)) ⟨(hp.push (PySem.W.kdv_tup us)).push (PySem.HandSPX.excO C hp.objs.size), g, dr, tk, os⟩ :=
    I1.laid (t' := tk) (a := hp.objs.size + 1) (o := exo (hp.objs.size + 1) C none) (h' := (hp.push (PySem.W.kdv_tup us)).push (PySem.HandSPX.excO C hp.objs.size)) kk hsz (exo_ok hget)
  have r2 : Vals (V.ref (hp.objs.size + 1) :: (vs ++ dvs)) (Value.ref (hp.objs.size + 1) :: (us ++ ds)) := .cons rfl (r1.append hd)
  have hl : (Value.ref (hp.objs.size + 1) :: us ++ ds).length = ps.length := by
    have e := r2.length
    rw [F1.len _ _ _ _ hq] at e
    exact e.symm
  have hus : us.length ≤ sizeLine := by
    rw [← Paired.length r1, sizeLine_eq]
    omega
  refine wpAny_call (PySem.HandSPX.call_own FB (fun Y => PySem.W.excTail_contains Y bm hbm) (I1.kIn _ _ hC) (PySem.W.looks_findIn I1.kIn iC) (fun self => PySem.W.bind_fn I1.kIn self tI) hus
    (codeAny_mono (F1.run _ X.stack _ _ ⟨Value.ref (hp.objs.size + 1) :: us, []⟩ (Value.ref (hp.objs.size + 1) :: (us ++ ds)) _ _ (fun _ _ _ => False) (hr.make C us []) (I2.env0.make C us []) (hb _ (Value.ref (hp.objs.size + 1) :: us) I2.kIn hl) r2 hq) fun r s' hq' => ?_))
  cases r with
  | error er => exact hx pins σ _ _ er s' I2 hq'
  | ok fl =>
    cases fl with
    | ret u =>
      obtain ⟨v, H2, os2, bare2, un2, hok2, rv, ev, d, fs, ea, ed, hd1, q2⟩ := hq'
      subst ev
      obtain ⟨h2, g2, d2, t2, os'⟩ := s'
      exact ⟨rv, mk_end (raises_own T.exC T.tyC) I1 hsz kk un2 hok2 os2 bare2 ea ed hd1 q2⟩
    | next => exact False.elim hq'
    | brk => exact False.elim hq'
    | cont => exact False.elim hq'
end
/-- what a B.__init__ + one field of its own promises: E(v) with field f -/
def spErr (newId : String) (bmB : List Value) (K : PySem.W.Frag) (f : Str) : Sp := fun vs H Q _ => ∃ (a C : Addr) (v : V), vs = [.ref a, v] ∧ OexB newId bmB K C ∧ PySem.W.findIn K (.ref C) f = some none ∧ H a = some (exo a C none) ∧
  ∀ dx, H dx = none → dx ≠ a → Q .non (upd (upd H dx (exd dx [(f, v)])) a (exo a C (some dx)))
abbrev zdT : List Value := [.type "ZeroDivisionError", .type "ArithmeticError", .type "Exception", .type "BaseException", .type "object"]
abbrev ixT : List Value := [.type "IndexError", .type "LookupError", .type "Exception", .type "BaseException", .type "object"]
abbrev luT : List Value := [.type "LookupError", .type "Exception", .type "BaseException", .type "object"]
theorem typ_ZD : typeOf (.type "ZeroDivisionError") = pure (.type "type") := by kernel_rfl
theorem typ_IX : typeOf (.type "IndexError") = pure (.type "type") := by kernel_rfl
theorem typ_LU : typeOf (.type "LookupError") = pure (.type "type") := by kernel_rfl
end KA
namespace KA
open PySem PySem.Spec PyProof.Rows L2
/-! a try with several except clauses, each with a name of its own -/
def endsAs (D : Ends) (j : Nat) : Ends where
  nx := fun τ G => D.nx (τ.set j none) G
  rt := D.rt
  bk := fun τ G => D.bk (τ.set j none) G
  ct := fun τ G => D.ct (τ.set j none) G
abbrev HSpec := Value × Nat × (Addr → Value → Option Addr → TS)
def wAll (K : PySem.W.Frag) (Wo : WX) (D : Ends) : List HSpec → WX
  | [] => Wo
  | (c, j, t) :: more => fun k o τ G => ∃ b, PySem.W.exmOne K k c = some b ∧ (b = true → ∀ z, G z = none → t z k o (endsAs D j) (τ.set j (some (.ref z))) G) ∧ (b = false → wAll K Wo D more k o τ G)
inductive HAs (X : Cx) : List ExceptHandler → List HSpec → Prop
  | nil : HAs X [] []
  | cons {x n : Str} {c : Value} {j : Nat} {t : Addr → Value → Option Addr → TS} {s0 : Stmt} {su : List Stmt} {np hp : Pos} {hs : List ExceptHandler} {l : List HSpec} (nm : Names X x c) (hj : X.N[j]? = some n) (hl : X.env.kindOf n = some .local)
      (run : ∀ (z : Addr) (ob : Obj) (k : Value) (o : Option Addr) (pn : List (Addr × Obj)), Zc k o ob → (∃ ws, ob.data = .fields ws) → PSs (X.suite z ((z, ob) :: pn)) (s0 :: su) (t z k o)) (more : HAs X hs l) :
      HAs X (.ExceptHandler (some (.Name x np)) (some n) (s0 :: su) hp :: hs) ((c, j, t) :: l)
section
variable {X : Cx} {body : List Stmt} {h1 : ExceptHandler} {hs : List ExceptHandler} {l : List HSpec} {pos : Pos} {tb : WX → TS} {Wo : WX}
theorem ps_try_all (st : X.stack = X.env :: X.outer) (fr : X.env.frame = some X.env.locals) (nd : X.N.Nodup) (tk : Takes X Wo)
    (hb : ∀ (W : WX) (pn : List (Addr × Obj)) (xe : Value → Shared → Prop), Takes (X.tr pn xe) W → PassesOwn (model X.prog X.w) X.A X.env xe → PSs (X.tr pn xe) body (tb W))
    (hh : HAs X (h1 :: hs) l) : PS X (.Try body (h1 :: hs) [] [] pos) (fun D σ H => tb (wAll X.K Wo D l) D σ H) := by
  constructor
  intro pins s σ H D I h
  have ok := I.ok
  have frs' : X.A.frames = some (X.env :: X.outer) := ok.frames.trans (congrArg some st)
  apply wpAny_Try_except
  let xe' : Value → Shared → Prop := fun u s1 => wpAny (model X.prog X.w) X.A (noteFrame u X.env) (fun _ s2 => wpAny (model X.prog X.w) X.A (setFlight u none) (fun _ s3 => wpAny (model X.prog X.w) X.A (handleBy u X.env (h1 :: hs)) (SP X pins D) X.xe s3) X.xe s2) X.xe s1
  have land : Takes (X.tr (X.pn ++ pins) xe') (wAll X.K Wo D l) := by
    rintro u s' ⟨z, B, sI, qins, τ, G, k, o, rfl, J0, c1, c2, c3, c4, c5, c6, c7⟩
    have J : Inv X pins τ G sI := J0.ofTry ok
    have sky : Sky B (X.env :: X.outer) z (Zc k o) X.env.locals s'.heap := by
      rw [← st]
      exact c3
    show wpAny (model X.prog X.w) X.A (noteFrame (.ref z) X.env) _ _ _
    refine Sky.land Zc.steady frs' fr sky fun g fl u3 => ?_
    have J3 : Inv X pins τ G { s' with heap := g } := J.landed c1 fl.1 (c2.trans u3) c5 c6
    obtain ⟨ob, ws, e3, z3, d3⟩ := fl.there
    have noFr : z ∉ frs (X.env :: X.outer) := fun hm => by
      obtain ⟨_, ob', e', nf⟩ := Heap.FunFrames.mem fl.2.2.1 hm
      have := e3.symm.trans e'
      cases this
      exact nf _ d3
    have noL : z ≠ X.env.locals := fun q => noFr (List.mem_filterMap.mpr ⟨X.env, List.mem_cons_self, fr.trans (congrArg some q.symm)⟩)
    have noS : z ∉ X.fs := fun hm => by
      obtain ⟨en, hen, q⟩ := List.mem_filterMap.mp hm
      exact noFr (List.mem_filterMap.mpr ⟨en, List.mem_cons_of_mem _ hen, q⟩)
    have S3 := J3.suite e3 d3 c4 noL noS
    have LT : PySem.W.Looks (model X.prog X.w) g (typeOf (.ref z)) k := fun A Q E t0 kk q => wpAny_typeOf_ref (kk _ _ e3) (by rw [z3.1]; exact q)
    have each : ∀ {hs' : List ExceptHandler} {l' : List HSpec}, HAs X hs' l' → wAll X.K Wo D l' k o τ G → wpAny (model X.prog X.w) X.A (handleBy (.ref z) X.env hs') (SP X pins D) X.xe { s' with heap := g } := by
      intro hs' l' hk
      induction hk with
      | nil =>
        intro wo
        apply wpAny_handleBy_nil
        obtain ⟨k1, k2, k3, oe, vs, T, oT, ts', he, hz, hd, hT, hr⟩ := id fl
        unfold PySem.passOn
        refine wpAny_bind (wpAny_field he hd hT ?_)
        have nn : ¬ ((Value.ref T == Value.none) = true) := by simp
        rw [if_neg nn]
        have out : wpAny (model X.prog X.w) X.A (setFlight (.ref z) X.env.frame) (fun _ s4 => wpAny (model X.prog X.w) X.A (throw (.ref z) : Sem Flow) (SP X pins D) X.xe s4) X.xe { s' with heap := g } := by
          rw [fr]
          refine HandSPX.setFlight_upZ fl fun g4 f4 u4 => wpAny_throw (tk _ _ ⟨z, B, sI, pins, τ, G, k, o, rfl, J, c1, (c2.trans u3).trans u4, .inr (.inr ?_), c4, c5, c6, wo⟩)
          rw [st]
          exact f4
        first
          | exact wpAny_bind (wpAny_pure (wpAny_bind out))
          | exact wpAny_bind out
      | @cons x n c j t s0 su np hp hs2 l2 nm hj hl run more ih =>
        rintro ⟨b, hb1, yes, no⟩
        refine wpAny_handleBy_cons (codeAny_handlers_test ?_) (fun q => by cases q)
        have ask : ∀ {Q : Value → Shared → Prop} {E : Value → Shared → Prop}, Q c { s' with heap := g } → wpAny (model X.prog X.w) (X.A.mark (some (.ref z))) (eval (.Name x np) X.env) Q E { s' with heap := g } := fun {Q E} q => by
          rcases nm with ⟨n1, n2, m1 | ⟨m1, m2, m3⟩⟩
          · exact ld_glob (X := X.suite z ((z, ob) :: (X.pn ++ pins))) S3 n1 m1 q n2
          · exact ld_blt (X := X.suite z ((z, ob) :: (X.pn ++ pins))) S3 n1 m1 m2 q m3 n2
        refine ask ((PySem.W.exm_one (M := model X.prog X.w) J3.kIn LT hb1).here ?_)
        cases b with
        | false => exact ih (no rfl)
        | true =>
          refine codeAny_handlers_suite_as (HandSPX.lands_againZ fl fun g4 f4 u4 => ?_)
          have J4 : Inv X pins τ G { s' with heap := g4 } := J.landed c1 f4.1 ((c2.trans u3).trans u4) c5 c6
          obtain ⟨ob4, ws4, e4, z4, d4⟩ := f4.there
          have S4 := J4.suite e4 d4 c4 noL noS
          refine store_ok (X := X.suite z ((z, ob4) :: (X.pn ++ pins))) (v := .ref z) S4 nd hj (.inl hl) rfl (fun s5 S5 => ?_) (.inr hl)
          have ran := (run z ob4 k o (X.pn ++ pins) z4 ⟨_, d4⟩).run [] s5 _ G _ S5 (yes rfl z c4)
          have close : ∀ {s6 : Shared} {τ6 : L2.St} {G6 : Hp} {Q : Shared → Prop}, Inv (X.suite z ((z, ob4) :: (X.pn ++ pins))) [] τ6 G6 s6 → (∀ s7, Inv X pins (τ6.set j none) G6 s7 → Q s7) →
              wpAny (model X.prog X.w) X.A (do bindName X.env n .none; unbindBehindTheSuite X.env n hp) (fun _ s7 => Q s7) X.xe s6 := fun S6 hq => gone_ok (S6.unsuite ok) nd hj hl hq
          refine wpAny_mono ran (fun fl6 s6 hsp => ?_) (fun _ _ q => q.elim)
          cases fl6 with
          | ret u =>
            obtain ⟨v6, τ6, G6, S6, r6, q6⟩ := hsp
            exact close S6 fun s7 J7 => ⟨_, _, _, J7, r6, q6⟩
          | next =>
            obtain ⟨τ6, G6, S6, q6⟩ := hsp
            exact close S6 fun s7 J7 => ⟨_, _, J7, q6⟩
          | brk =>
            obtain ⟨τ6, G6, S6, q6⟩ := hsp
            exact close S6 fun s7 J7 => ⟨_, _, J7, q6⟩
          | cont =>
            obtain ⟨τ6, G6, S6, q6⟩ := hsp
            exact close S6 fun s7 J7 => ⟨_, _, J7, q6⟩
    exact each hh c7
  refine wpAny_mono ((hb (wAll X.K Wo D l) (X.pn ++ pins) xe' land PassesOwn.looking).run [] s σ H D (I.toTry _) h) (fun fl s1 hsp => ?_) (fun u s1 hu => hu)
  cases fl with
  | ret u =>
    obtain ⟨v, τ, G, J, r, q⟩ := hsp
    exact ⟨v, τ, G, J.ofTry ok, r, q⟩
  | next =>
    obtain ⟨τ, G, J, q⟩ := hsp
    exact wpAny_execs_nil ⟨τ, G, J.ofTry ok, q⟩
  | brk =>
    obtain ⟨τ, G, J, q⟩ := hsp
    exact ⟨τ, G, J.ofTry ok, q⟩
  | cont =>
    obtain ⟨τ, G, J, q⟩ := hsp
    exact ⟨τ, G, J.ofTry ok, q⟩
end
end KA
namespace KA
open PySem PySem.Spec PyProof.Rows L2
/-- C(e, .., k = v) within a try: what it raises is told with the names as they stand -/
def tMakeNS (C : Addr) (n m : Nat) (sp : Sp) (gV : List V → List V → List V) (E : L2.St → XK) (t tk : TA) : TE := fun σ H Q => tMakeN C n m sp gV (E σ) t tk σ H Q
section
variable {X : Cx} {CX : CXT} {k n : Nat} {f C : Addr} {fd : FuncData} {ps ks : List Str} {sp : Sp} {E : L2.St → XK} {x : Str} {p pos : Pos} {e : Expr} {es : List Expr} {kws : List Keyword} {t tk : TA} {g : List Value → List Value → List Value} {gV : List V → List V → List V}
theorem pe_makeNS (M : Mk X.K C f) (F : FnOk X.prog X.w X.K X.mg X.base CX k f fd ps sp) (hr : Room (k + 1) X.A) (hg : Gl X x) (hm : X.mg x = some (.ref C)) (hb : KBn X.K fd ps (n + 1) ks g gV) (hx : ∀ σ, PassesAt CX X σ (E σ))
    (ha : PA X (e :: es) t) (hkw : PK X kws tk) (hall : (backToKw pos (keywordEach kws X.env)).all (·.1.isSome) = true := by rfl) (hks : (backToKw pos (keywordEach kws X.env)).filterMap (·.1) = ks := by rfl)
    (hdb : (x == ("__debug__" : Str)) = false := by decide) (he : starEach (e :: es) X.env = (false, eval e X.env) :: starEach es X.env := by rfl)
    (hpl : ((backTo pos (starEach (e :: es) X.env)).any (·.1) || (backToKw pos (keywordEach kws X.env)).any (·.1.isNone)) = false := by rfl) :
    PE X (.Call (.Name x p) (e :: es) kws pos) (tMakeNS C n ks.length sp gV E t tk) := by
  refine ⟨fun pins s σ H Q I h => ?_⟩
  refine wpAny_Call_Name_kw (ld_glob I hg hm ?_ hdb)
  refine PySem.W.callWith_KW (h₀ := X.base) I.ok.mod.kin M.kp hall (thn (ha.run pos pins s σ H _ I h) fun us s1 ⟨vs, H1, I1, r, q⟩ => ?_) hpl he
  refine thn (hkw.run pos pins s1 σ H1 _ I1 q) fun ws s2 ⟨zs, H2, I2, rz, l1, l2, q2⟩ => ⟨I2.kIn, ?_⟩
  rw [hks]
  have hq := q2 (s2.heap.objs.size + 1) s2.heap.objs.size (I2.hok.fresh (Nat.le_succ _)) (I2.hok.fresh (Nat.le_refl _)) (Nat.ne_of_lt (Nat.lt_succ_self _))
  have J := Inv.made (C := C) I2
  have r1 : Vals (V.ref (s2.heap.objs.size + 1) :: vs) (Value.ref (s2.heap.objs.size + 1) :: us) := .cons rfl r
  have e1 : (Value.ref (s2.heap.objs.size + 1) :: us).length = n + 1 := r1.length.symm.trans (congrArg Nat.succ l1)
  refine wpAny_call (make_map (f := f) I2.kIn M.makes M.init (beq_iff_eq.mp M.fn) (codeAny_mono (F.run _ X.stack _ _ ⟨Value.ref (s2.heap.objs.size + 1) :: us, ks.zip ws⟩ (g (Value.ref (s2.heap.objs.size + 1) :: us) ws) _ _ (E σ) (hr.make C us (ks.zip ws))
    (J.env0.make C us (ks.zip ws)) (hb.to _ (Value.ref (s2.heap.objs.size + 1) :: us) ws J.kIn e1 (rz.length.symm.trans l2)) (hb.rel r1 rz) hq) fun r s' hq' => ?_))
  match r, hq' with
  | .error er, hq' => exact hx σ pins _ _ er s' J hq'
  | .ok (.ret u), hq' =>
    obtain ⟨v, H', I3, rv, ev, q3⟩ := J.after hq'
    subst ev
    exact ⟨rv, ⟨V.ref (s2.heap.objs.size + 1), H', I3, rfl, q3⟩⟩
end
end KA
namespace KA
open PySem PySem.Spec PyProof.Rows L2
/-- C(e, ..) within a try: what it raises is told with the names as they stand -/
def tMakeT (C : Addr) (sp : Sp) (dvs : List V) (E : L2.St → XK) (t : TA) : TE := fun σ H Q => tMake C sp dvs (E σ) t σ H Q
section
variable {X : Cx} {CX : CXT} {k : Nat} {f C : Addr} {fd : FuncData} {ps : List Str} {ds : List Value} {dvs : List V} {sp : Sp} {E : L2.St → XK} {x : Str} {p pos : Pos} {e : Expr} {es : List Expr} {t : TA}
theorem pe_makeT (M : Mk X.K C f) (F : FnOk X.prog X.w X.K X.mg X.base CX k f fd ps sp) (hr : Room (k + 1) X.A) (hg : Gl X x) (hm : X.mg x = some (.ref C)) (hb : Binds X.K fd ps ds) (hd : Vals dvs ds) (hx : ∀ σ, PassesAt CX X σ (E σ))
    (ha : PA X (e :: es) t) (hdb : (x == ("__debug__" : Str)) = false := by decide) (he : starEach (e :: es) X.env = (false, eval e X.env) :: starEach es X.env := by rfl) (hpl : (backTo pos (starEach es X.env)).any (·.1) = false := by rfl) :
    PE X (.Call (.Name x p) (e :: es) [] pos) (tMakeT C sp dvs E t) := by
  refine ⟨fun pins s σ H Q I h => ?_⟩
  refine wpAny_Call_Name_kw (ld_glob I hg hm ?_ hdb)
  refine PySem.W.callWith_K (h₀ := X.base) I.ok.mod.kin M.kp (thn (ha.run pos pins s σ H _ I h) fun us s1 ⟨vs, H1, I1, r, q⟩ => ⟨I1.kIn, ?_⟩) he hpl
  have hq := q (s1.heap.objs.size + 1) s1.heap.objs.size (I1.hok.fresh (Nat.le_succ _)) (I1.hok.fresh (Nat.le_refl _)) (Nat.ne_of_lt (Nat.lt_succ_self _))
  have I2 := Inv.made (C := C) I1
  have r2 : Vals (V.ref (s1.heap.objs.size + 1) :: (vs ++ dvs)) (Value.ref (s1.heap.objs.size + 1) :: (us ++ ds)) := .cons rfl (r.append hd)
  have hl : (Value.ref (s1.heap.objs.size + 1) :: us ++ ds).length = ps.length := by
    have e := r2.length
    rw [F.len _ _ _ _ hq] at e
    exact e.symm
  refine wpAny_call (make_map (f := f) I1.kIn M.makes M.init (beq_iff_eq.mp M.fn) (codeAny_mono (F.run _ X.stack _ _ ⟨Value.ref (s1.heap.objs.size + 1) :: us, []⟩ (Value.ref (s1.heap.objs.size + 1) :: (us ++ ds)) _ _ (E σ) (hr.make C us [])
    (I2.env0.make C us []) (hb _ (Value.ref (s1.heap.objs.size + 1) :: us) I2.kIn hl) r2 hq) fun r s' hq' => ?_))
  match r, hq' with
  | .error er, hq' => exact hx σ pins _ _ er s' I2 hq'
  | .ok (.ret u), hq' =>
    obtain ⟨v, H', I3, rv, ev, q3⟩ := I2.after hq'
    subst ev
    exact ⟨rv, ⟨V.ref (s1.heap.objs.size + 1), H', I3, rfl, q3⟩⟩
end
end KA
namespace KA
open PySem PySem.Spec PyProof.Rows L2
section
variable {X : Cx} {n : Nat}
/-- x == y (or another comparison), x an instance of the class at C whose own def keeps sp, y of any kind -/
def rOwn (K : PySem.W.Frag) (C : Addr) (sp : Sp) (E : XK) : R2 := fun x y H Q => ∃ (a dx : Addr) (fs : List (Str × V)) (t : Value), x = .ref a ∧ H a = some (.ins C dx fs) ∧ TyX K H y t ∧ PySem.W.notFirst K C t = true ∧ sp [.ref a, y] H (fun v H' => (∃ b, v = .bl b) ∧ Q v H') E
theorem op_own {op : CmpOp} {CX : CXT} {C f : Addr} {fd : FuncData} {ps : List Str} {sp : Sp} {E : XK} (F : FnOk X.prog X.w X.K X.mg X.base CX n f fd ps sp)
    (hs : PySem.W.findIn X.K (.ref C) (cmpInfo op).2.1 = some (some (.ref f))) (hf : PySem.W.isFn X.K (.ref f) = true) (hb : Binds X.K fd ps []) (hx : Passes CX X E) (hr : Room n X.A) (ho : compareOp op = richCompare op := by rfl) : OpR X (compareOp op) (rOwn X.K C sp E) := by
  intro pins s σ H x y u v Q I rx ry d
  obtain ⟨a, dx, fs, t, rfl, ha, ty, hn, hsp⟩ := d
  cases rx
  obtain ⟨mA, J, _⟩ := ins_get I.hok ha
  obtain ⟨od, J, _⟩ := J.look
  obtain ⟨Pz, Z, p, _⟩ := kit_of I ry ty
  obtain ⟨m, hF⟩ := I.fr
  rw [ho]
  refine PySem.W.cmp_K (op := op) (tb := t) hr.units0 hF I.ok.mod.kin J (Z.ty _ _ I.kIn p) hn hs hf ?_
  have hl := F.len _ _ _ _ hsp
  have r2 : Vals [V.ref a, y] [Value.ref a, v] := .cons rfl (.cons ry .nil)
  refine wpAny_call (codeAny_mono (F.run X.A X.stack s H ⟨[.ref a, v], []⟩ [.ref a, v] [.ref a, y] _ E hr I.env0 (by
    have := hb s [.ref a, v] I.kIn (by simpa using hl)
    simpa using this) r2 hsp) fun r s' hq => ?_)
  cases r with
  | error e => exact hx pins σ H s e s' I hq
  | ok fl =>
    cases fl with
    | ret w =>
      obtain ⟨z, H', I', rz, ⟨b, ez⟩, q⟩ := I.after hq
      subst ez
      cases rz
      exact ⟨.bl b, H', I', rfl, q⟩
    | next => exact False.elim hq
    | brk => exact False.elim hq
    | cont => exact False.elim hq
end
end KA
namespace KA
open PySem PySem.Spec PySem.W PyProof.Rows
section
variable {prog : Program} {w : World} {A : Around} {E : Value → Shared → Prop} {s : Shared} {K : Frag} {x C f : Addr} {ox : Obj} {od : Option Obj}
theorem repr_K {Q : Value → Shared → Prop} (hu : A.in1.units < cLine) (X : K.In s.heap) (I : InstAt s.heap x ox C od) (hs : findIn K (.ref C) "__repr__" = some (some (.ref f))) (hf : isFn K (.ref f) = true)
    (hcall : wpAny (model prog w) A.in1 (call (.ref f) [.ref x]) (fun r s' => ∃ m tk, r = .str m tk ∧ Q (.str m tk) s') E s) :
    wpAny (model prog w) A (call (.builtin "repr") [.ref x]) Q E s := by
  refine Calls.call_function_entry F.kind_repr F.plain_repr F.entry_repr (F.args_repr1 _) ?_
  unfold Builtin.«repr»
  refine wpAny_bind (m := oneArg "repr" _) (wpAny_pure ?_)
  refine wpAny_bind (wpAny_cRoomFor hu ?_)
  refine wpAny_bind (wpAny_bind (I.type.here ((looks_findIn X hs).here ?_)))
  show wpAny _ _ (if (some (Value.ref f)).isNone = true then _ else _) _ _ _
  rw [if_neg (by simp)]
  refine wpAny_bind (m := callSpecialIfBound? (.ref x) (Str.ofString "__repr__") _) (ifBound_K X I hs hf (wpAny_mono hcall (fun r s' hr => ?_) fun _ _ y => y))
  obtain ⟨m, tk, rfl, hq⟩ := hr
  refine wpAny_bind (wpAny_isInstance (typeIs_str _ _ _) isSubtype_str_str ?_)
  first
    | exact wpAny_pure ⟨_, rfl, hq⟩
    | (rw [if_pos rfl]; exact wpAny_pure ⟨_, rfl, hq⟩)
    | (simp only [if_true]; exact wpAny_pure ⟨_, rfl, hq⟩)
end
end KA
namespace KA
open PySem PySem.Spec PyProof.Rows L2
section
variable {X : Cx} {n : Nat} {CX : CXT} {C f : Addr} {fd : FuncData} {ps : List Str} {sp : Sp} {E : XK}
/-- repr(x), str(x): x an instance of the class at C, whose own def keeps sp -/
def rShow (C : Addr) (sp : Sp) (E : XK) : List V → Hp → VK → Prop := fun xs H Q => ∃ (a dx : Addr) (fs : List (Str × V)), xs = [.ref a] ∧ H a = some (.ins C dx fs) ∧ sp [.ref a] H (fun v H' => (∃ m, v = .str m) ∧ Q v H') E
theorem run_self {A : Around} {pins : List (Addr × Obj)} {σ : L2.St} {H : Hp} {s : Shared} {a : Addr} {Q : VK} (F : FnOk X.prog X.w X.K X.mg X.base CX n f fd ps sp) (hb : Binds X.K fd ps []) (hx : Passes CX X E) (hr : Room n A) (hA : A.frames = X.A.frames) (I : L2.Inv X pins σ H s)
    (hsp : sp [.ref a] H (fun v H' => (∃ m, v = .str m) ∧ Q v H') E) : wpAny (model X.prog X.w) A (call (.ref f) [.ref a]) (fun r s' => ∃ m tk, r = .str m tk ∧ EP X pins σ Q (.str m tk) s') X.xe s := by
  have e0 : Env0 X.prog X.w X.K X.mg X.base A X.stack s H := by
    have e := I.env0
    exact ⟨by rw [hA]; exact e.frames, e.mod, e.bs, e.bsz, e.funs, e.frf, e.hok, e.bare⟩
  have hl := F.len _ _ _ _ hsp
  have r2 : Vals [V.ref a] [Value.ref a] := .cons rfl .nil
  refine wpAny_call (codeAny_mono (F.run A X.stack s H ⟨[.ref a], []⟩ [.ref a] [.ref a] _ E hr e0 (by
    have := hb s [.ref a] I.kIn (by simpa using hl)
    simpa using this) r2 hsp) fun r s' hq => ?_)
  cases r with
  | error e => exact hx pins σ H s e s' I hq
  | ok fl =>
    cases fl with
    | ret w =>
      obtain ⟨z, H', I', rz, ⟨m, ez⟩, q⟩ := I.after hq
      subst ez
      obtain ⟨tk, rfl⟩ := (show ∃ t, w = Value.str m t from rz)
      exact ⟨m, tk, rfl, .str m, H', I', ⟨tk, rfl⟩, q⟩
    | next => exact False.elim hq
    | brk => exact False.elim hq
    | cont => exact False.elim hq
theorem call_reprO (F : FnOk X.prog X.w X.K X.mg X.base CX n f fd ps sp) (hs : PySem.W.findIn X.K (.ref C) "__repr__" = some (some (.ref f))) (hf : PySem.W.isFn X.K (.ref f) = true) (hb : Binds X.K fd ps []) (hx : Passes CX X E) (hr : Room (n + 1) X.A) :
    CallR X (.builtin "repr") (rShow C sp E) := by
  intro pins s σ H xs us Q I r h
  obtain ⟨a, dx, fs, rfl, ha, hsp⟩ := h
  obtain ⟨u, rfl, r1⟩ := vals1 r
  cases (show u = Value.ref a from r1)
  obtain ⟨mA, J, _⟩ := ins_get I.hok ha
  obtain ⟨od, J, _⟩ := J.look
  exact repr_K hr.in1.units0 I.kIn J hs hf (run_self F hb hx hr.in1 rfl I hsp)
theorem call_strO (F : FnOk X.prog X.w X.K X.mg X.base CX n f fd ps sp) (hs : PySem.W.findIn X.K (.ref C) "__str__" = some (some (.ref f))) (hf : PySem.W.isFn X.K (.ref f) = true) (hb : Binds X.K fd ps []) (hx : Passes CX X E) (hr : Room (n + 2) X.A) :
    CallR X (.type "str") (rShow C sp E) := by
  intro pins s σ H xs us Q I r h
  obtain ⟨a, dx, fs, rfl, ha, hsp⟩ := h
  obtain ⟨u, rfl, r1⟩ := vals1 r
  cases (show u = Value.ref a from r1)
  obtain ⟨mA, J, _⟩ := ins_get I.hok ha
  obtain ⟨od, J, _⟩ := J.look
  refine PySem.W.kso_call hr.in1.in1.units0 I.kIn J hs hf (wpAny_mono (run_self F hb hx hr.in1.in1 rfl I hsp) (fun r s' hr => ?_) fun _ _ y => y)
  obtain ⟨m, tk, rfl, q⟩ := hr
  exact q
/-- {x}: a text, an int, a truth -/
def tFmtB (te : TE) : TE := fun σ H Q => te σ H fun x H1 => (∃ y : Str, x = .str y ∧ y.length ≤ sizeLine ∧ Q (.str y) H1) ∨ (∃ i : Int, x = .int i ∧ i.natAbs.log2 < 1920 ∧ Q (.str (toString i)) H1) ∨ ∃ b : Bool, x = .bl b ∧ Q (.str (if b then "True" else "False")) H1
theorem pe_fmtB {e : Expr} {te : TE} {pos : Pos} (he : PE X e te) : PE X (.FormattedValue e (-1) none pos) (tFmtB te) := by
  refine ⟨fun pins s σ H Q I h => ?_⟩
  refine wpAny_FormattedValue_plain (thn (he.run pins s σ H _ I h) fun v s1 hv => ?_)
  obtain ⟨x, H1, I1, r1, q⟩ := hv
  rcases q with ⟨y, rfl, hz, q⟩ | ⟨i, rfl, hz, q⟩ | ⟨b, rfl, q⟩
  · obtain ⟨t, rfl⟩ := r1
    exact wpAny_formatField_str ⟨.str y, H1, I1, ⟨t, rfl⟩, q⟩ ⟨.str y, H1, I1.tok _, ⟨_, rfl⟩, q⟩ hz
  · obtain ⟨t, rfl⟩ := r1
    exact wpAny_formatField_int hz ⟨.str (toString i), H1, I1.tok _, ⟨_, rfl⟩, q⟩
  · cases (show v = Value.bool b from r1)
    exact wpAny_formatField_bool ⟨.str (if b then "True" else "False"), H1, I1.tok _, ⟨_, rfl⟩, q⟩
end
end KA
/-! repr of a list whose items show themselves by an own __repr__ -/
namespace KA
open PySem PySem.Spec PySem.W PyProof.Rows
section
variable {prog : Program} {w : World} {A : Around} {E : Value → Shared → Prop} {s : Shared} {K : Frag} {x C f : Addr} {ox : Obj} {od : Option Obj}
theorem boundBy_K {M : Model} {name : Str} {last : Value → List Value → Sem Value} {Q : Option Value → Shared → Prop} (inK : K.In s.heap) (I : InstAt s.heap x ox C od) (hs : findIn K (.ref C) name = some (some (.ref f))) (hf : isFn K (.ref f) = true)
    (h : wpAny M A (last (.ref f) [.ref x]) (fun v => Q (some v)) E s) : wpAny M A (callSpecialIfBoundBy? last (.ref x) name) Q E s := by
  simp only [callSpecialIfBoundBy?, bindSpecialIfBound?]
  refine wpAny_holding (wpAny_bind (wpAny_bind (wpAny_bind (I.type.here ((looks_findIn inK hs).here ?_)))))
  refine wpAny_bind (wpAny_askSetting (wpAny_ite ?_))
  have done : wpAny M A (last (.ref f) [.ref x] >>= fun v => pure (some v)) Q E s := wpAny_bind (wpAny_mono h (fun _ _ z => wpAny_pure z) fun _ _ z => z)
  split
  · exact wpAny_bind ((bind_fn inK _ (beq_iff_eq.mp hf)).here (wpAny_pure (by exact done)))
  · exact wpAny_tryCatch (wpAny_bind ((bind_fn inK _ (beq_iff_eq.mp hf)).here (wpAny_pure (by exact done))))
theorem under_K {b : Nat} {Q : Str → Shared → Prop} (hb : b ≤ sizeLine) (hu : A.units < cLine) (inK : K.In s.heap) (I : InstAt s.heap x ox C od) (hs : findIn K (.ref C) "__repr__" = some (some (.ref f))) (hf : isFn K (.ref f) = true)
    (h : wpAny (model prog w) A (call (.ref f) [.ref x]) (fun r t => ∃ m tk, r = .str m tk ∧ Q m t) E s) : wpAny (model prog w) A (pyReprUnder b (.ref x)) Q E s := by
  refine wpAny_pyReprUnder_ref hb ?_
  unfold pyReprObjUnder pyReprObjBy
  refine wpAny_bind (wpAny_cRoomFor hu ?_)
  refine wpAny_bind (wpAny_bind (I.type.here ((looks_findIn inK hs).here ?_)))
  show wpAny _ _ (if (some (Value.ref f)).isNone = true then _ else _) _ _ _
  rw [if_neg (by simp)]
  refine wpAny_bind (m := callSpecialIfBoundBy? _ (.ref x) (Str.ofString "__repr__")) (boundBy_K inK I hs hf ?_)
  refine wpAny_mono h (fun r t k => ?_) fun _ _ z => z
  obtain ⟨m, tk, rfl, q⟩ := k
  refine wpAny_bind (wpAny_isInstance (typeIs_str _ _ _) isSubtype_str_str ?_)
  exact wpAny_pure ⟨_, _, rfl, q⟩
end
end KA
namespace KA
open PySem PySem.Spec PyProof.Rows L2
section
variable {X : Cx} {n : Nat}
/-- x is shown as t, by what stands in H, whatever is made meanwhile -/
def Shows (X : Cx) (n : Nat) (x : V) (t : Str) (H : Hp) : Prop := ∀ (A : Around) (pins : List (Addr × Obj)) (σ : L2.St) (H1 : Hp) (s : Shared) (u : Value) (b : Nat) (Q : Str → Shared → Prop), Sub X n A → (∀ c o, H c = some o → H1 c = some o) → L2.Inv X pins σ H1 s → RelV x u → b + t.length ≤ sizeLine →
  (∀ s2 H2, L2.Inv X pins σ H2 s2 → (∀ c o, H1 c = some o → H2 c = some o) → Q t s2) → wpAny (model X.prog X.w) A (pyReprUnder b u) Q X.xe s
theorem shows_non {H : Hp} : Shows X n .non "None" H := fun A pins σ H1 s u b Q _ _ I ru hz fin => by
  cases (show u = Value.none from ru)
  exact ReprIs.none b hz A X.xe s Q fun tk => fin _ H1 (I.tok tk) fun _ _ z => z
theorem shows_own {CX : CXT} {C f p dx : Addr} {fd : FuncData} {ps : List Str} {sp : Sp} {E : XK} {fs : List (Str × V)} {t : Str} {H : Hp} (F : FnOk X.prog X.w X.K X.mg X.base CX n f fd ps sp) (hs : PySem.W.findIn X.K (.ref C) "__repr__" = some (some (.ref f))) (hf : PySem.W.isFn X.K (.ref f) = true) (hb : Binds X.K fd ps []) (hx : Passes CX X E)
    (hp : H p = some (.ins C dx fs)) (hsp : ∀ (H1 : Hp) (Q : VK), (∀ c o, H c = some o → H1 c = some o) → (∀ H2, (∀ c o, H1 c = some o → H2 c = some o) → Q (.str t) H2) → sp [.ref p] H1 Q E) : Shows X n (.ref p) t H := fun A pins σ H1 s u b Q sb s01 I ru hz fin => by
  cases (show u = Value.ref p from ru)
  obtain ⟨mA, J, _⟩ := ins_get I.hok (s01 _ _ hp)
  obtain ⟨od, J, _⟩ := J.look
  refine under_K (Nat.le_trans (Nat.le_add_right _ _) hz) sb.room.units0 I.kIn J hs hf (wpAny_mono (run_self (Q := fun v H2 => v = .str t ∧ ∀ c o, H1 c = some o → H2 c = some o) F hb hx sb.room sb.fr I (hsp H1 _ s01 fun H2 s12 => ⟨⟨t, rfl⟩, rfl, s12⟩)) (fun r s2 k => ?_) fun _ _ z => z)
  obtain ⟨m, tk, rfl, v, H2, I2, rv, ev, s12⟩ := k
  subst ev
  obtain ⟨tk2, e⟩ := (show ∃ y, Value.str m tk = Value.str t y from rv)
  cases e
  exact ⟨t, tk, rfl, fin s2 H2 I2 s12⟩
theorem sub_loop {A : Around} {args : Args} (sb : Sub X (n + 1) A) : Sub X n (A.under (.builtin "list.__repr__.loop" args)) := by
  have r := sb.room
  refine ⟨⟨?_, ?_, ?_⟩, ?_⟩
  · exact r.hd
  · have := r.dp
    have e : (A.under (.builtin "list.__repr__.loop" args)).depth = A.depth + 1 := by
      first | rfl | simp [Around.under, Code.weight, Code.isCreation, Code.isGuard, Code.isCaller, Code.frames, Code.isFrame, guardIds]
    rw [e]
    omega
  · have := r.un
    rw [units_under_list_loop]
    omega
  · exact sb.fr
theorem strs_of : ∀ {l : List Str} {us : List Value}, Vals (l.map V.str) us → ∃ d, us = strValues d ∧ d.map (·.1) = l
  | [], _, .nil => ⟨[], rfl, rfl⟩
  | x :: l, _, .cons h r => by
    obtain ⟨tk, rfl⟩ := (show ∃ t, _ = Value.str x t from h)
    obtain ⟨d, rfl, e⟩ := strs_of r
    exact ⟨(x, tk) :: d, rfl, by rw [List.map_cons, e]⟩
theorem repr_loopI {pins : List (Addr × Obj)} {σ : L2.St} {A : Around} {R : Result → Shared → Prop} {a P : Addr} {xs : List V} {ts : List Str} {H : Hp} {base : Nat} (sb : Sub X (n + 1) A) (fP : H P = none) (hlen : ts.length = xs.length) (hT : ∀ (i : Nat) x t, xs[i]? = some x → ts[i]? = some t → Shows X n x t H)
    (hsz : base + (listText ts).length ≤ sizeLine) (ha0 : H a = some (.lst xs)) (fin : ∀ s2 H2 u, L2.Inv X pins σ H2 s2 → (∀ c o, H c = some o → H2 c = some o) → R (.ok (.ret (.str (listText ts) u))) s2) (err : ∀ e s2, X.xe e s2 → R (.error e) s2) :
    ∀ (k i : Nat) (s : Shared) (H1 : Hp), ts.length - i = k → i ≤ ts.length → (∀ c o, H c = some o → H1 c = some o) → L2.Inv X pins σ H1 s → H1 P = some (.lst ((ts.take i).map V.str)) →
      codeAny (model X.prog X.w) A (.builtin "list.__repr__.loop" ⟨[.ref a, rawInt i, .ref P, rawInt ((base + piled (ts.take i) : Nat) : Int)], []⟩) R s := by
  have hp3 := piled_le_listText ts
  have big : ∀ t ∈ ts, t.length ≤ sizeLine := fun t ht => by
    have h2 := (textFrom_len ts 0 "[").2.1 t ht
    have e : (listText ts).length = (textFrom 0 "[" ts).length + 1 := by
      show (textFrom 0 "[" ts ++ "]").length = _
      rw [strLen_append]
      rfl
    omega
  intro k
  induction k with
  | zero =>
    intro i s H1 hk hi s01 I eP
    have hin : i = ts.length := by omega
    obtain ⟨its, m, r, e, _⟩ := I.lst (s01 _ _ ha0)
    obtain ⟨ps, m2, r2, e2, z2⟩ := I.lst eP
    refine codeAny_builtin F.entry_list_repr_loop ?_
    show wpAny _ _ (Builtin.«list.__repr__.loop» ⟨[.ref a, .int i 0, .ref P, .int ((base + piled (ts.take i) : Nat) : Int) 0], []⟩) _ _ s
    rw [repr_loop_tree]
    refine wpAny_bind (wpAny_listItems e rfl ?_)
    have no : its.toArray[(i : Int).toNat]? = none := by
      have := r.length
      simp
      omega
    simp only [no]
    unfold reprEnd
    refine wpAny_bind (wpAny_listItems e2 rfl ?_)
    obtain ⟨d, rfl, ed⟩ := strs_of r2
    rw [show (strValues d).toArray.toList = strValues d by simp, repr_fold]
    refine wpAny_bind (wpAny_pure ?_)
    rw [ed, hin, List.take_length]
    refine wpAny_bind (wpAny_mkStr (wpAny_pure ?_) (by show (listText ts).length ≤ sizeLine; omega))
    exact fin _ H1 _ (I.tok _) s01
  | succ k ih =>
    intro i s H1 hk hi s01 I eP
    have hlt : i < ts.length := by omega
    obtain ⟨t, ht⟩ : ∃ t, ts[i]? = some t := ⟨_, List.getElem?_eq_getElem hlt⟩
    obtain ⟨x, hx⟩ : ∃ x, xs[i]? = some x := ⟨_, List.getElem?_eq_getElem (by omega)⟩
    obtain ⟨its, m, r, e, _⟩ := I.lst (s01 _ _ ha0)
    obtain ⟨u, hu, ru⟩ := r.get hx
    have hp1 := piled_take_succ ht
    have hp2 := piled_take_le ts (i + 1)
    refine codeAny_builtin F.entry_list_repr_loop ?_
    show wpAny _ _ (Builtin.«list.__repr__.loop» ⟨[.ref a, .int i 0, .ref P, .int ((base + piled (ts.take i) : Nat) : Int) 0], []⟩) _ _ s
    rw [repr_loop_tree]
    refine wpAny_bind (wpAny_listItems e rfl ?_)
    have yes : its.toArray[(i : Int).toNat]? = some u := by simpa using hu
    simp only [yes]
    rw [Int.toNat_natCast]
    refine wpAny_bind (wpAny_holding (wpAny_mono (hT i x t hx ht _ pins σ H1 s u (base + piled (ts.take i) + 1) (fun r s2 => r = t ∧ ∃ H2, L2.Inv X pins σ H2 s2 ∧ ∀ c o, H1 c = some o → H2 c = some o) (sub_loop sb) s01 I ru (by omega) fun s2 H2 I2 s12 => ⟨rfl, H2, I2, s12⟩) (fun r s2 k2 => ?_) fun e s2 z => err e s2 z))
    obtain ⟨rfl, H2, I2, s12⟩ := k2
    refine wpAny_bind (wpAny_mkStr ?_ (big r (List.mem_of_getElem? ht)))
    refine wpAny_bind ?_
    show wpAny _ _ (updateSeq P _) _ _ _
    obtain ⟨ps, m2, r2, e2, z2⟩ := (I2.tok (s2.toks + 1)).lst (s12 _ _ eP)
    have small : ((ts.take i).map V.str).length ≤ i := by rw [List.length_map, List.length_take]; omega
    have few : i < sizeLine := by
      have h1 := (textFrom_len ts 0 "[").1
      rw [if_neg (Nat.lt_irrefl 0)] at h1
      have e : (listText ts).length = (textFrom 0 "[" ts).length + 1 := by
        show (textFrom 0 "[" ts ++ "]").length = _
        rw [strLen_append]
        rfl
      omega
    have hps : ps.length ≤ i := by rw [← r2.length]; exact small
    refine wpAny_updateSeq e2 rfl (wpAny_pure ⟨F.quiet_list_repr_loop _, ?_⟩) (by simp; omega) (by simp; omega)
    have n1 : ((i : Int) + 1) = ((i + 1 : Nat) : Int) := by omega
    have n2 : base + piled (ts.take i) + (r.length + 2) = base + piled (ts.take (i + 1)) := by omega
    rw [n1, n2]
    have I3 := (I2.tok (s2.toks + 1)).lstUpd (p := P) (ys := (ts.take (i + 1)).map V.str) (its' := ps ++ [.str r s2.toks]) (n' := m2 + 1) (f := Obj.mapSeq (·.push (.str r s2.toks))) (s12 _ _ eP) e2 (by simp [Obj.mapSeq]) (by
      rw [List.take_add_one, ht, List.map_append]
      exact r2.append (.cons ⟨_, rfl⟩ .nil)) (by rw [List.length_map, List.length_take]; omega) (s2.toks + 1)
    refine ih (i + 1) _ _ (by omega) hlt (fun c o z => ?_) I3 upd_same
    rw [upd_ne (fun y => by rw [y, fP] at z; cases z)]
    exact s12 _ _ (s01 _ _ z)
/-- list.__repr__, where nothing is being shown -/
theorem call_listI {pins : List (Addr × Obj)} {σ : L2.St} {A : Around} {Q : Value → Shared → Prop} {s : Shared} {H : Hp} {a : Addr} {xs : List V} {ts : List Str} (sb : Sub X (n + 3) A) (gd : A.guards = some []) (I : L2.Inv X pins σ H s) (ha : H a = some (.lst xs)) (hlen : ts.length = xs.length)
    (hT : ∀ (i : Nat) x t, xs[i]? = some x → ts[i]? = some t → Shows X n x t H) (hsz : (listText ts).length ≤ sizeLine) (fin : ∀ s2 H2 u, L2.Inv X pins σ H2 s2 → (∀ c o, H c = some o → H2 c = some o) → Q (.str (listText ts) u) s2) :
    wpAny (model X.prog X.w) A (call (.builtin "list.__repr__") [.ref a]) Q X.xe s := by
  obtain ⟨its, m, r, e, z⟩ := I.lst ha
  have ty : s.TypeIs (.ref a) "list" := ⟨_, e, rfl⟩
  refine wpAny_call (codeAny_call_builtin F.slot_list_repr.plain F.entry_list_repr (F.slot_list_repr.check _ _ _ _ _ _ _ _ ty (F.args_list_repr_1 _) ?_))
  cases its with
  | nil =>
    have e0 : xs = [] := List.length_eq_zero_iff.mp r.length
    have e1 : ts = [] := List.length_eq_zero_iff.mp (by rw [hlen, e0]; rfl)
    subst e1
    exact wpAny_list_repr_empty (b := 0) e rfl (fin _ H _ (I.tok _) fun _ _ z => z)
  | cons v vs =>
    refine wpAny_list_repr_head (A := A.in1) (b := 0) gd (fun _ _ _ z => nomatch z) e rfl ?_
    refine wpAny_bind (m := newList []) (wpAny_newObj_type ?_)
    refine wpAny_pure ⟨F.quiet_list_repr_loop _, ?_⟩
    have fP : H s.heap.objs.size = none := I.hok.fresh (Nat.le_refl _)
    have I3 : L2.Inv X pins σ (upd H s.heap.objs.size (.lst [])) { s with heap := s.heap.push { cls := .type "list", data := .seq ([] : List Value).toArray } } :=
      I.laid (t' := s.toks) (fun b o z => Heap.get?_push_of_some _ z) (Nat.le_refl _) ⟨Nat.zero_le _, [], 0, .nil, Heap.get?_push_size _ rfl⟩
    have up : ∀ c o, H c = some o → upd H s.heap.objs.size (.lst []) c = some o := fun c o z => by
      rw [upd_ne (fun y => by rw [y, fP] at z; cases z)]
      exact z
    exact repr_loopI (base := 0) (sb.mono (by omega)) fP hlen hT (by omega) ha (fun s2 H2 u I2 s12 => fin s2 H2 u I2 s12) (fun _ _ z => z) ts.length 0 _ _ rfl (Nat.zero_le _) up I3 upd_same
/-- repr of a list, where nothing is being shown -/
theorem repr_listI {pins : List (Addr × Obj)} {σ : L2.St} {A : Around} {Q : Value → Shared → Prop} {s : Shared} {H : Hp} {a : Addr} {xs : List V} {ts : List Str} (sb : Sub X (n + 3) A) (gd : A.guards = some []) (I : L2.Inv X pins σ H s) (ha : H a = some (.lst xs)) (hlen : ts.length = xs.length)
    (hT : ∀ (i : Nat) x t, xs[i]? = some x → ts[i]? = some t → Shows X n x t H) (hsz : (listText ts).length ≤ sizeLine) (fin : ∀ s2 H2 u, L2.Inv X pins σ H2 s2 → (∀ c o, H c = some o → H2 c = some o) → Q (.str (listText ts) u) s2) :
    wpAny (model X.prog X.w) A (pyReprObj (.ref a)) Q X.xe s := by
  obtain ⟨its, m, r, e, z⟩ := I.lst ha
  have ty : s.TypeIs (.ref a) "list" := ⟨_, e, rfl⟩
  unfold pyReprObj
  refine wpAny_bind (wpAny_cRoomFor (by have := sb.room.un; omega) ?_)
  refine wpAny_bind (wpAny_specialOf (name := Str.ofString "__repr__") ty F.slot_list_repr.lookup ?_)
  refine wpAny_bind (m := callSpecialIfBound? (.ref a) (Str.ofString "__repr__")) (wpAny_callSpecialIfBound?_slot (name := Str.ofString "__repr__") ty F.slot_list_repr (call_listI sb gd I ha hlen hT hsz fun s2 H2 u I2 s12 => ?_))
  exact wpAny_bind (wpAny_isInstance (T := "str") (b := true) rfl isSubtype_str_str (wpAny_pure (fin s2 H2 u I2 s12)))
end
end KA
/-! repr of a tuple that holds lists of own things, and data -/
namespace KA
open PySem PySem.Spec PyProof.Rows L2
section
variable {X : Cx} {n : Nat}
/-- x is shown as t, where nothing but t0 is being shown -/
def ShowsG (X : Cx) (n : Nat) (t0 : Addr) (x : V) (t : Str) (H : Hp) : Prop := ∀ (A : Around) (g : List Code) (pins : List (Addr × Obj)) (σ : L2.St) (H1 : Hp) (s : Shared) (u : Value) (b : Nat) (Q : Str → Shared → Prop), Sub X n A → A.guards = some g → (∀ c, c ≠ t0 → Clear g c) → (∀ c o, H c = some o → H1 c = some o) → L2.Inv X pins σ H1 s → RelV x u → b + t.length ≤ sizeLine →
  (∀ s2 H2, L2.Inv X pins σ H2 s2 → (∀ c o, H1 c = some o → H2 c = some o) → Q t s2) → wpAny (model X.prog X.w) A (pyReprUnder b u) Q X.xe s
theorem Shows.g {t0 : Addr} {x : V} {t : Str} {H : Hp} (h : Shows X n x t H) : ShowsG X n t0 x t H := fun A _ pins σ H1 s u b Q sb _ _ s01 I ru hz fin => h A pins σ H1 s u b Q sb s01 I ru hz fin
theorem shows_listG {H : Hp} {a t0 : Addr} {xs : List V} {ts : List Str} (ne : a ≠ t0) (ha : H a = some (.lst xs)) (hlen : ts.length = xs.length) (hT : ∀ (i : Nat) x t, xs[i]? = some x → ts[i]? = some t → Shows X n x t H) : ShowsG X (n + 3) t0 (.ref a) (listText ts) H := by
  intro A g pins σ H1 s u b Q sb gd hcl s01 I ru hz fin
  cases (show u = Value.ref a from ru)
  obtain ⟨its, m, r, e, z⟩ := I.lst (s01 _ _ ha)
  have ty : s.TypeIs (.ref a) "list" := ⟨_, e, rfl⟩
  have uu : A.units < cLine := sb.room.units0
  refine wpAny_pyReprUnder_ref (by omega) (wpAny_pyReprObjUnder_twin (twin := "list.__repr__.under") ty F.slot_list_repr.toG rfl uu ?_)
  refine call_twin_plain F.plain_list_repr_under F.entry_list_repr_under F.check_list_repr_under ty F.slot_list_repr.toG (F.args_list_repr_1 _) ?_
  have hTs : ∀ (i : Nat) x t, xs[i]? = some x → ts[i]? = some t → Shows X n x t H1 := fun i x t h1 h2 A pins σ H2 s u b Q sb s12 I ru hz fin => hT i x t h1 h2 A pins σ H2 s u b Q sb (fun c o k => s12 _ _ (s01 _ _ k)) I ru hz fin
  cases its with
  | nil =>
    have e0 : xs = [] := List.length_eq_zero_iff.mp r.length
    have e1 : ts = [] := List.length_eq_zero_iff.mp (by rw [hlen, e0]; rfl)
    subst e1
    exact wpAny_list_repr_empty (b := b) e rfl ⟨⟨_, _, rfl⟩, _, _, rfl, fin _ H1 (I.tok _) fun _ _ z => z⟩
  | cons v vs =>
    refine wpAny_list_repr_head (A := A.in1) (b := b) gd (fun v rest kw hm => listSameRef_of_ne (hcl a ne _ _ _ _ hm)) e rfl ?_
    refine wpAny_bind (m := newList []) (wpAny_newObj_type ?_)
    refine wpAny_pure ⟨F.quiet_list_repr_loop _, ?_⟩
    have fP : H1 s.heap.objs.size = none := I.hok.fresh (Nat.le_refl _)
    have I3 : L2.Inv X pins σ (upd H1 s.heap.objs.size (.lst [])) { s with heap := s.heap.push { cls := .type "list", data := .seq ([] : List Value).toArray } } :=
      I.laid (t' := s.toks) (fun b o z => Heap.get?_push_of_some _ z) (Nat.le_refl _) ⟨Nat.zero_le _, [], 0, .nil, Heap.get?_push_size _ rfl⟩
    have up : ∀ c o, H1 c = some o → upd H1 s.heap.objs.size (.lst []) c = some o := fun c o z => by
      rw [upd_ne (fun y => by rw [y, fP] at z; cases z)]
      exact z
    exact repr_loopI (base := b) (sb.mono (by omega)) fP hlen hTs hz (s01 _ _ ha) (fun s2 H2 u I2 s12 => ⟨⟨_, _, rfl⟩, _, _, rfl, fin s2 H2 I2 s12⟩) (fun _ _ z => z) ts.length 0 _ _ rfl (Nat.zero_le _) up I3 upd_same
theorem sub_tup {A : Around} {args : Args} (sb : Sub X (n + 1) A) : Sub X n (A.under (.builtin "tuple.__repr__" args)) := by
  have r := sb.room
  refine ⟨⟨r.hd, ?_, ?_⟩, sb.fr⟩
  · have := r.dp
    have e : (A.under (.builtin "tuple.__repr__" args)).depth ≤ A.depth + 1 := by
      first
        | exact Nat.le_refl _
        | (show A.depth ≤ A.depth + 1; omega)
        | simp [Around.under, Code.weight, Code.isCreation, Code.isGuard, Code.isCaller, Code.frames, Code.isFrame, guardIds]
    omega
  · have := r.un
    rw [units_under_tuple_repr]
    omega
/-- the items of a tuple, one behind another -/
inductive ShowsAll (X : Cx) (n : Nat) (t0 : Addr) (H : Hp) : List V → List Str → Prop
  | nil : ShowsAll X n t0 H [] []
  | cons {x : V} {xs : List V} {t : Str} {ts : List Str} : ShowsG X n t0 x t H → ShowsAll X n t0 H xs ts → ShowsAll X n t0 H (x :: xs) (t :: ts)
theorem ShowsAll.len {t0 : Addr} {H : Hp} : ∀ {xs : List V} {ts : List Str}, ShowsAll X n t0 H xs ts → ts.length = xs.length
  | _, _, .nil => rfl
  | _, _, .cons _ r => by rw [List.length_cons, List.length_cons, r.len]
theorem tup_foldI {A : Around} {g : List Code} {pins : List (Addr × Obj)} {σ : L2.St} {t0 : Addr} {H : Hp} (sb : Sub X n A) (gd : A.guards = some g) (hcl : ∀ c, c ≠ t0 → Clear g c) {xs : List V} {ts : List Str} (all : ShowsAll X n t0 H xs ts) : ∀ (us : List Value) (acc : Array Str) (k : Nat) (s : Shared) (H1 : Hp) (Q : (Array Str × Nat) → Shared → Prop),
    Vals xs us → k + piled ts ≤ sizeLine → (∀ c o, H c = some o → H1 c = some o) → L2.Inv X pins σ H1 s → (∀ s2 H2, L2.Inv X pins σ H2 s2 → (∀ c o, H1 c = some o → H2 c = some o) → Q ⟨acc ++ ts.toArray, k + piled ts⟩ s2) →
      wpAny (model X.prog X.w) A (forIn us (⟨acc, k⟩ : (Array Str × Nat)) tupBody) Q X.xe s := by
  induction all with
  | nil =>
    intro us acc k s H1 Q vl _ _ I fin
    cases vl
    simp only [List.forIn_nil]
    exact wpAny_pure (by simpa [piled] using fin s H1 I fun _ _ z => z)
  | @cons x xs t ts hx _ ih =>
    intro us acc k s H1 Q vl hk s01 I fin
    cases vl with
    | cons rx rr =>
      rename_i u us
      rw [piled_cons] at hk
      rw [List.forIn_cons]
      refine wpAny_bind (wpAny_bind (wpAny_mono (hx A g pins σ H1 s u (k + 1) (fun r s2 => r = t ∧ ∃ H2, L2.Inv X pins σ H2 s2 ∧ ∀ c o, H1 c = some o → H2 c = some o) sb gd hcl s01 I rx (by omega) fun s2 H2 I2 s12 => ⟨rfl, H2, I2, s12⟩) (fun r s2 k2 => ?_) fun _ _ z => z))
      obtain ⟨rfl, H2, I2, s12⟩ := k2
      refine wpAny_pure ?_
      refine ih us (acc.push r) (k + (r.length + 2)) s2 H2 Q rr (by omega) (fun c o z => s12 _ _ (s01 _ _ z)) I2 fun s3 H3 I3 s23 => ?_
      have h1 := fin s3 H3 I3 fun c o z => s23 _ _ (s12 _ _ z)
      rw [show k + piled (r :: ts) = k + (r.length + 2) + piled ts by rw [piled_cons]; omega] at h1
      simpa using h1
/-- tuple.__repr__, where nothing is being shown -/
theorem call_tupI {pins : List (Addr × Obj)} {σ : L2.St} {A : Around} {Q : Value → Shared → Prop} {s : Shared} {H : Hp} {a : Addr} {xs : List V} {ts : List Str} (sb : Sub X (n + 1) A) (gd : A.guards = some []) (I : L2.Inv X pins σ H s) (ha : H a = some (.tup xs)) (all : ShowsAll X n a H xs ts)
    (hsz : (tupleText ts).length ≤ sizeLine) (fin : ∀ s2 H2 u, L2.Inv X pins σ H2 s2 → (∀ c o, H c = some o → H2 c = some o) → Q (.str (tupleText ts) u) s2) : wpAny (model X.prog X.w) A (call (.builtin "tuple.__repr__") [.ref a]) Q X.xe s := by
  obtain ⟨z, its, r, o, e, cl, m, hd⟩ := I.hok a _ ha
  have ty : s.TypeIs (.ref a) "tuple" := ⟨o, e, cl⟩
  have hlen : ts.length = its.toArray.size := by rw [all.len, r.length]; simp
  have hp := piled_le_tupleText ts
  refine wpAny_call (codeAny_call_builtin_own (Code.quiet_builtin _ (by decide +kernel)) F.entry_tuple_repr (F.slot_tuple_repr.check _ _ _ _ _ _ _ _ ty (F.args_tuple_repr_1 _) ?_))
  show wpOwn _ _ _ (Builtin.tupleReprAt 0 ⟨[.ref a], []⟩) _ _ s
  rw [tuple_repr_tree, tupleReprUnderWay_eq]
  refine wpOwn_bind (wpOwn_stackTailAny gd (tupGuardF_off _) (tupGuardF_pos _) ?_)
  refine wpOwn_of_wpAny ?_
  show wpAny _ _ (tupleReprRest 0 (.ref a)) _ _ s
  unfold tupleReprRest Builtin.Tuple.tupleItemsOf
  refine wpAny_bind (wpAny_bind (wpAny_seqItems e hd (wpAny_pure ?_)))
  rw [← Array.forIn_toList]
  refine wpAny_bind (wpAny_mono (tup_foldI (pins := pins) (σ := σ) (sub_tup sb) (guards_under_guard (isGuard_tuple_repr _) gd) (fun b hb => (Clear.nil b).cons (a := a) (Ne.symm hb)) all its.toArray.toList _ _ s H (fun q s2 => q = ⟨ts.toArray, 0 + piled ts⟩ ∧ ∃ H2, L2.Inv X pins σ H2 s2 ∧ ∀ c o, H c = some o → H2 c = some o) (by simpa using r) (by omega) (fun _ _ z => z) I fun s2 H2 I2 s12 => ⟨by simp, H2, I2, s12⟩) (fun q s2 k2 => ?_) fun _ _ z => z)
  obtain ⟨rfl, H2, I2, s12⟩ := k2
  refine wpAny_bind (wpAny_mkStr (wpAny_pure ?_) (by simpa [tupleText, hlen] using hsz))
  have h1 := fin _ H2 s2.toks (I2.tok (s2.toks + 1)) s12
  simpa [tupleText, hlen] using h1
def rReprT (X : Cx) (n : Nat) : List V → Hp → VK → Prop := fun vs H Q => ∃ (a : Addr) (xs : List V) (ts : List Str), vs = [.ref a] ∧ H a = some (.tup xs) ∧ ShowsAll X n a H xs ts ∧ (tupleText ts).length ≤ sizeLine ∧ ∀ H2, (∀ c o, H c = some o → H2 c = some o) → Q (.str (tupleText ts)) H2
theorem call_reprT (gd : X.A.guards = some []) (hr : Room (n + 2) X.A) : CallR X (.builtin "repr") (rReprT X n) := by
  intro pins s σ H vs us Q I r h
  obtain ⟨a, xs, ts, rfl, ha, all, hsz, q⟩ := h
  obtain rfl := Vals.ref1 r
  refine Calls.call_function_entry F.kind_repr F.plain_repr F.entry_repr (F.args_repr1 _) ?_
  unfold Builtin.«repr»
  refine wpAny_bind (m := oneArg "repr" _) (wpAny_pure ?_)
  have sb : Sub X (n + 1) X.A.in1 := ⟨hr.in1, rfl⟩
  obtain ⟨z, its, rr, o, e, cl, m, hd⟩ := I.hok a _ ha
  have ty : s.TypeIs (.ref a) "tuple" := ⟨o, e, cl⟩
  refine wpAny_bind (wpAny_cRoomFor sb.room.units0 ?_)
  refine wpAny_bind (wpAny_specialOf (name := Str.ofString "__repr__") ty F.slot_tuple_repr.lookup ?_)
  refine wpAny_bind (m := callSpecialIfBound? (.ref a) (Str.ofString "__repr__")) (wpAny_callSpecialIfBound?_slotG (name := Str.ofString "__repr__") ty F.slot_tuple_repr (call_tupI sb gd I ha all hsz fun s2 H2 u I2 s12 => ?_))
  exact wpAny_bind (wpAny_isInstance (T := "str") (b := true) rfl isSubtype_str_str (wpAny_pure ⟨_, rfl, .str (tupleText ts), H2, I2, ⟨u, rfl⟩, q H2 s12⟩))
def rReprLst (X : Cx) (n : Nat) : List V → Hp → VK → Prop := fun vs H Q => ∃ (a : Addr) (xs : List V) (ts : List Str), vs = [.ref a] ∧ H a = some (.lst xs) ∧ ts.length = xs.length ∧ (∀ (i : Nat) x t, xs[i]? = some x → ts[i]? = some t → Shows X n x t H) ∧ (listText ts).length ≤ sizeLine ∧ ∀ H2, (∀ c o, H c = some o → H2 c = some o) → Q (.str (listText ts)) H2
theorem call_reprLst (gd : X.A.guards = some []) (hr : Room (n + 4) X.A) : CallR X (.builtin "repr") (rReprLst X n) := by
  intro pins s σ H vs us Q I r h
  obtain ⟨a, xs, ts, rfl, ha, hlen, hT, hsz, q⟩ := h
  obtain rfl := Vals.ref1 r
  refine Calls.call_function_entry F.kind_repr F.plain_repr F.entry_repr (F.args_repr1 _) ?_
  unfold Builtin.«repr»
  refine wpAny_bind (m := oneArg "repr" _) (wpAny_pure ?_)
  have sb : Sub X (n + 3) X.A.in1 := ⟨hr.in1, rfl⟩
  obtain ⟨its, m, rr, e, z⟩ := I.lst ha
  have ty : s.TypeIs (.ref a) "list" := ⟨_, e, rfl⟩
  refine wpAny_bind (wpAny_cRoomFor sb.room.units0 ?_)
  refine wpAny_bind (wpAny_specialOf (name := Str.ofString "__repr__") ty F.slot_list_repr.lookup ?_)
  refine wpAny_bind (m := callSpecialIfBound? (.ref a) (Str.ofString "__repr__")) (wpAny_callSpecialIfBound?_slot (name := Str.ofString "__repr__") ty F.slot_list_repr (call_listI sb gd I ha hlen hT hsz fun s2 H2 u I2 s12 => ?_))
  exact wpAny_bind (wpAny_isInstance (T := "str") (b := true) rfl isSubtype_str_str (wpAny_pure ⟨_, rfl, .str (listText ts), H2, I2, ⟨u, rfl⟩, q H2 s12⟩))
/-- {x!r}, x a list -/
def tFmtRL (X : Cx) (n : Nat) (te : TE) : TE := fun σ H Q => te σ H fun x H1 => rReprLst X n [x] H1 Q
theorem pe_fmtRL {e : Expr} {te : TE} {pos : Pos} (gd : X.A.guards = some []) (hr : Room (n + 3) X.A) (he : PE X e te) : PE X (.FormattedValue e 114 none pos) (tFmtRL X n te) := by
  refine ⟨fun pins s σ H Q I h => ?_⟩
  refine wpAny_FormattedValue_repr (thn (he.run pins s σ H _ I h) fun v s1 ⟨x, H1, I1, r1, k⟩ => ?_)
  obtain ⟨a, xs, ts, ex, ha, hlen, hT, hsz, q⟩ := k
  cases ex
  cases (show v = Value.ref a from r1)
  refine repr_listI ⟨hr, rfl⟩ gd I1 ha hlen hT hsz fun s2 H2 u I2 s12 => ?_
  exact wpAny_formatField_str ⟨.str (listText ts), H2, I2, ⟨_, rfl⟩, q H2 s12⟩ ⟨.str (listText ts), H2, I2.tok _, ⟨_, rfl⟩, q H2 s12⟩ hsz
/-- a dict whose keys are tuples of texts, its values ints -/
def keyText (ks : List Str) : Str := tupleText (ks.map reprText)
def entText (p : List Str × Int) : Str := keyText p.1 ++ ": " ++ Str.ofString (toString p.2)
def dictV (kvs : List (List Str × Int)) : List (List Key × V) := kvs.map fun p => (p.1.map Sum.inr, V.int p.2)
theorem reprAll_strs {as : List Addr} {h0 : Heap} {d : Nat} : ∀ {ks : List Str} {us : List Value}, Vals (ks.map V.str) us → (∀ k ∈ ks, (reprText k).length ≤ sizeLine) → ReprAllK X.prog X.w as h0 d us (ks.map reprText)
  | [], _, .nil, _ => .nil
  | k :: ks, _, .cons h r, hz => by
    obtain ⟨tk, rfl⟩ := (show ∃ t, _ = Value.str k t from h)
    exact .cons (.of_is (ReprIs.str k tk (hz k (List.mem_cons_self ..))) _ _ _) (reprAll_strs r fun y hy => hz y (List.mem_cons_of_mem _ hy))
theorem keys_strs (ks : List Str) : (ks.map (Sum.inr : Str → Key)).map kV = ks.map V.str := by
  rw [List.map_map]
  rfl
theorem entries_dT {pins : List (Addr × Obj)} {σ : L2.St} {H1 : Hp} {s : Shared} (I : L2.Inv X pins σ H1 s) (as : List Addr) {P : Program} {w : World} : ∀ {kvs : List (List Str × Int)} {xs : List (List Key × Addr × Value)}, (∀ q ∈ xs, q.2.1 ∈ as) → (∀ p ∈ kvs, (∀ k ∈ p.1, (reprText k).length ≤ sizeLine) ∧ p.2.natAbs.log2 < 1920) →
    Paired (fun (p : List Key × V) (q : List Key × Addr × Value) => p.1 = q.1 ∧ H1 q.2.1 = some (.tup (p.1.map kV)) ∧ RelV p.2 q.2.2) (dictV kvs) xs → ReprEntriesK X.prog X.w as s.heap 1 (xs.map (entryOfKey (tupleKind (mixKind P w)))) (kvs.map entText)
  | [], _, _, _, .nil => .nil
  | (ks, i) :: kvs, _, hin, hk, .cons h r => by
    rename_i q xs
    obtain ⟨h1, h2, h3⟩ := h
    have h2 : H1 q.2.1 = some (.tup (ks.map V.str)) := by
      rw [← keys_strs ks]
      exact h2
    obtain ⟨tk, h3⟩ := (show ∃ t, q.2.2 = Value.int i t from h3)
    obtain ⟨k1, k2⟩ := hk (ks, i) (List.mem_cons_self ..)
    obtain ⟨_, its, rv, ok, e, cl, m, hd⟩ := I.hok _ _ h2
    have key : ReprK X.prog X.w [q.2.1] s.heap 1 (.ref q.2.1) (keyText ks) := ReprK.tuple (as := []) e cl hd (by simp) (by simpa using reprAll_strs rv k1)
    refine .cons (key.more fun b hb => ?_) ?_ (entries_dT I as (fun q hq => hin q (List.mem_cons_of_mem _ hq)) (fun p hp => hk p (List.mem_cons_of_mem _ hp)) r)
    · rw [List.mem_singleton.mp hb]
      exact hin q (List.mem_cons_self ..)
    · show ReprK X.prog X.w as s.heap 1 q.2.2 _
      rw [h3]
      exact .of_is (ReprIs.int tk k2) _ _ _
theorem shows_dT {H : Hp} {a t0 : Addr} {xs0 : List V} {kvs : List (List Str × Int)} (ht0 : H t0 = some (.tup xs0)) (hx0 : ∀ ks : List Str, xs0 ≠ ks.map V.str) (ha : H a = some (.dT (dictV kvs))) (hk : ∀ p ∈ kvs, (∀ k ∈ p.1, (reprText k).length ≤ sizeLine) ∧ p.2.natAbs.log2 < 1920) :
    ShowsG X n t0 (.ref a) (dictText (kvs.map entText)) H := by
  intro A g pins σ H1 s u b Q sb gd hcl s01 I ru hz fin
  cases (show u = Value.ref a from ru)
  have ha1 := s01 _ _ ha
  obtain ⟨_, hsys, xs, pr, o, es, ep, e, ex, hd, hes, _⟩ := I.hok a _ ha1
  have tup : ∀ c ∈ xs.map (·.2.1), ∃ ks : List Str, H1 c = some (.tup (ks.map V.str)) := by
    intro c hc
    obtain ⟨q, hq, rfl⟩ := List.mem_map.mp hc
    have : ∀ {l : List (List Str × Int)} {ys : List (List Key × Addr × Value)}, Paired (fun (p : List Key × V) (q : List Key × Addr × Value) => p.1 = q.1 ∧ H1 q.2.1 = some (.tup (p.1.map kV)) ∧ RelV p.2 q.2.2) (dictV l) ys → ∀ q ∈ ys, ∃ ks : List Str, H1 q.2.1 = some (.tup (ks.map V.str)) := by
      intro l
      induction l with
      | nil =>
        intro ys h q hq
        cases h
        cases hq
      | cons p l ih =>
        intro ys h q hq
        cases h with
        | cons h r =>
          rcases List.mem_cons.mp hq with rfl | hq
          · exact ⟨p.1, by rw [← keys_strs]; exact h.2.1⟩
          · exact ih r q hq
    exact this pr q hq
  have ent := entries_dT (P := X.prog) (w := X.w) I (xs.map (·.2.1)) (fun q hq => List.mem_map.mpr ⟨q, hq, rfl⟩) hk pr
  rw [← hes] at ent
  have na : a ∉ xs.map (·.2.1) := fun z => by
    obtain ⟨ks, k⟩ := tup a z
    rw [ha1] at k
    cases k
  have all := ReprK.dict (prog := X.prog) (w := X.w) e ex.1 hd hsys na ent
  refine all b hz A g X.xe s Q gd (fun c hc => hcl c fun z => ?_) (by have := sb.room.un; omega) (fun _ _ z => z) fun h' tk kp => fin _ H1 (I.kept kp) fun _ _ z => z
  have t1 := s01 _ _ ht0
  rcases List.mem_cons.mp hc with hc | hc
  · rw [← z, hc, ha1] at t1
    cases t1
  · obtain ⟨ks, k⟩ := tup c hc
    rw [z, t1] at k
    cases k
    exact hx0 ks rfl
end
end KA
namespace KA
open PySem PySem.Spec PyProof.Rows L2
/-- keywords of a def that has no defaults -/
theorem fun_kb {K : PySem.W.Frag} {x qual : Str} {st : Stmt} {f : Addr} {fd : FuncData} {ps : List Str} (F : Fun K x qual st f fd) (n : Nat) (ks : List Str) (m : List (Nat × Nat))
    (to : ∀ (kV doc pm : Value) (an : Option Addr) (cdv ct : Value) (us ws : List Value), us.length = n → ws.length = ks.length → bindArgs (PySem.W.fnOf x qual (defArgs st) (defBody st) (defScope st) .none kV doc pm an cdv ct) ⟨us, ks.zip ws⟩ = pure (ps.zip (kw m us [] ws))) :
    KBn K fd ps n ks (fun us ws => kw m us [] ws) (fun vs zs => kw m vs [] zs) := by
  obtain ⟨oc, od, kV, doc, pm, an, cdv, ct, osl, rfl, lk, hcd⟩ := F.ex
  exact ⟨fun s us ws _ l1 l2 => .of_eq (to kV doc pm an cdv ct us ws l1 l2), fun r1 r2 => kw_rel m r1 .nil r2⟩
end KA
namespace KA
open PySem PySem.Spec PyProof.Rows L2
section
variable {prog : Program} {w : World} {A : Around} {E : Value → Shared → Prop} {s : Shared} {a : Addr} {o : Obj}
theorem lrep_head {Q : Fin → Shared → Prop} {x : Value} {l : List Value} {n : Nat} {b : Nat} (hget : s.heap.get? a = some o) (hd : o.data = .seq (x :: l).toArray n)
    (h1 : wpAny (model prog w) A (do again (.builtin "list.__repr__.loop" ⟨[.ref a, rawInt 0, ← newList [], rawInt b], []⟩)) Q E s) (h2 : ∀ u tk, Q (.done (.ret (.str "[...]" u))) { s with toks := tk }) :
    wpAny (model prog w) A (Builtin.listReprAt b ⟨[.ref a], []⟩) Q E s := by
  unfold Builtin.listReprAt
  show wpAny _ _ (Builtin.List.listItems (.ref a) >>= _) _ _ s
  refine wpAny_bind (wpAny_listItems hget hd ?_)
  refine PySem.W.KFB.if_not rfl ?_
  refine wpAny_bind (wpAny_stack_any fun st => ?_)
  dsimp only
  split
  · refine wpAny_bind (wpAny_rule ?_)
    exact wpAny_bind (wpAny_mkStr (wpAny_pure (h2 _ _)) (by decide +kernel))
  · exact h1
theorem lrep_way : ("[...]" : Str).length ≤ 5 := by decide +kernel
/-- list.__repr__, whatever is under way -/
theorem lrep_call {Q : Value → Shared → Prop} {x : Value} {l : List Value} {n : Nat} {ts : List Str} (hc : o.cls = .type "list") (ha : s.heap.get? a = some o) (hd : o.data = .seq (x :: l).toArray n) (hlen : ts.length = (x :: l).toArray.size)
    (hT : ∀ (i : Nat) (y : Value), (x :: l).toArray[i]? = some y → ∃ t, ts[i]? = some t ∧ ReprIs prog w y t) (hsz : (listText ts).length ≤ sizeLine)
    (h : ∀ h' (m : Str) u tk, (∀ b z, s.heap.get? b = some z → h'.get? b = some z) → m.length ≤ (listText ts).length + 5 → Q (.str m u) { s with heap := h', toks := tk }) :
    wpAny (model prog w) A (call (.builtin "list.__repr__") [.ref a]) Q E s := by
  refine wpAny_call (codeAny_call_builtin F.slot_list_repr.plain F.entry_list_repr (F.slot_list_repr.check _ _ _ _ _ _ _ _ ⟨o, ha, hc⟩ (F.args_list_repr_1 _) ?_))
  refine lrep_head (b := 0) ha hd ?_ (fun u tk => h s.heap _ u tk (fun _ _ e => e) (Nat.le_trans lrep_way (Nat.le_add_left _ _)))
  refine wpAny_bind (m := newList []) (wpAny_newObj_type ?_)
  refine wpAny_pure ⟨F.quiet_list_repr_loop _, ?_⟩
  refine codeAny_list_repr_start (P := s.heap.objs.size) (Nat.ne_of_lt (Heap.lt_size ha)) hlen hT (Heap.get?_push_of_some _ ha) hd (Heap.get?_push_size _ rfl) (fun h' u tk hk => ?_) (by omega)
  exact h h' _ u tk (fun b z e => hk b z (Nat.ne_of_lt (Heap.lt_size e)) (Heap.get?_push_of_some _ e)) (Nat.le_add_right _ _)

theorem drep_way : ("{...}" : Str).length ≤ 5 := by decide +kernel
/-- dict.__repr__ of {}, whatever is under way -/
theorem drep_call {Q : Value → Shared → Prop} {ep : Nat} (hc : o.cls = .type "dict") (ha : s.heap.get? a = some o) (hd : o.data = .dict #[] ep) (hsys : (a == sysModules) = false)
    (h : ∀ (m : Str) u tk, m.length ≤ 10 → Q (.str m u) { s with toks := tk }) : wpAny (model prog w) A (call (.builtin "dict.__repr__") [.ref a]) Q E s := by
  refine wpAny_call (codeAny_call_builtin_own (Code.quiet_builtin _ (by decide +kernel)) F.entry_dict_repr (F.slot_dict_repr.check _ _ _ _ _ _ _ _ ⟨o, ha, hc⟩ (F.args_dict_repr_1 _) (wpOwn_of_wpAny ?_)))
  show wpAny _ _ (Builtin.dictReprAt 0 ⟨[.ref a], []⟩) _ _ s
  unfold Builtin.dictReprAt
  refine wpAny_bind ?_
  unfold Builtin.Dict.dictSlotNone
  refine wpAny_bind (wpAny_notOrdered_dict ⟨o, ha, hc⟩ ?_)
  show wpAny _ _ (pure (Value.ref a)) _ _ s
  refine wpAny_pure ?_
  rw [dictReprRunning_eq]
  refine wpAny_bind (wpAny_bind (wpAny_stack_any fun st => wpAny_pure ?_))
  split
  · refine wpAny_bind (wpAny_rule ?_)
    exact wpAny_bind (wpAny_mkStr (wpAny_pure (h _ _ _ (Nat.le_trans drep_way (by decide)))) (by decide +kernel))
  · show wpAny _ _ (Builtin.Dict.addrOf (.ref a) >>= _) _ _ s
    refine wpAny_bind (wpAny_pure ?_)
    show wpAny _ _ (Builtin.Dict.showsAll a >>= _) _ _ s
    unfold Builtin.Dict.showsAll
    rw [if_neg (by rw [hsys]; exact Bool.false_ne_true)]
    refine wpAny_bind (wpAny_pure (wpAny_bind (wpAny_dictEpoch ha hd (wpAny_bind (wpAny_dictEntries ha hd ?_)))))
    refine wpAny_bind ?_
    rw [Std.Legacy.Range.forIn_eq_forIn_range']
    show wpAny _ _ (forIn [] _ _) _ _ s
    refine wpAny_pure ?_
    refine wpAny_bind (wpAny_mkStr (wpAny_pure (h _ _ _ ?_)) (by decide +kernel))
    decide +kernel
end
/-- str() of what is shown by its __repr__ -/
theorem str_by {prog : Program} {w : World} {A : Around} {E : Value → Shared → Prop} {s : Shared} {a : Addr} {o : Obj} {Q : Value → Shared → Prop} {T idr : String} {N : Nat} (hu : A.units + 3 < cLine) (hc : o.cls = .type T) (ha : s.heap.get? a = some o)
    (slotStr : Slot T "__str__" "object.__str__") (slotRepr : SlotG T "__repr__" idr)
    (rep : ∀ (prog' : Program) (w' : World) (A' : Around) (E' : Value → Shared → Prop) (s' : Shared) (Q' : Value → Shared → Prop), s'.heap.get? a = some o →
      (∀ h' (m : Str) u tk, (∀ b z, s'.heap.get? b = some z → h'.get? b = some z) → m.length ≤ N → Q' (.str m u) { s' with heap := h', toks := tk }) → wpAny (model prog' w') A' (call (.builtin idr) [.ref a]) Q' E' s')
    (h : ∀ h' (m : Str) u tk, (∀ b z, s.heap.get? b = some z → h'.get? b = some z) → m.length ≤ N → Q (.str m u) { s with heap := h', toks := tk }) :
    wpAny (model prog w) A (call (.type "str") [.ref a]) Q E s :=
  callType_new F.called_str (by decide) (F.typeCall_str_1 _) (F.newCall_str_1 _) (fun obj => F.args_object_init_2 obj _) F.entry_str_new
    (meets_str_new (S := fun A' R s' => A'.units + 2 < cLine ∧ s'.heap.get? a = some o ∧
        ∀ h' (m : Str) u tk, (∀ b z, s'.heap.get? b = some z → h'.get? b = some z) → m.length ≤ N → R (.ok (.ret (.str m u))) { s' with heap := h', toks := tk })
      fun prog' w' A' R s' g => wpAny_strOf_slot rfl (by show A'.units + 1 + 1 < cLine; have := g.1; omega) ⟨o, g.2.1, hc⟩ slotStr slotRepr (rep prog' w' _ _ s' _ g.2.1 fun h' m u tk hk hm => ⟨m, u, rfl, g.2.2 h' m u tk hk hm⟩))
    ⟨by show A.units + 1 + 2 < cLine; omega, ha, fun h' m u tk hk hm => ⟨typeIs_str _ _ _, h h' m u tk hk hm⟩⟩
/-- a thing without parts, of bounded text -/
inductive Leaf : V → Prop
  | int (i : Int) (h : i.natAbs.log2 < 1000) : Leaf (.int i)
  | str (z : Str) (h : z.length ≤ 1000) (hc : ∀ c ∈ z.cps.toList, c < 16 ^ 8) : Leaf (.str z)
  | bl (b : Bool) : Leaf (.bl b)
  | non : Leaf .non
theorem size_20k : (20000 : Nat) ≤ sizeLine := by decide
theorem leaf_repr {prog : Program} {w : World} {v : V} {u : Value} (h : Leaf v) (r : RelV v u) : ∃ t : Str, ReprIs prog w u t ∧ t.length ≤ 12000 := by
  cases h with
  | int i hi =>
    obtain ⟨t, rfl⟩ := r
    refine ⟨_, ReprIs.int t (by omega), ?_⟩
    have e := int_text_length_le (k := 1000) (by decide) hi
    show (Str.ofString (toString i)).length ≤ 12000
    rw [PySem.ofString_length]
    omega
  | str z hz hc =>
    obtain ⟨t, rfl⟩ := r
    have h1 := StrLaws.reprText_len z hc
    have := size_20k
    exact ⟨_, ReprIs.str z t (by omega), by omega⟩
  | bl b =>
    cases r
    exact ⟨_, ReprIs.bool b, by cases b <;> decide⟩
  | non =>
    cases r
    exact ⟨_, ReprIs.none, by decide⟩
section
variable {X : Cx}
theorem list_text_one (t : Str) : (listText [t]).length ≤ t.length + 4 := by
  have h := piled_le_listText [t]
  have h2 := textFrom_len [t] 0 "["
  show (textFrom 0 "[" [t] ++ "]").length ≤ _
  rw [strLen_append]
  show (("[" : Str) ++ (if 0 > 0 then ", " else "" : String) ++ t).length + 1 ≤ _
  rw [strLen_append, strLen_append]
  show 1 + 0 + t.length + 1 ≤ _
  omega
/-- the same, of texts of any signs -/
inductive LeafW : V → Prop
  | int (i : Int) (h : i.natAbs.log2 < 1000) : LeafW (.int i)
  | str (z : Str) (h : z.length ≤ 3000) : LeafW (.str z)
  | bl (b : Bool) : LeafW (.bl b)
  | non : LeafW .non
theorem Leaf.w {v : V} (h : Leaf v) : LeafW v := by
  cases h with
  | int i h => exact .int i h
  | str z h _ => exact .str z (by omega)
  | bl b => exact .bl b
  | non => exact .non
/-- what str() is asked of: a thing without parts, or one list, tuple of one, or {} -/
inductive Leaf1 (K : PySem.W.Frag) (H : Hp) : V → Prop
  | leaf {v : V} (h : LeafW v) : Leaf1 K H v
  | lst {a : Addr} {v : V} (e : H a = some (.lst [v])) (h : Leaf v) : Leaf1 K H (.ref a)
  | tup {a : Addr} {v : V} (e : H a = some (.tup [v])) (h : Leaf v) : Leaf1 K H (.ref a)
  | dct {a : Addr} (e : H a = some (.dK [])) : Leaf1 K H (.ref a)
def rStrL (K : PySem.W.Frag) : List V → Hp → VK → Prop := fun xs H Q => ∃ x, xs = [x] ∧ Leaf1 K H x ∧ ∀ m : Str, m.length ≤ 20000 → (Leaf x → m.length ≤ 1002) → Q (.str m) H
theorem call_str_leaf {k : Nat} (hr : Room k X.A) : CallR X (.type "str") (rStrL X.K) := by
  intro pins s σ H xs us Q I r h
  obtain ⟨x, rfl, hx, q⟩ := h
  obtain ⟨u, rfl, rx⟩ := vals1 r
  have hz := size_20k
  have hu := hr.units
  cases hx with
  | leaf hl =>
    cases hl with
    | int i hi =>
      obtain ⟨t, rfl⟩ := rx
      have e : (Str.ofString (toString i)).length ≤ 1002 := by
        have e := int_text_length_le (k := 1000) (by decide) hi
        rw [PySem.ofString_length]
        omega
      exact PySem.P.str_of_int (by omega) ⟨.str _, H, I.tok _, ⟨_, rfl⟩, q _ (Nat.le_trans e (by decide)) (fun _ => e)⟩
    | str z hz' =>
      obtain ⟨t, rfl⟩ := rx
      refine PySem.P.str_of_str ⟨.str _, H, I, ⟨_, rfl⟩, q _ (by omega) (fun l => ?_)⟩
      cases l
      omega
    | bl b =>
      cases rx
      exact PySem.P.str_of_bool ⟨.str _, H, I.tok _, ⟨_, rfl⟩, q _ (by cases b <;> decide) (fun _ => by cases b <;> decide)⟩
    | non =>
      cases rx
      exact PySem.P.str_of_none ⟨.str _, H, I.tok _, ⟨_, rfl⟩, q _ (by decide) (fun _ => by decide)⟩
  | @lst a v e hl =>
    cases rx
    obtain ⟨_, its, n, rv, ho⟩ : _ ≤ sizeLine ∧ ∃ (its : List Value) (n : Nat), Vals [v] its ∧ s.heap.get? a = some { cls := .type "list", data := .seq its.toArray n } := I.hok a _ e
    obtain ⟨u, rfl, ru⟩ := vals1 rv
    refine str_by (N := 13000) (by omega) rfl ho F.slot_list_str F.slot_list_repr.toG (fun prog' w' A' E' s' Q' hg hq => ?_) (fun h' m u tk hk hm => ⟨.str m, H, I.kept hk, ⟨_, rfl⟩, q m (by omega) (fun l => nomatch l)⟩)
    obtain ⟨t, ht, hl⟩ := leaf_repr (prog := prog') (w := w') hl ru
    have ht2 := list_text_one t
    refine lrep_call (ts := [t]) rfl hg rfl rfl (fun i y hy => ?_) (by omega) (fun h' m u tk hk hm => hq h' m u tk hk (by omega))
    cases i with
    | zero => cases hy; exact ⟨t, rfl, ht⟩
    | succ i => cases hy
  | @tup a v e hl =>
    cases rx
    obtain ⟨_, its, rv, o, ho, hc, n, hd⟩ : _ ≤ sizeLine ∧ ∃ its : List Value, Vals [v] its ∧ IsTup s.heap a its.toArray := I.hok a _ e
    obtain ⟨u, rfl, ru⟩ := vals1 rv
    refine str_by (N := 13000) (by omega) hc ho F.slot_tuple_str F.slot_tuple_repr (fun prog' w' A' E' s' Q' hg hq => ?_) (fun h' m u tk hk hm => ⟨.str m, H, I.kept hk, ⟨_, rfl⟩, q m (by omega) (fun l => nomatch l)⟩)
    obtain ⟨t, ht, hl⟩ := leaf_repr (prog := prog') (w := w') hl ru
    have ht2 := fmt_text [t]
    have ht3 : piled [t] = t.length + 2 := rfl
    exact fmt_tuple_repr (ts := [t]) hg hc hd (.cons ht .nil) (by omega) (fun m u tk hm => hq s'.heap m u tk (fun _ _ e => e) (by omega))
  | @dct a e =>
    cases rx
    obtain ⟨_, hs, vs, kv, o, es, ep, ho, hx, hd, _, he, _⟩ := dk_of I.hok e
    cases kv
    have : es = #[] := by
      cases es
      cases he
      rfl
    subst this
    refine str_by (N := 13000) (by omega) hx.1 ho F.slot_dict_str F.slot_dict_repr (fun prog' w' A' E' s' Q' hg hq => ?_) (fun h' m u tk hk hm => ⟨.str m, H, I.kept hk, ⟨_, rfl⟩, q m (by omega) (fun l => nomatch l)⟩)
    exact drep_call hx.1 hg hd hs (fun m u tk hm => hq s'.heap m u tk (fun _ _ e => e) (by omega))
end
end KA
namespace KA
open PySem PySem.SeqAt
open AutoSeq1 (wpAny_loadPart')
open MeetsSeq MeetsSeq2 MeetsSeq3 SeqRoads2
section
variable {prog : Program} {w : World} {A : Around} {R : Result → Shared → Prop}
/-- two lists as long, read anew at each turn: the two items are told equal (then J goes on) or not (then F) -/
def LstI (prog : Program) (w : World) (A : Around) (E : Value → Shared → Prop) (p q : Addr) (N : Nat) (J : Nat → Shared → Prop) (F : Shared → Prop) : Prop :=
  ∀ i s, J i s → ∃ (xs ys : Array Value) (m m2 : Nat), s.heap.get? p = some { cls := .type "list", data := .seq xs m } ∧ s.heap.get? q = some { cls := .type "list", data := .seq ys m2 } ∧ xs.size = N ∧ ys.size = N ∧
    ∀ (g1 : i < xs.size) (g2 : i < ys.size), wpAny (model prog w) A.in1 (eqBool xs[i] ys[i]) (fun r s' => (r = true → J (i + 1) s') ∧ (r = false → F s' ∧ ∃ (xs ys : Array Value) (m m2 : Nat), s'.heap.get? p = some { cls := .type "list", data := .seq xs m } ∧ s'.heap.get? q = some { cls := .type "list", data := .seq ys m2 } ∧ xs.size = N ∧ ys.size = N)) E s
/-- op: 2 is ==, 3 is != ; what is told where all items are equal is no -/
theorem turnsB (op : Nat) (yes : Bool) (hop : (op = 2 ∧ yes = true) ∨ (op = 3 ∧ yes = false)) (p q : Addr) (N : Nat) (J : Nat → Shared → Prop) (F : Shared → Prop) (hJ : LstI prog w A (fun e s' => R (.error e) s') p q N J F)
    (done : ∀ s, J N s → R (.ok (.ret (.bool yes))) s) (fail : ∀ s, F s → R (.ok (.ret (.bool (!yes)))) s) : ∀ (k i : Nat), N - i = k → i ≤ N → ∀ s, J i s →
      wpAny (model prog w) A.in1 (Builtin.«list.__eq__.loop» ⟨[.ref p, .ref q, rawInt i, rawInt op], []⟩) (GQ.FinOf prog w A R) (fun e s' => R (.error e) s') s
  | 0, i, hk, hi, s, hs => by
    obtain ⟨xs, ys, m, m2, gp, gq, zp, zq, _⟩ := hJ _ _ hs
    have iN : i = N := by omega
    have last : R (.ok (.ret (.bool yes))) s := done s (iN ▸ hs)
    have n1 : xs[((i : Nat) : Int).toNat]? = none := by simp; omega
    have n2 : ys[((i : Nat) : Int).toNat]? = none := by simp; omega
    rcases hop with ⟨rfl, rfl⟩ | ⟨rfl, rfl⟩
    · obtain ⟨hh, gg, dd, kk, oo⟩ := s
      wp_walk using wpAny_loadPart' gp, wpAny_loadPart' gq
      rw [n1, n2]
      wp_walk using wpAny_loadPart' gp, wpAny_loadPart' gq
      show R (.ok (.ret (.bool (xs.size == ys.size)))) _
      rw [zp, zq]
      simpa using last
    · obtain ⟨hh, gg, dd, kk, oo⟩ := s
      wp_walk using wpAny_loadPart' gp, wpAny_loadPart' gq
      rw [n1, n2]
      wp_walk using wpAny_loadPart' gp, wpAny_loadPart' gq
      show R (.ok (.ret (.bool (xs.size != ys.size)))) _
      rw [zp, zq]
      simpa using last
  | k + 1, i, hk, hi, s, hs => by
    obtain ⟨xs, ys, m, m2, gp, gq, zp, zq, tn⟩ := hJ _ _ hs
    have ip : i < xs.size := by omega
    have iq : i < ys.size := by omega
    have tt := tn ip iq
    have n1 : xs[((i : Nat) : Int).toNat]? = some xs[i] := by simp [ip]
    have n2 : ys[((i : Nat) : Int).toNat]? = some ys[i] := by simp [iq]
    have up : ((i : Int) + 1) = ((i + 1 : Nat) : Int) := by omega
    have next := fun s2 h2 => turnsB op yes hop p q N J F hJ done fail k (i + 1) (by omega) (by omega) s2 h2
    rcases hop with ⟨rfl, rfl⟩ | ⟨rfl, rfl⟩
    · obtain ⟨hh, gg, dd, kk, oo⟩ := s
      wp_walk using wpAny_loadPart' gp, wpAny_loadPart' gq
      rw [n1, n2]
      refine wpAny_bind (wpAny_mono tt (fun r s2 h2 => ?_) fun _ _ x => x)
      cases r with
      | true =>
        have h3 := next s2 (h2.1 rfl)
        obtain ⟨hh2, gg2, dd2, kk2, oo2⟩ := s2
        wp_walk
        rw [up]
        exact ⟨plainId_quiet plain_eq_loop _, codeAny_builtin entry_eq_loop (by rw [Around.under_plainId plain_eq_loop _]; exact h3)⟩
      | false =>
        obtain ⟨hF, xs2, ys2, m3, m4, gp2, gq2, zp2, zq2⟩ := h2.2 rfl
        have h3 := fail s2 hF
        have n3 : xs2[((i : Nat) : Int).toNat]? = some (xs2[i]'(by omega)) := by simp
        have n4 : ys2[((i : Nat) : Int).toNat]? = some (ys2[i]'(by omega)) := by simp
        obtain ⟨hh2, gg2, dd2, kk2, oo2⟩ := s2
        wp_walk using wpAny_loadPart' gp2, wpAny_loadPart' gq2
        rw [n3, n4]
        wp_walk
        exact h3
    · obtain ⟨hh, gg, dd, kk, oo⟩ := s
      wp_walk using wpAny_loadPart' gp, wpAny_loadPart' gq
      rw [n1, n2]
      refine wpAny_bind (wpAny_mono tt (fun r s2 h2 => ?_) fun _ _ x => x)
      cases r with
      | true =>
        have h3 := next s2 (h2.1 rfl)
        obtain ⟨hh2, gg2, dd2, kk2, oo2⟩ := s2
        wp_walk
        rw [up]
        exact ⟨plainId_quiet plain_eq_loop _, codeAny_builtin entry_eq_loop (by rw [Around.under_plainId plain_eq_loop _]; exact h3)⟩
      | false =>
        obtain ⟨hF, xs2, ys2, m3, m4, gp2, gq2, zp2, zq2⟩ := h2.2 rfl
        have h3 := fail s2 hF
        have n3 : xs2[((i : Nat) : Int).toNat]? = some (xs2[i]'(by omega)) := by simp
        have n4 : ys2[((i : Nat) : Int).toNat]? = some (ys2[i]'(by omega)) := by simp
        obtain ⟨hh2, gg2, dd2, kk2, oo2⟩ := s2
        wp_walk using wpAny_loadPart' gp2, wpAny_loadPart' gq2
        rw [n3, n4]
        wp_walk
        exact h3
theorem listsB (ne yes : Bool) (hop : ne = !yes) (p q : Addr) (N : Nat) (J : Nat → Shared → Prop) (F : Shared → Prop) (hJ : LstI prog w A (fun e s' => R (.error e) s') p q N J F)
    (done : ∀ s, J N s → R (.ok (.ret (.bool yes))) s) (fail : ∀ s, F s → R (.ok (.ret (.bool (!yes)))) s) {s : Shared} (hs : J 0 s) :
    wpAny (model prog w) A.in1 ((if ne then Builtin.«list.__ne__» else Builtin.«list.__eq__») ⟨[.ref p, .ref q], []⟩) (GQ.FinOf prog w A R) (fun e s' => R (.error e) s') s := by
  obtain ⟨xs, ys, m, m2, gp, gq, zp, zq, _⟩ := hJ _ _ hs
  have same : ¬ (xs.size != ys.size) = true := by simp [zp, zq]
  have sub := AutoSeq1.sub_list_list
  cases yes with
  | true =>
    subst hop
    have all := turnsB (A := A) (R := R) 2 true (.inl ⟨rfl, rfl⟩) p q N J F hJ done fail _ 0 rfl (Nat.zero_le _) s hs
    obtain ⟨hh, gg, dd, kk, oo⟩ := s
    show wpAny _ _ (Builtin.«list.__eq__» ⟨[.ref p, .ref q], []⟩) _ _ _
    wp_walk using wpAny_loadPart' gp, wpAny_loadPart' gq
    exact ⟨plainId_quiet plain_eq_loop _, codeAny_builtin entry_eq_loop (by rw [Around.under_plainId plain_eq_loop _]; exact all)⟩
  | false =>
    subst hop
    have all := turnsB (A := A) (R := R) 3 false (.inr ⟨rfl, rfl⟩) p q N J F hJ done fail _ 0 rfl (Nat.zero_le _) s hs
    obtain ⟨hh, gg, dd, kk, oo⟩ := s
    show wpAny _ _ (Builtin.«list.__ne__» ⟨[.ref p, .ref q], []⟩) _ _ _
    wp_walk using wpAny_loadPart' gp, wpAny_loadPart' gq
    exact ⟨plainId_quiet plain_eq_loop _, codeAny_builtin entry_eq_loop (by rw [Around.under_plainId plain_eq_loop _]; exact all)⟩
/-- lists of unlike lengths -/
theorem listsN (ne : Bool) (p q : Addr) {xs ys : Array Value} {m m2 : Nat} {s : Shared} (gp : s.heap.get? p = some { cls := .type "list", data := .seq xs m }) (gq : s.heap.get? q = some { cls := .type "list", data := .seq ys m2 }) (h : xs.size ≠ ys.size)
    (fail : R (.ok (.ret (.bool ne))) s) : wpAny (model prog w) A.in1 ((if ne then Builtin.«list.__ne__» else Builtin.«list.__eq__») ⟨[.ref p, .ref q], []⟩) (GQ.FinOf prog w A R) (fun e s' => R (.error e) s') s := by
  have unl : (xs.size != ys.size) = true := by simpa using h
  have sub := AutoSeq1.sub_list_list
  cases ne with
  | true =>
    obtain ⟨hh, gg, dd, kk, oo⟩ := s
    show wpAny _ _ (Builtin.«list.__ne__» ⟨[.ref p, .ref q], []⟩) _ _ _
    wp_walk using wpAny_loadPart' gp, wpAny_loadPart' gq
    exact fail
  | false =>
    obtain ⟨hh, gg, dd, kk, oo⟩ := s
    show wpAny _ _ (Builtin.«list.__eq__» ⟨[.ref p, .ref q], []⟩) _ _ _
    wp_walk using wpAny_loadPart' gp, wpAny_loadPart' gq
    exact fail
end
end KA
namespace KA
open PySem PySem.SeqAt
open AutoSeq1 (wpAny_loadPart')
open MeetsSeq MeetsSeq2 MeetsSeq3 SeqRoads2
section
variable {prog : Program} {w : World} {A : Around} {R : Result → Shared → Prop}
theorem tupsB (ne : Bool) (p q : Addr) (xs ys : Array Value) (n n2 : Nat) (d1 d2 : Option Addr) (l1 l2 : Array (Option Value)) (J : Nat → Shared → Prop) (F : Shared → Prop)
    (turn : ∀ i (h1 : i < xs.size) (h2 : i < ys.size) s, J i s → wpAny (model prog w) A.in1 (eqBool xs[i] ys[i]) (fun r s' => (r = true → J (i + 1) s') ∧ (r = false → F s')) (fun e s' => R (.error e) s') s)
    (done : ∀ s, J (min xs.size ys.size) s → R (.ok (.ret (.bool (ne ^^ (xs.size == ys.size))))) s) (fail : ∀ s, F s → R (.ok (.ret (.bool ne))) s)
    {s : Shared} (gp : s.heap.get? p = some { cls := .type "tuple", dict := d1, data := .seq xs n, slots := l1 }) (gq : s.heap.get? q = some { cls := .type "tuple", dict := d2, data := .seq ys n2, slots := l2 }) (h : J 0 s) :
    wpAny (model prog w) A.in1 ((if ne then Builtin.«tuple.__ne__» else Builtin.«tuple.__eq__») ⟨[.ref p, .ref q], []⟩) (GQ.FinOf prog w A R) (fun e s' => R (.error e) s') s := by
  have sub := AutoSeq1.sub_tuple_tuple
  have hZ : (xs.toList.zip ys.toList).length = min xs.size ys.size := by simp
  have h0 := h
  have at_ : ∀ {i : Nat} {z : Value × Value} {rest : List (Value × Value)}, z :: rest = (xs.toList.zip ys.toList).drop i → ∃ (h1 : i < xs.size) (h2 : i < ys.size), z = (xs[i], ys[i]) ∧ rest = (xs.toList.zip ys.toList).drop (i + 1) := fun {i z rest} hz => by
    have lt : i < (xs.toList.zip ys.toList).length := by
      rcases Nat.lt_or_ge i (xs.toList.zip ys.toList).length with h' | h'
      · exact h'
      · rw [List.drop_of_length_le h'] at hz
        cases hz
    have h1 : i < xs.size := by omega
    have h2 : i < ys.size := by omega
    rw [List.drop_eq_getElem_cons lt] at hz
    injection hz with e1 e2
    exact ⟨h1, h2, by rw [e1]; simp, e2⟩
  have end_ : ∀ {i : Nat}, ([] : List (Value × Value)) = (xs.toList.zip ys.toList).drop i → i ≤ min xs.size ys.size → i = min xs.size ys.size := fun {i} hz hi => by
    rcases Nat.lt_or_ge i (xs.toList.zip ys.toList).length with h' | h'
    · rw [List.drop_eq_getElem_cons h'] at hz
      cases hz
    · omega
  cases ne with
  | false =>
    obtain ⟨hh, gg, dd, kk, oo⟩ := s
    show wpAny _ _ (Builtin.«tuple.__eq__» ⟨[.ref p, .ref q], []⟩) _ _ _
    wp_walk using wpAny_loadPart' gp, wpAny_loadPart' gq, wpAny_forIn_list _ (fun rest b s' => b.1 = none ∧ ∃ i, rest = (xs.toList.zip ys.toList).drop i ∧ i ≤ min xs.size ys.size ∧ J i s') _
    case turn =>
      rintro ⟨y, x⟩ rest b s' ⟨hb', i, hz, hi, hI⟩
      obtain ⟨h1, h2, e, hrest⟩ := at_ hz
      injection e with e1 e2
      subst e1 e2
      refine wpAny_bind (wpAny_mono (turn i h1 h2 s' hI) (fun r s2 q2 => ?_) fun _ _ x => x)
      cases r with
      | true =>
        wp_walk
        exact ⟨rfl, i + 1, hrest, by omega, q2.1 rfl⟩
      | false =>
        have h3 := fail s2 (q2.2 rfl)
        wp_walk
        exact h3
    case fin =>
      rintro ⟨b1, b2⟩ s' ⟨hb', i, hz, hi, hI⟩
      simp only at hb'
      subst hb'
      have hR := done s' (end_ hz hi ▸ hI)
      wp_walk
      simpa [Builtin.Tuple.tupleCompareSizes] using hR
    case h =>
      exact ⟨rfl, 0, rfl, Nat.zero_le _, h0⟩
  | true =>
    obtain ⟨hh, gg, dd, kk, oo⟩ := s
    show wpAny _ _ (Builtin.«tuple.__ne__» ⟨[.ref p, .ref q], []⟩) _ _ _
    wp_walk using wpAny_loadPart' gp, wpAny_loadPart' gq, wpAny_forIn_list _ (fun rest b s' => b.1 = none ∧ ∃ i, rest = (xs.toList.zip ys.toList).drop i ∧ i ≤ min xs.size ys.size ∧ J i s') _
    case turn =>
      rintro ⟨y, x⟩ rest b s' ⟨hb', i, hz, hi, hI⟩
      obtain ⟨h1, h2, e, hrest⟩ := at_ hz
      injection e with e1 e2
      subst e1 e2
      refine wpAny_bind (wpAny_mono (turn i h1 h2 s' hI) (fun r s2 q2 => ?_) fun _ _ x => x)
      cases r with
      | true =>
        wp_walk
        exact ⟨rfl, i + 1, hrest, by omega, q2.1 rfl⟩
      | false =>
        have h3 := fail s2 (q2.2 rfl)
        wp_walk
        exact h3
    case fin =>
      rintro ⟨b1, b2⟩ s' ⟨hb', i, hz, hi, hI⟩
      simp only at hb'
      subst hb'
      have hR := done s' (end_ hz hi ▸ hI)
      wp_walk
      simpa [Builtin.Tuple.tupleCompareSizes, bne] using hR
    case h =>
      exact ⟨rfl, 0, rfl, Nat.zero_le _, h0⟩
end
section
variable {prog : Program} {w : World} {A : Around} {E : Value → Shared → Prop} {s : Shared}
def opNe (ne : Bool) : CmpOp := if ne then .NotEq else .Eq
theorem rcL {p q : Addr} {N : Nat} {Q : Value → Shared → Prop} (ne : Bool) (hu : A.units < cLine) (J : Nat → Shared → Prop) (F : Shared → Prop) (hJ : LstI prog w A E p q N J F)
    (done : ∀ s, J N s → Q (.bool (!ne)) s) (fail : ∀ s, F s → Q (.bool ne) s) (hs : J 0 s) : wpAny (model prog w) A (richCompare (opNe ne) (.ref p) (.ref q)) Q E s := by
  obtain ⟨xs, ys, m, m2, gp, gq, _, _, _⟩ := hJ _ _ hs
  cases ne with
  | false =>
    refine wpAny_richCompare_same_room (op := .Eq) ⟨_, gp, rfl⟩ ⟨_, gq, rfl⟩ PySem.F.slot_list_eq (GQ.call_here PySem.F.slot_list_eq ⟨_, gp, rfl⟩ PySem.F.entry_list_eq (PySem.F.args_list_eq_2 _ _) ?_) hu
    exact listsB (R := wants (fun v s' => v ≠ .notImplemented ∧ Q v s') E) false true rfl p q N J F hJ (fun s' z => ⟨(fun x => nomatch x), done s' z⟩) (fun s' z => ⟨(fun x => nomatch x), fail s' z⟩) hs
  | true =>
    refine wpAny_richCompare_same_room (op := .NotEq) ⟨_, gp, rfl⟩ ⟨_, gq, rfl⟩ PySem.F.slot_list_ne (GQ.call_here PySem.F.slot_list_ne ⟨_, gp, rfl⟩ PySem.F.entry_list_ne (PySem.F.args_list_ne_2 _ _) ?_) hu
    exact listsB (R := wants (fun v s' => v ≠ .notImplemented ∧ Q v s') E) true false rfl p q N J F hJ (fun s' z => ⟨(fun x => nomatch x), done s' z⟩) (fun s' z => ⟨(fun x => nomatch x), fail s' z⟩) hs
theorem rcN {p q : Addr} {xs ys : Array Value} {m m2 : Nat} {Q : Value → Shared → Prop} (ne : Bool) (hu : A.units < cLine) (gp : s.heap.get? p = some { cls := .type "list", data := .seq xs m }) (gq : s.heap.get? q = some { cls := .type "list", data := .seq ys m2 }) (h : xs.size ≠ ys.size)
    (fail : Q (.bool ne) s) : wpAny (model prog w) A (richCompare (opNe ne) (.ref p) (.ref q)) Q E s := by
  cases ne with
  | false =>
    refine wpAny_richCompare_same_room (op := .Eq) ⟨_, gp, rfl⟩ ⟨_, gq, rfl⟩ PySem.F.slot_list_eq (GQ.call_here PySem.F.slot_list_eq ⟨_, gp, rfl⟩ PySem.F.entry_list_eq (PySem.F.args_list_eq_2 _ _) ?_) hu
    exact listsN (R := wants (fun v s' => v ≠ .notImplemented ∧ Q v s') E) false p q gp gq h ⟨(fun x => nomatch x), fail⟩
  | true =>
    refine wpAny_richCompare_same_room (op := .NotEq) ⟨_, gp, rfl⟩ ⟨_, gq, rfl⟩ PySem.F.slot_list_ne (GQ.call_here PySem.F.slot_list_ne ⟨_, gp, rfl⟩ PySem.F.entry_list_ne (PySem.F.args_list_ne_2 _ _) ?_) hu
    exact listsN (R := wants (fun v s' => v ≠ .notImplemented ∧ Q v s') E) true p q gp gq h ⟨(fun x => nomatch x), fail⟩
theorem rcT {p q : Addr} {xs ys : Array Value} {Q : Value → Shared → Prop} (ne : Bool) (hu : A.units < cLine) (J : Nat → Shared → Prop) (F : Shared → Prop) (hl : s.heap.IsTuple p xs) (hb : s.heap.IsTuple q ys)
    (turn : ∀ i (h1 : i < xs.size) (h2 : i < ys.size) s, J i s → wpAny (model prog w) A.in1 (eqBool xs[i] ys[i]) (fun r s' => (r = true → J (i + 1) s') ∧ (r = false → F s')) E s)
    (done : ∀ s, J (min xs.size ys.size) s → Q (.bool (ne ^^ (xs.size == ys.size))) s) (fail : ∀ s, F s → Q (.bool ne) s) (h : J 0 s) : wpAny (model prog w) A (richCompare (opNe ne) (.ref p) (.ref q)) Q E s := by
  obtain ⟨⟨cls, dd, data, sl⟩, ho, hc, n, hd⟩ := id hl
  obtain ⟨⟨cls2, dd2, data2, sl2⟩, ho2, hc2, n2, hd2⟩ := id hb
  simp only at hc hd hc2 hd2
  subst hc hd hc2 hd2
  cases ne with
  | false =>
    refine wpAny_richCompare_same_room (op := .Eq) ⟨_, ho, rfl⟩ ⟨_, ho2, rfl⟩ PySem.F.slot_tuple_eq (GQ.call_here PySem.F.slot_tuple_eq ⟨_, ho, rfl⟩ PySem.F.entry_tuple_eq (PySem.F.args_tuple_eq_2 _ _) ?_) hu
    exact tupsB (R := wants (fun v s' => v ≠ .notImplemented ∧ Q v s') E) false p q xs ys n n2 dd dd2 sl sl2 J F turn (fun s' z => ⟨(fun x => nomatch x), done s' z⟩) (fun s' z => ⟨(fun x => nomatch x), fail s' z⟩) ho ho2 h
  | true =>
    refine wpAny_richCompare_same_room (op := .NotEq) ⟨_, ho, rfl⟩ ⟨_, ho2, rfl⟩ PySem.F.slot_tuple_ne (GQ.call_here PySem.F.slot_tuple_ne ⟨_, ho, rfl⟩ PySem.F.entry_tuple_ne (PySem.F.args_tuple_ne_2 _ _) ?_) hu
    exact tupsB (R := wants (fun v s' => v ≠ .notImplemented ∧ Q v s') E) true p q xs ys n n2 dd dd2 sl sl2 J F turn (fun s' z => ⟨(fun x => nomatch x), done s' z⟩) (fun s' z => ⟨(fun x => nomatch x), fail s' z⟩) ho ho2 h
end
end KA
namespace KA
open PySem PySem.Spec PyProof.Rows L2
/-- two values, and what == tells of them -/
abbrev BEq2 := V → V → Bool → Hp → Prop
def MonB (D : BEq2) : Prop := ∀ x y b H H', Ext H H' → D x y b H → D x y b H'
def EqB (X : Cx) (n : Nat) (D : BEq2) : Prop :=
  ∀ (A : Around) (pins : List (Addr × Obj)) (s : Shared) (σ : L2.St) (H : Hp) (x y : V) (u v : Value) (b : Bool), Sub X n A → L2.Inv X pins σ H s → RelV x u → RelV y v → D x y b H →
    wpAny (model X.prog X.w) A (eqBool u v) (fun r s' => r = b ∧ ∃ H', L2.Inv X pins σ H' s' ∧ Ext H H') X.xe s
def RcB (X : Cx) (n : Nat) (ne : Bool) (D : BEq2) : Prop :=
  ∀ (A : Around) (pins : List (Addr × Obj)) (s : Shared) (σ : L2.St) (H : Hp) (x y : V) (u v : Value) (b : Bool), Sub X n A → L2.Inv X pins σ H s → RelV x u → RelV y v → D x y b H →
    wpAny (model X.prog X.w) A (richCompare (opNe ne) u v) (fun r s' => r = .bool (ne ^^ b) ∧ ∃ H', L2.Inv X pins σ H' s' ∧ Ext H H') X.xe s
section
variable {X : Cx} {n m : Nat} {D D' : BEq2}
theorem EqB.mono (h : EqB X n D) (hn : n ≤ m) : EqB X m D := fun A pins s σ H x y u v b sb => h A pins s σ H x y u v b (sb.mono hn)
theorem EqB.or (h : EqB X n D) (h' : EqB X n D') : EqB X n (fun x y b H => D x y b H ∨ D' x y b H) := fun A pins s σ H x y u v b sb I rx ry d => d.elim (fun d => h A pins s σ H x y u v b sb I rx ry d) (fun d => h' A pins s σ H x y u v b sb I rx ry d)
theorem MonB.or (h : MonB D) (h' : MonB D') : MonB (fun x y b H => D x y b H ∨ D' x y b H) := fun x y b H H' e d => d.elim (fun d => .inl (h x y b H H' e d)) fun d => .inr (h' x y b H H' e d)
/-- flat values -/
def BFlat : BEq2 := fun x y b _ => flatV x = true ∧ flatV y = true ∧ eqV x y = b
theorem monB_flat : MonB BFlat := fun _ _ _ _ _ _ d => d
theorem eqB_flat : EqB X 0 BFlat := by
  intro A pins s σ H x y u v b sb I rx ry d
  obtain ⟨fx, fy, e⟩ := d
  have q := eqAt_V (A := A) (s := s) rx ry fx fy
  rw [e] at q
  exact q X.prog X.w X.xe _ ⟨rfl, H, I, Ext.rfl'⟩
/-- item by item, as far as both go -/
def PrsB (D : BEq2) (xs ys : List V) (f : Nat → Bool) (H : Hp) : Prop := ∀ (i : Nat) x y, xs[i]? = some x → ys[i]? = some y → D x y (f i) H
theorem turnB (hD : MonB D) (h : EqB X n D) {A : Around} (sb : Sub X (n + 1) A) {pins : List (Addr × Obj)} {σ : L2.St} {H : Hp} {xs ys : List V} {its its2 : List Value} {f : Nat → Bool} (p : PrsB D xs ys f H) (r : Vals xs its) (r2 : Vals ys its2)
    (i : Nat) (h1 : i < its.toArray.size) (h2 : i < its2.toArray.size) (s' : Shared) (l : LoopI X pins σ H s') :
    wpAny (model X.prog X.w) A.in1 (eqBool its.toArray[i] its2.toArray[i]) (fun r s2 => r = f i ∧ LoopI X pins σ H s2) X.xe s' := by
  obtain ⟨H1, I1, e1⟩ := l
  have l1 : i < its.length := by simpa using h1
  have l2 : i < its2.length := by simpa using h2
  have k1 : i < xs.length := by rw [r.length]; exact l1
  have k2 : i < ys.length := by rw [r2.length]; exact l2
  obtain ⟨u, hu, ru⟩ := r.get (List.getElem?_eq_getElem k1)
  obtain ⟨v, hv, rv⟩ := r2.get (List.getElem?_eq_getElem k2)
  have g1 : its.toArray[i] = u := by
    rw [List.getElem?_eq_getElem l1] at hu
    simpa using Option.some.inj hu
  have g2 : its2.toArray[i] = v := by
    rw [List.getElem?_eq_getElem l2] at hv
    simpa using Option.some.inj hv
  rw [g1, g2]
  refine wpAny_mono (h A.in1 pins s' σ H1 _ _ u v _ sb.in1 I1 ru rv (hD _ _ _ _ _ e1 (p i _ _ (List.getElem?_eq_getElem k1) (List.getElem?_eq_getElem k2)))) (fun r s2 q => ?_) fun _ _ x => x
  obtain ⟨hr, H2, I2, e2⟩ := q
  exact ⟨hr, H2, I2, e1.trans e2⟩
def allF (N : Nat) (f : Nat → Bool) : Bool := (List.range N).all f
theorem allF_true {N : Nat} {f : Nat → Bool} (h : ∀ j, j < N → f j = true) : allF N f = true := by
  unfold allF
  rw [List.all_eq_true]
  exact fun j hj => h j (List.mem_range.mp hj)
theorem allF_false {N j : Nat} {f : Nat → Bool} (h : j < N) (e : f j = false) : allF N f = false := by
  unfold allF
  rw [List.all_eq_false]
  exact ⟨j, List.mem_range.mpr h, by rw [e]; exact Bool.false_ne_true⟩
def BList (D : BEq2) : BEq2 := fun x y b H => ∃ (p q : Addr) (xs ys : List V) (f : Nat → Bool), x = .ref p ∧ y = .ref q ∧ H p = some (.lst xs) ∧ H q = some (.lst ys) ∧ (xs.length = ys.length → PrsB D xs ys f H) ∧ b = (decide (xs.length = ys.length) && allF xs.length f)
def BTup (K : PySem.W.Frag) (D : BEq2) : BEq2 := fun x y b H => ∃ (p q : Addr) (xs ys : List V) (f : Nat → Bool), x = .ref p ∧ y = .ref q ∧ SqT K H p xs ∧ SqT K H q ys ∧ PrsB D xs ys f H ∧ b = (decide (xs.length = ys.length) && allF xs.length f)
theorem PrsB.mon (hD : MonB D) {xs ys : List V} {f : Nat → Bool} {H H' : Hp} (e : Ext H H') (p : PrsB D xs ys f H) : PrsB D xs ys f H' := fun i x y h1 h2 => hD x y _ H H' e (p i x y h1 h2)
theorem monB_list (hD : MonB D) : MonB (BList D) := fun x y b H H' e d => by
  obtain ⟨p, q, xs, ys, f, hx, hy, h1, h2, pr, hb⟩ := d
  exact ⟨p, q, xs, ys, f, hx, hy, e _ _ h1, e _ _ h2, fun z => (pr z).mon hD e, hb⟩
theorem monB_tup {K : PySem.W.Frag} (hD : MonB D) : MonB (BTup K D) := fun x y b H H' e d => by
  obtain ⟨p, q, xs, ys, f, hx, hy, h1, h2, pr, hb⟩ := d
  exact ⟨p, q, xs, ys, f, hx, hy, h1.ext e, h2.ext e, pr.mon hD e, hb⟩
theorem rcB_list (ne : Bool) (hD : MonB D) (h : EqB X n D) : RcB X (n + 1) ne (BList D) := by
  intro A pins s σ H x y u v b sb I rx ry d
  obtain ⟨p, q, xs, ys, f, rfl, rfl, hp, hq, pr, rfl⟩ := d
  cases rx
  cases ry
  by_cases hl : xs.length = ys.length
  · have pr := pr hl
    have look : ∀ s', LoopI X pins σ H s' → ∃ (as bs : List Value) (m m2 : Nat), Vals xs as ∧ Vals ys bs ∧ s'.heap.get? p = some { cls := .type "list", data := .seq as.toArray m } ∧ s'.heap.get? q = some { cls := .type "list", data := .seq bs.toArray m2 } ∧ as.toArray.size = xs.length ∧ bs.toArray.size = xs.length := fun s' z => by
      obtain ⟨H1, I1, e1⟩ := id z
      obtain ⟨_, its, k, r, e⟩ := I1.hok p _ (e1 _ _ hp)
      obtain ⟨_, its2, k2, r2, e2⟩ := I1.hok q _ (e1 _ _ hq)
      exact ⟨its, its2, k, k2, r, r2, e, e2, by rw [List.size_toArray, ← r.length], by rw [List.size_toArray, ← r2.length, hl]⟩
    refine rcL (N := xs.length) ne sb.room.units0 (fun i s' => LoopI X pins σ H s' ∧ ∀ j, j < i → f j = true) (fun s' => LoopI X pins σ H s' ∧ ∃ j, j < xs.length ∧ f j = false) (fun i s' z => ?_) (fun s' z => ?_) (fun s' z => ?_) ⟨⟨H, I, Ext.rfl'⟩, fun j hj => absurd hj (Nat.not_lt_zero _)⟩
    · obtain ⟨z, hf⟩ := z
      obtain ⟨as, bs, k, k2, r, r2, e, e2, z1, z2⟩ := look s' z
      refine ⟨_, _, k, k2, e, e2, z1, z2, fun g1 g2 => wpAny_mono (turnB hD h sb pr r r2 i g1 g2 s' z) (fun r s2 q2 => ?_) fun _ _ x => x⟩
      obtain ⟨rfl, q2⟩ := q2
      refine ⟨fun t => ⟨q2, fun j hj => ?_⟩, fun t => ⟨⟨q2, i, by omega, t⟩, ?_⟩⟩
      · by_cases hji : j = i
        · rw [hji]; exact t
        · exact hf j (by omega)
      · obtain ⟨as, bs, k, k2, r, r2, e, e2, z1, z2⟩ := look s2 q2
        exact ⟨_, _, k, k2, e, e2, z1, z2⟩
    · obtain ⟨⟨H1, z⟩, hf⟩ := z
      refine ⟨?_, H1, z⟩
      rw [decide_eq_true hl, allF_true hf]
      cases ne <;> rfl
    · obtain ⟨⟨H1, z⟩, j, hj, e⟩ := z
      refine ⟨?_, H1, z⟩
      rw [allF_false hj e, Bool.and_false, Bool.xor_false]
  · obtain ⟨_, its, k, r, e⟩ := I.hok p _ hp
    obtain ⟨_, its2, k2, r2, e2⟩ := I.hok q _ hq
    refine rcN ne sb.room.units0 e e2 (by rw [List.size_toArray, List.size_toArray, ← r.length, ← r2.length]; exact hl) ⟨?_, H, I, Ext.rfl'⟩
    rw [decide_eq_false hl, Bool.false_and, Bool.xor_false]
theorem rcB_tup (ne : Bool) (hD : MonB D) (h : EqB X n D) : RcB X (n + 1) ne (BTup X.K D) := by
  intro A pins s σ H x y u v b sb I rx ry d
  obtain ⟨p, q, xs, ys, f, rfl, rfl, hp, hq, pr, rfl⟩ := d
  cases rx
  cases ry
  obtain ⟨its, r, e, z⟩ := I.tuple hp
  obtain ⟨its2, r2, e2, z2⟩ := I.tuple hq
  have w1 : its.toArray.size = xs.length := by rw [List.size_toArray, ← r.length]
  have w2 : its2.toArray.size = ys.length := by rw [List.size_toArray, ← r2.length]
  refine rcT ne sb.room.units0 (fun i s' => LoopI X pins σ H s' ∧ ∀ j, j < i → f j = true) (fun s' => LoopI X pins σ H s' ∧ ∃ j, j < xs.length ∧ f j = false) e e2 (fun i g1 g2 s' z => ?_) (fun s' z => ?_) (fun s' z => ?_) ⟨⟨H, I, Ext.rfl'⟩, fun j hj => absurd hj (Nat.not_lt_zero _)⟩
  · obtain ⟨z, hf⟩ := z
    refine wpAny_mono (turnB hD h sb pr r r2 i g1 g2 s' z) (fun r s2 q2 => ?_) fun _ _ x => x
    obtain ⟨rfl, q2⟩ := q2
    refine ⟨fun t => ⟨q2, fun j hj => ?_⟩, fun t => ⟨q2, i, by omega, t⟩⟩
    by_cases hji : j = i
    · rw [hji]; exact t
    · exact hf j (by omega)
  · obtain ⟨⟨H1, z⟩, hf⟩ := z
    refine ⟨?_, H1, z⟩
    rw [w1, w2] at hf ⊢
    by_cases hl : xs.length = ys.length
    · rw [decide_eq_true hl, allF_true (fun j hj => hf j (by omega)), hl]
      simp
    · rw [decide_eq_false hl]
      have : (xs.length == ys.length) = false := by simpa using hl
      rw [this]
      rfl
  · obtain ⟨⟨H1, z⟩, j, hj, e⟩ := z
    refine ⟨?_, H1, z⟩
    rw [allF_false hj e, Bool.and_false, Bool.xor_false]
/-- x == y, x != y as expressions -/
def rEqB (ne : Bool) (D : BEq2) : R2 := fun x y H Q => ∃ b, D x y b H ∧ ∀ H', Ext H H' → Q (.bl (ne ^^ b)) H'
theorem op_eqB (h : RcB X n false D) (hr : Room n X.A) : OpR X (compareOp .Eq) (rEqB false D) := by
  intro pins s σ H x y v u Q I rx ry hq
  obtain ⟨b, d, q⟩ := hq
  show wpAny (model X.prog X.w) X.A (richCompare .Eq v u) (EP X pins σ Q) X.xe s
  refine wpAny_mono (h X.A pins s σ H x y v u b ⟨hr, rfl⟩ I rx ry d) (fun r s' z => ?_) fun _ _ x => x
  obtain ⟨rfl, H', I', e⟩ := z
  exact ⟨.bl _, H', I', rfl, q H' e⟩
theorem op_neB (h : RcB X n true D) (hr : Room n X.A) : OpR X (compareOp .NotEq) (rEqB true D) := by
  intro pins s σ H x y v u Q I rx ry hq
  obtain ⟨b, d, q⟩ := hq
  show wpAny (model X.prog X.w) X.A (richCompare .NotEq v u) (EP X pins σ Q) X.xe s
  refine wpAny_mono (h X.A pins s σ H x y v u b ⟨hr, rfl⟩ I rx ry d) (fun r s' z => ?_) fun _ _ x => x
  obtain ⟨rfl, H', I', e⟩ := z
  exact ⟨.bl _, H', I', rfl, q H' e⟩
end
end KA
namespace KA
open PySem PySem.Spec PySem.W PyProof.Rows
section
variable {prog : Program} {w : World} {A : Around} {E : Value → Shared → Prop} {s : Shared} {K : Frag} {x C f : Addr} {ox : Obj} {od : Option Obj}
theorem none_eq_ref {Q : Value → Shared → Prop} (h : Q .notImplemented s) : wpAny (model prog w) A (call (.builtin "NoneType.__eq__") [.none, .ref x]) Q E s := by
  refine wpAny_call_entry PySem.F.slot_NoneType_eq (typeIs_none s) PySem.F.entry_NoneType_eq ?_ (PySem.F.args_NoneType_eq_2 _ _)
  unfold Builtin.«NoneType.__eq__»
  wp_walk
  exact ⟨_, rfl, h⟩
/-- None == x, x an instance whose class has its own == : that one is asked -/
theorem cmp_none {Q : Value → Shared → Prop} (hu : A.units < cLine) (X : K.In s.heap) (I : InstAt s.heap x ox C od) (hn : subIn K (.ref C) (.type "NoneType") = some false)
    (hs : findIn K (.ref C) "__eq__" = some (some (.ref f))) (hf : isFn K (.ref f) = true)
    (h : wpAny (model prog w) A (call (.ref f) [.ref x, .none]) (PySem.W.CmpBack Q) E s) : wpAny (model prog w) A (richCompare .Eq .none (.ref x)) Q E s := by
  have one : wpAny (model prog w) A (tryCompare (.ref x) "__eq__" .none) (fun r s' => ∃ v, r = some v ∧ Q v s') E s := by
    unfold tryCompare
    refine wpAny_bind (ifBound_K X I hs hf (wpAny_mono h (fun v s' hv => ?_) fun _ _ e => e))
    cases v <;> first | exact hv.elim | exact wpAny_pure ⟨_, rfl, hv⟩
  have two : wpAny (model prog w) A (tryCompare .none "__eq__" (.ref x)) (fun r s' => r = none ∧ s' = s) E s := by
    unfold tryCompare
    refine wpAny_bind (wpAny_callSpecialIfBound?_slot (name := (cmpInfo .Eq).2.1) (typeIs_none s) PySem.F.slot_NoneType_eq (none_eq_ref ?_))
    exact wpAny_pure ⟨rfl, rfl⟩
  unfold richCompare
  refine wpAny_holding (wpAny_bind (wpAny_cRoomFor hu ?_))
  rw [show oneThing? .Eq .none (.ref x) = none from rfl]
  refine wpAny_bind (wpAny_typeOf (typeIs_none s) (wpAny_bind (I.type.here ?_)))
  refine PySem.W.KFB.if_so rfl (wpAny_bind ((looks_subIn X hn).here ?_))
  refine PySem.W.KFB.if_not rfl ?_
  refine wpAny_bind (wpAny_mono two (fun r s' z => ?_) fun _ _ e => e)
  obtain ⟨rfl, rfl⟩ := z
  refine PySem.W.KFB.if_so rfl (wpAny_bind (wpAny_mono one (fun r s' z => ?_) fun _ _ e => e))
  obtain ⟨v, rfl, hq⟩ := z
  exact wpAny_pure hq
end
end KA

namespace KA
open PySem PySem.Spec PyProof.Rows L2
/-- eqBool of what is not one thing, by the rich comparison -/
theorem eqBool_by {prog : Program} {w : World} {A : Around} {E : Value → Shared → Prop} {s : Shared} {u v : Value} {Q : Bool → Shared → Prop} (hu : (∃ a, u = .ref a) ∨ u = .none) (hne : (u == v) = false)
    (h : wpAny (model prog w) A (richCompare .Eq u v) (fun r s' => ∃ b, r = .bool b ∧ Q b s') E s) : wpAny (model prog w) A (eqBool u v) Q E s := by
  unfold eqBool
  refine wpAny_holding ?_
  refine wpAny_ite_split (fun hab => by rw [hne] at hab; cases hab) (fun _ => ?_)
  rcases hu with ⟨a, rfl⟩ | rfl
  · refine wpAny_bind (wpAny_mono h (fun r s' hv => ?_) fun _ _ x => x)
    obtain ⟨b, rfl, q⟩ := hv
    exact wpAny_truthy_bool q
  · refine wpAny_bind (wpAny_mono h (fun r s' hv => ?_) fun _ _ x => x)
    obtain ⟨b, rfl, q⟩ := hv
    exact wpAny_truthy_bool q
/-- what an own == promises: R tells its answer -/
def spEqO (R : Addr → V → Bool → Hp → Prop) : Sp := fun vs H Q _ => ∃ (a : Addr) (y : V) (b : Bool), vs = [.ref a, y] ∧ R a y b H ∧ ∀ H', Ext H H' → Q (.bl b) H'
section
variable {X : Cx} {n : Nat} {CX : CXT} {C f : Addr} {fd : FuncData} {ps : List Str} {R : Addr → V → Bool → Hp → Prop} {E : XK}
theorem run_eqO {A : Around} {pins : List (Addr × Obj)} {σ : L2.St} {H : Hp} {s : Shared} {a : Addr} {y : V} {v : Value} {b : Bool} (F : FnOk X.prog X.w X.K X.mg X.base CX n f fd ps (spEqO R)) (hb : Binds X.K fd ps []) (hx : Passes CX X E) (sb : Sub X n A) (I : L2.Inv X pins σ H s)
    (ry : RelV y v) (d : R a y b H) : wpAny (model X.prog X.w) A (call (.ref f) [.ref a, v]) (PySem.W.CmpBack fun r s' => r = .bool b ∧ ∃ H', L2.Inv X pins σ H' s' ∧ Ext H H') X.xe s := by
  have hsp : spEqO R [.ref a, y] H (fun z H' => z = .bl b ∧ Ext H H') E := ⟨a, y, b, rfl, d, fun H' e => ⟨rfl, e⟩⟩
  have e0 : Env0 X.prog X.w X.K X.mg X.base A X.stack s H := by
    have e := I.env0
    exact ⟨by rw [sb.fr]; exact e.frames, e.mod, e.bs, e.bsz, e.funs, e.frf, e.hok, e.bare⟩
  have hl := F.len _ _ _ _ hsp
  have r2 : Vals [V.ref a, y] [Value.ref a, v] := .cons rfl (.cons ry .nil)
  refine wpAny_call (codeAny_mono (F.run A X.stack s H ⟨[.ref a, v], []⟩ [.ref a, v] [.ref a, y] _ E sb.room e0 (by
    have := hb s [.ref a, v] I.kIn (by simpa using hl)
    simpa using this) r2 hsp) fun r s' hq => ?_)
  cases r with
  | error e => exact hx pins σ H s e s' I hq
  | ok fl =>
    cases fl with
    | ret z =>
      obtain ⟨z, H', I', rz, ez, ex⟩ := I.after hq
      subst ez
      cases rz
      exact ⟨rfl, H', I', ex⟩
    | next => exact False.elim hq
    | brk => exact False.elim hq
    | cont => exact False.elim hq
/-- an instance of the class at C beside anything, or None beside an instance -/
def BOwn (K : PySem.W.Frag) (C : Addr) (R : Addr → V → Bool → Hp → Prop) : BEq2 := fun x y b H =>
  (∃ (a dx : Addr) (fs : List (Str × V)) (t : Value), x = .ref a ∧ H a = some (.ins C dx fs) ∧ TyX K H y t ∧ PySem.W.notFirst K C t = true ∧ R a y b H ∧ (y = .ref a → b = true)) ∨
  ∃ (a dx : Addr) (fs : List (Str × V)), x = .non ∧ y = .ref a ∧ H a = some (.ins C dx fs) ∧ R a .non b H
theorem rcB_own (F : FnOk X.prog X.w X.K X.mg X.base CX n f fd ps (spEqO R)) (hs : PySem.W.findIn X.K (.ref C) "__eq__" = some (some (.ref f))) (hf : PySem.W.isFn X.K (.ref f) = true) (hb : Binds X.K fd ps []) (hx : Passes CX X E)
    (hn : PySem.W.subIn X.K (.ref C) (.type "NoneType") = some false) : RcB X n false (BOwn X.K C R) := by
  intro A pins s σ H x y u v b sb I rx ry d
  have fin : (false ^^ b) = b := Bool.false_xor b
  rw [fin]
  rcases d with ⟨a, dx, fs, t, rfl, ha, ty, nf, hR, _⟩ | ⟨a, dx, fs, rfl, rfl, ha, hR⟩
  · cases rx
    obtain ⟨mA, J, _⟩ := ins_get I.hok ha
    obtain ⟨od, J, _⟩ := J.look
    obtain ⟨Pz, Z, p, _⟩ := kit_of I ry ty
    obtain ⟨m, hF⟩ := I.fr
    exact PySem.W.cmp_K (op := .Eq) (tb := t) sb.room.units0 hF I.ok.mod.kin J (Z.ty _ _ I.kIn p) nf hs hf (run_eqO F hb hx sb I ry hR)
  · cases rx
    cases ry
    obtain ⟨mA, J, _⟩ := ins_get I.hok ha
    obtain ⟨od, J, _⟩ := J.look
    exact cmp_none sb.room.units0 I.kIn J hn hs hf (run_eqO (y := .non) F hb hx sb I rfl hR)
theorem eqB_own (F : FnOk X.prog X.w X.K X.mg X.base CX n f fd ps (spEqO R)) (hs : PySem.W.findIn X.K (.ref C) "__eq__" = some (some (.ref f))) (hf : PySem.W.isFn X.K (.ref f) = true) (hb : Binds X.K fd ps []) (hx : Passes CX X E)
    (hn : PySem.W.subIn X.K (.ref C) (.type "NoneType") = some false) : EqB X n (BOwn X.K C R) := by
  intro A pins s σ H x y u v b sb I rx ry d
  by_cases hsame : (u == v) = true
  · have e := eq_of_beq hsame
    subst e
    have hb1 : b = true := by
      rcases d with ⟨a, dx, fs, t, rfl, ha, ty, nf, hR, h⟩ | ⟨a, dx, fs, rfl, rfl, ha, hR⟩
      · cases rx
        refine h ?_
        cases y with
        | ref c =>
          cases ry
          rfl
        | non => cases ry
        | bl _ => cases ry
        | int _ => obtain ⟨_, z⟩ := ry; cases z
        | str _ => obtain ⟨_, z⟩ := ry; cases z
        | byt _ => obtain ⟨_, z⟩ := ry; cases z
        | flt _ => obtain ⟨_, z⟩ := ry; cases z
        | ty _ => cases ry
      · cases rx
        cases ry
    rw [hb1]
    exact SeqAt.EqAt.same (A := A) (s := s) u X.prog X.w X.xe _ ⟨rfl, H, I, Ext.rfl'⟩
  · have hu : (∃ a, u = .ref a) ∨ u = .none := by
      rcases d with ⟨a, dx, fs, t, rfl, ha, ty, nf, hR, h⟩ | ⟨a, dx, fs, rfl, rfl, ha, hR⟩
      · cases rx
        exact .inl ⟨_, rfl⟩
      · cases rx
        exact .inr rfl
    refine eqBool_by hu (by simpa using hsame) (wpAny_mono (rcB_own F hs hf hb hx hn A pins s σ H x y u v b sb I rx ry d) (fun r s' q => ?_) fun _ _ x => x)
    obtain ⟨hr, q⟩ := q
    exact ⟨b, by rw [hr, Bool.false_xor], rfl, q⟩
theorem monB_own {K : PySem.W.Frag} (hR : ∀ a y b H H', Ext H H' → R a y b H → R a y b H') : MonB (BOwn K C R) := fun x y b H H' e d => by
  rcases d with ⟨a, dx, fs, t, hx, ha, ty, nf, r, h⟩ | ⟨a, dx, fs, hx, hy, ha, r⟩
  · exact .inl ⟨a, dx, fs, t, hx, e _ _ ha, tyx_same e ty, nf, hR _ _ _ _ _ e r, h⟩
  · exact .inr ⟨a, dx, fs, hx, hy, e _ _ ha, hR _ _ _ _ _ e r⟩
end
end KA
/-! tuples as == in a list (index, count, in) asks them: the very same is equal -/
namespace KA
open PySem PySem.Spec PyProof.Rows L2
section
variable {X : Cx} {n : Nat} {D : BEq2}
def BTupI (K : PySem.W.Frag) (D : BEq2) : BEq2 := fun x y b H => BTup K D x y b H ∧ (y = x → b = true)
theorem monB_tupI {K : PySem.W.Frag} (hD : MonB D) : MonB (BTupI K D) := fun x y b H H' e d => ⟨monB_tup hD x y b H H' e d.1, d.2⟩
theorem eqB_tupI (hD : MonB D) (h : EqB X n D) : EqB X (n + 1) (BTupI X.K D) := by
  intro A pins s σ H x y u v b sb I rx ry d
  obtain ⟨d, same⟩ := d
  obtain ⟨p, q, xs, ys, f, rfl, rfl, _⟩ := id d
  cases rx
  cases ry
  by_cases hpq : p = q
  · subst hpq
    rw [same rfl]
    exact SeqAt.EqAt.same (A := A) (s := s) _ X.prog X.w X.xe _ ⟨rfl, H, I, Ext.rfl'⟩
  · refine eqBool_by (.inl ⟨_, rfl⟩) (beq_eq_false_iff_ne.mpr fun e => hpq (by injection e)) ?_
    refine wpAny_mono (rcB_tup false hD h A pins s σ H (.ref p) (.ref q) (.ref p) (.ref q) b sb I rfl rfl d) (fun r s' q => ?_) fun _ _ e => e
    obtain ⟨rfl, H', J, x⟩ := q
    exact ⟨_, rfl, Bool.false_xor b, H', J, x⟩
theorem eqB_tupIK {K : PySem.W.Frag} (hK : X.K = K) (hD : MonB D) (h : EqB X n D) : EqB X (n + 1) (BTupI K D) := by
  subst hK
  exact eqB_tupI hD h
/-- two tuples of the same flat things -/
theorem flat_same {K : PySem.W.Frag} {H : Hp} {p q : Addr} {xs : List V} (hp : SqT K H p xs) (hq : SqT K H q xs) (hf : ∀ x ∈ xs, flatV x = true) (he : ∀ x ∈ xs, eqV x x = true) : BTup K BFlat (.ref p) (.ref q) true H :=
  ⟨p, q, xs, xs, fun _ => true, rfl, rfl, hp, hq, fun i x y hx hy => by
    rw [hx] at hy
    cases hy
    exact ⟨hf x (List.mem_of_getElem? hx), hf x (List.mem_of_getElem? hx), he x (List.mem_of_getElem? hx)⟩, by rw [decide_eq_true rfl, allF_true fun _ _ => rfl]; rfl⟩
end
end KA
/-! == of things of an own class beside things of the same (no None asked for) -/
namespace KA
open PySem PySem.Spec PyProof.Rows L2
section
variable {X : Cx} {CX : CXT} {n : Nat} {C f : Addr} {fd : FuncData} {ps : List Str} {R : Addr → V → Bool → Hp → Prop} {E : XK}
def BOwnA (K : PySem.W.Frag) (C : Addr) (R : Addr → V → Bool → Hp → Prop) : BEq2 := fun x y b H =>
  ∃ (a dx : Addr) (fs : List (Str × V)) (t : Value), x = .ref a ∧ H a = some (.ins C dx fs) ∧ TyX K H y t ∧ PySem.W.notFirst K C t = true ∧ R a y b H ∧ (y = .ref a → b = true)
theorem rcB_ownA (F : FnOk X.prog X.w X.K X.mg X.base CX n f fd ps (spEqO R)) (hs : PySem.W.findIn X.K (.ref C) "__eq__" = some (some (.ref f))) (hf : PySem.W.isFn X.K (.ref f) = true) (hb : Binds X.K fd ps []) (hx : Passes CX X E) : RcB X n false (BOwnA X.K C R) := by
  intro A pins s σ H x y u v b sb I rx ry d
  have fin : (false ^^ b) = b := Bool.false_xor b
  rw [fin]
  obtain ⟨a, dx, fs, t, rfl, ha, ty, nf, hR, _⟩ := d
  cases rx
  obtain ⟨mA, J, _⟩ := ins_get I.hok ha
  obtain ⟨od, J, _⟩ := J.look
  obtain ⟨Pz, Z, p, _⟩ := kit_of I ry ty
  obtain ⟨m, hF⟩ := I.fr
  exact PySem.W.cmp_K (op := .Eq) (tb := t) sb.room.units0 hF I.ok.mod.kin J (Z.ty _ _ I.kIn p) nf hs hf (run_eqO F hb hx sb I ry hR)
theorem eqB_ownA (F : FnOk X.prog X.w X.K X.mg X.base CX n f fd ps (spEqO R)) (hs : PySem.W.findIn X.K (.ref C) "__eq__" = some (some (.ref f))) (hf : PySem.W.isFn X.K (.ref f) = true) (hb : Binds X.K fd ps []) (hx : Passes CX X E) : EqB X n (BOwnA X.K C R) := by
  intro A pins s σ H x y u v b sb I rx ry d
  by_cases hsame : (u == v) = true
  · have e := eq_of_beq hsame
    subst e
    have hb1 : b = true := by
      obtain ⟨a, dx, fs, t, rfl, ha, ty, nf, hR, h⟩ := d
      cases rx
      refine h ?_
      cases y with
      | ref c =>
        cases ry
        rfl
      | non => cases ry
      | bl _ => cases ry
      | int _ => obtain ⟨_, z⟩ := ry; cases z
      | str _ => obtain ⟨_, z⟩ := ry; cases z
      | byt _ => obtain ⟨_, z⟩ := ry; cases z
      | flt _ => obtain ⟨_, z⟩ := ry; cases z
      | ty _ => cases ry
    rw [hb1]
    exact SeqAt.EqAt.same (A := A) (s := s) u X.prog X.w X.xe _ ⟨rfl, H, I, Ext.rfl'⟩
  · have hu : (∃ a, u = .ref a) ∨ u = .none := by
      obtain ⟨a, dx, fs, t, rfl, ha, ty, nf, hR, h⟩ := d
      cases rx
      exact .inl ⟨_, rfl⟩
    refine eqBool_by hu (by simpa using hsame) (wpAny_mono (rcB_ownA F hs hf hb hx A pins s σ H x y u v b sb I rx ry d) (fun r s' q => ?_) fun _ _ x => x)
    obtain ⟨hr, q⟩ := q
    exact ⟨b, by rw [hr, Bool.false_xor], rfl, q⟩
theorem monB_ownA {K : PySem.W.Frag} (hR : ∀ a y b H H', Ext H H' → R a y b H → R a y b H') : MonB (BOwnA K C R) := fun x y b H H' e d => by
  obtain ⟨a, dx, fs, t, hx, ha, ty, nf, r, h⟩ := d
  exact ⟨a, dx, fs, t, hx, e _ _ ha, tyx_same e ty, nf, hR _ _ _ _ _ e r, h⟩
/-- flat values, or own ones -/
def BFO (K : PySem.W.Frag) (C : Addr) (R : Addr → V → Bool → Hp → Prop) : BEq2 := fun x y b H => BFlat x y b H ∨ BOwnA K C R x y b H
theorem monB_fo {K : PySem.W.Frag} (hR : ∀ a y b H H', Ext H H' → R a y b H → R a y b H') : MonB (BFO K C R) := monB_flat.or (monB_ownA hR)
theorem eqB_fo (F : FnOk X.prog X.w X.K X.mg X.base CX n f fd ps (spEqO R)) (hs : PySem.W.findIn X.K (.ref C) "__eq__" = some (some (.ref f))) (hf : PySem.W.isFn X.K (.ref f) = true) (hb : Binds X.K fd ps []) (hx : Passes CX X E) : EqB X n (BFO X.K C R) := (eqB_flat.mono (Nat.zero_le n)).or (eqB_ownA F hs hf hb hx)
end
end KA
namespace KA
open PySem PySem.Spec PyProof.Rows L2
section
variable {X : Cx} {a b : Expr} {ta tb : TE} {rest : List Expr} {pos : Pos} {K' : PySem.W.Frag}
/-- the truth of a value, of an instance of an own class without __bool__ and __len__, too -/
def TruW (K : PySem.W.Frag) (x : V) (H : Hp) (k : Bool) : Prop := TruV K x H k ∨ ∃ (a C dx : Addr) (fs : List (Str × V)), x = .ref a ∧ H a = some (.ins C dx fs) ∧ PySem.W.findIn K (.ref C) "__bool__" = some none ∧ PySem.W.findIn K (.ref C) "__len__" = some none ∧ k = true
theorem truW_ok : TruR X (fun x H Q => ∃ k, TruW X.K x H k ∧ Q k H) := by
  intro pins s σ H x v Q I rx h
  obtain ⟨k, h | ⟨a, C, dx, fs, rfl, ha, hb, hl, rfl⟩, q⟩ := h
  · exact tru_ok pins s σ H x v Q I rx ⟨k, h, q⟩
  · cases rx
    obtain ⟨mA, J, _⟩ := ins_get I.hok ha
    obtain ⟨od, J, _⟩ := J.look
    obtain ⟨m, hF⟩ := I.fr
    exact PySem.W.truthy_K0 hF I.ok.mod.kin J hb hl ⟨H, I, q⟩
def tAndW (K : PySem.W.Frag) (ta tb : TE) : TE := fun σ H Q => ta σ H fun x H1 => ∃ k, TruW K x H1 k ∧ if k = true then tb σ H1 Q else Q x H1
theorem pe_andW (hK : X.K = K') (ha : PE X a ta) (hb : PE X (.BoolOp .And (b :: rest) pos) tb) : PE X (.BoolOp .And (a :: b :: rest) pos) (tAndW K' ta tb) := by
  subst hK
  refine ⟨fun pins s σ H Q I h => ?_⟩
  refine BoolOp_and (thn (ha.run pins s σ H _ I h) fun v s1 ⟨x, H1, I1, r1, k, e, q1⟩ => ?_)
  refine thn (truW_ok pins s1 σ H1 x v (fun c H2 => c = k ∧ H2 = H1) I1 r1 ⟨k, e, rfl, rfl⟩) fun c s2 ⟨H2, I2, e1, e2⟩ => ?_
  subst e2 e1
  cases c with
  | true => exact hb.run pins s2 σ H2 Q I2 q1
  | false => exact ⟨x, H2, I2, r1, q1⟩
theorem op_catAK (hK : X.K = K') : OpR X (binaryOp .Add) (rCatA K') := by
  subst hK
  exact op_catA
end
end KA
namespace KA
open PySem PySem.SeqAt
open AutoSeq1 (wpAny_loadPart')
open MeetsSeq MeetsSeq2 MeetsSeq3 SeqRoads2
section
variable {prog : Program} {w : World} {A : Around} {R : Result → Shared → Prop}
/-- a list, read anew at each turn: the item is told equal to x or not -/
def ItI (prog : Program) (w : World) (A : Around) (E : Value → Shared → Prop) (p : Addr) (x : Value) (N : Nat) (J : Nat → Nat → Shared → Prop) (T : Nat → Nat → Bool → Shared → Prop) : Prop :=
  ∀ i c s, J i c s → ∃ (xs : Array Value) (m : Nat), s.heap.get? p = some { cls := .type "list", data := .seq xs m } ∧ xs.size = N ∧
    ∀ (g1 : i < xs.size), wpAny (model prog w) A.in1 (eqBool xs[i] x) (fun r s' => T i c r s') E s
theorem inB (p : Addr) (x : Value) (N : Nat) (J : Nat → Nat → Shared → Prop) (F : Shared → Prop) (hJ : ItI prog w A (fun e s' => R (.error e) s') p x N J (fun i c r s' => (r = false → J (i + 1) c s') ∧ (r = true → F s')))
    (done : ∀ c s, J N c s → R (.ok (.ret (.bool false))) s) (hit : ∀ s, F s → R (.ok (.ret (.bool true))) s) : ∀ (k i c : Nat), N - i = k → i ≤ N → ∀ s, J i c s →
      wpAny (model prog w) A.in1 (Builtin.«list.__contains__.loop» ⟨[.ref p, x, rawInt i], []⟩) (GQ.FinOf prog w A R) (fun e s' => R (.error e) s') s
  | 0, i, c, hk, hi, s, hs => by
    obtain ⟨xs, m, gp, zp, _⟩ := hJ _ _ _ hs
    have iN : i = N := by omega
    have last : R (.ok (.ret (.bool false))) s := done c s (iN ▸ hs)
    have n1 : xs[((i : Nat) : Int).toNat]? = none := by simp; omega
    obtain ⟨hh, gg, dd, kk, oo⟩ := s
    wp_walk using wpAny_loadPart' gp
    rw [n1]
    wp_walk
    exact last
  | k + 1, i, c, hk, hi, s, hs => by
    obtain ⟨xs, m, gp, zp, tn⟩ := hJ _ _ _ hs
    have ip : i < xs.size := by omega
    have tt := tn ip
    have n1 : xs[((i : Nat) : Int).toNat]? = some xs[i] := by simp [ip]
    have up : ((i : Int) + 1) = ((i + 1 : Nat) : Int) := by omega
    have next := fun s2 h2 => inB p x N J F hJ done hit k (i + 1) c (by omega) (by omega) s2 h2
    obtain ⟨hh, gg, dd, kk, oo⟩ := s
    wp_walk using wpAny_loadPart' gp
    rw [n1]
    refine wpAny_bind (wpAny_mono tt (fun r s2 h2 => ?_) fun _ _ x => x)
    cases r with
    | false =>
      have h3 := next s2 (h2.1 rfl)
      obtain ⟨hh2, gg2, dd2, kk2, oo2⟩ := s2
      wp_walk
      rw [up]
      exact ⟨plainId_quiet plain_contains_loop _, codeAny_builtin entry_contains_loop (by rw [Around.under_plainId plain_contains_loop _]; exact h3)⟩
    | true =>
      have h3 := hit s2 (h2.2 rfl)
      obtain ⟨hh2, gg2, dd2, kk2, oo2⟩ := s2
      wp_walk
      exact h3
theorem containsB (p : Addr) (x : Value) (N : Nat) (J : Nat → Nat → Shared → Prop) (F : Shared → Prop) (hJ : ItI prog w A (fun e s' => R (.error e) s') p x N J (fun i c r s' => (r = false → J (i + 1) c s') ∧ (r = true → F s')))
    (done : ∀ c s, J N c s → R (.ok (.ret (.bool false))) s) (hit : ∀ s, F s → R (.ok (.ret (.bool true))) s) {s : Shared} (hs : J 0 0 s) :
      wpAny (model prog w) A.in1 (Builtin.«list.__contains__» ⟨[.ref p, x], []⟩) (GQ.FinOf prog w A R) (fun e s' => R (.error e) s') s := by
  have all := inB p x N J F hJ done hit _ 0 0 rfl (Nat.zero_le _) s hs
  obtain ⟨xs, m, gp, zp, _⟩ := hJ _ _ _ hs
  obtain ⟨hh, gg, dd, kk, oo⟩ := s
  wp_walk using wpAny_loadPart' gp
  exact ⟨plainId_quiet plain_contains_loop _, codeAny_builtin entry_contains_loop (by rw [Around.under_plainId plain_contains_loop _]; exact all)⟩
theorem cntB (p : Addr) (x : Value) (N : Nat) (J : Nat → Nat → Shared → Prop) (hJ : ItI prog w A (fun e s' => R (.error e) s') p x N J (fun i c r s' => J (i + 1) (if r then c + 1 else c) s'))
    (done : ∀ c s, J N c s → R (.ok (.ret (.int (c : Int) s.toks))) { s with toks := s.toks + 1 }) : ∀ (k i c : Nat), N - i = k → i ≤ N → ∀ s, J i c s →
      wpAny (model prog w) A.in1 (Builtin.«list.count.loop» ⟨[.ref p, x, rawInt i, rawInt c], []⟩) (GQ.FinOf prog w A R) (fun e s' => R (.error e) s') s
  | 0, i, c, hk, hi, s, hs => by
    obtain ⟨xs, m, gp, zp, _⟩ := hJ _ _ _ hs
    have iN : i = N := by omega
    have last := done c s (iN ▸ hs)
    have n1 : xs[((i : Nat) : Int).toNat]? = none := by simp; omega
    obtain ⟨hh, gg, dd, kk, oo⟩ := s
    wp_walk using wpAny_loadPart' gp
    rw [n1]
    wp_walk
    exact last
  | k + 1, i, c, hk, hi, s, hs => by
    obtain ⟨xs, m, gp, zp, tn⟩ := hJ _ _ _ hs
    have ip : i < xs.size := by omega
    have tt := tn ip
    have n1 : xs[((i : Nat) : Int).toNat]? = some xs[i] := by simp [ip]
    have up : ((i : Int) + 1) = ((i + 1 : Nat) : Int) := by omega
    have up2 : ((c : Int) + 1) = ((c + 1 : Nat) : Int) := by omega
    have next := fun c' s2 h2 => cntB p x N J hJ done k (i + 1) c' (by omega) (by omega) s2 h2
    obtain ⟨hh, gg, dd, kk, oo⟩ := s
    wp_walk using wpAny_loadPart' gp
    rw [n1]
    refine wpAny_bind (wpAny_mono tt (fun r s2 h2 => ?_) fun _ _ x => x)
    cases r with
    | false =>
      have h3 := next c s2 h2
      obtain ⟨hh2, gg2, dd2, kk2, oo2⟩ := s2
      wp_walk
      simp only [Bool.false_eq_true, if_false]
      rw [up]
      exact ⟨plainId_quiet plain_count_loop _, codeAny_builtin entry_count_loop (by rw [Around.under_plainId plain_count_loop _]; exact h3)⟩
    | true =>
      have h3 := next (c + 1) s2 h2
      obtain ⟨hh2, gg2, dd2, kk2, oo2⟩ := s2
      wp_walk
      simp only [if_true]
      rw [up, up2]
      exact ⟨plainId_quiet plain_count_loop _, codeAny_builtin entry_count_loop (by rw [Around.under_plainId plain_count_loop _]; exact h3)⟩
theorem countB (p : Addr) (x : Value) (N : Nat) (J : Nat → Nat → Shared → Prop) (hJ : ItI prog w A (fun e s' => R (.error e) s') p x N J (fun i c r s' => J (i + 1) (if r then c + 1 else c) s'))
    (done : ∀ c s, J N c s → R (.ok (.ret (.int (c : Int) s.toks))) { s with toks := s.toks + 1 }) {s : Shared} (hs : J 0 0 s) :
      wpAny (model prog w) A.in1 (Builtin.«list.count» ⟨[.ref p, x], []⟩) (GQ.FinOf prog w A R) (fun e s' => R (.error e) s') s := by
  have all := cntB p x N J hJ done _ 0 0 rfl (Nat.zero_le _) s hs
  obtain ⟨xs, m, gp, zp, _⟩ := hJ _ _ _ hs
  obtain ⟨hh, gg, dd, kk, oo⟩ := s
  wp_walk using wpAny_loadPart' gp
  exact ⟨plainId_quiet plain_count_loop _, codeAny_builtin entry_count_loop (by rw [Around.under_plainId plain_count_loop _]; exact all)⟩
theorem idxB (upto : Int) (p : Addr) (x : Value) (N : Nat) (hN : (N : Int) < upto) (J : Nat → Nat → Shared → Prop) (hJ : ItI prog w A (fun e s' => R (.error e) s') p x N J (fun i c r s' => (r = false → J (i + 1) c s') ∧ (r = true → R (.ok (.ret (.int (i : Int) s'.toks))) { s' with toks := s'.toks + 1 })))
    (done : ∀ c s, ¬ J N c s) : ∀ (k i c : Nat), N - i = k → i ≤ N → ∀ s, J i c s →
      wpAny (model prog w) A.in1 (Builtin.«list.index.loop» ⟨[.ref p, x, rawInt i, rawInt upto], []⟩) (GQ.FinOf prog w A R) (fun e s' => R (.error e) s') s
  | 0, i, c, hk, hi, s, hs => by
    have iN : i = N := by omega
    exact absurd (iN ▸ hs) (done c s)
  | k + 1, i, c, hk, hi, s, hs => by
    obtain ⟨xs, m, gp, zp, tn⟩ := hJ _ _ _ hs
    have ip : i < xs.size := by omega
    have tt := tn ip
    have hst : (i : Int) < upto := by omega
    have n1 : (if (i : Int) < upto then xs[((i : Nat) : Int).toNat]? else none) = some xs[i] := by rw [if_pos hst]; simp [ip]
    have up : ((i : Int) + 1) = ((i + 1 : Nat) : Int) := by omega
    have next := fun s2 h2 => idxB upto p x N hN J hJ done k (i + 1) c (by omega) (by omega) s2 h2
    obtain ⟨hh, gg, dd, kk, oo⟩ := s
    wp_walk using wpAny_loadPart' gp
    rw [n1]
    refine wpAny_bind (wpAny_mono tt (fun r s2 h2 => ?_) fun _ _ x => x)
    cases r with
    | false =>
      have h3 := next s2 (h2.1 rfl)
      obtain ⟨hh2, gg2, dd2, kk2, oo2⟩ := s2
      wp_walk
      rw [up]
      exact ⟨plainId_quiet plain_index_loop _, codeAny_builtin entry_index_loop (by rw [Around.under_plainId plain_index_loop _]; exact h3)⟩
    | true =>
      have h3 := h2.2 rfl
      obtain ⟨hh2, gg2, dd2, kk2, oo2⟩ := s2
      wp_walk
      exact h3
theorem indexB (p : Addr) (x : Value) (N : Nat) (hN : (N : Int) < 2 ^ 63 - 1) (J : Nat → Nat → Shared → Prop) (hJ : ItI prog w A (fun e s' => R (.error e) s') p x N J (fun i c r s' => (r = false → J (i + 1) c s') ∧ (r = true → R (.ok (.ret (.int (i : Int) s'.toks))) { s' with toks := s'.toks + 1 })))
    (done : ∀ c s, ¬ J N c s) {s : Shared} (hs : J 0 0 s) :
      wpAny (model prog w) A.in1 (Builtin.«list.index» ⟨[.ref p, x], []⟩) (GQ.FinOf prog w A R) (fun e s' => R (.error e) s') s := by
  have all := idxB (2 ^ 63 - 1) p x N hN J hJ done _ 0 0 rfl (Nat.zero_le _) s hs
  obtain ⟨xs, m, gp, zp, _⟩ := hJ _ _ _ hs
  obtain ⟨hh, gg, dd, kk, oo⟩ := s
  wp_walk using wpAny_loadPart' gp
  have a1 : ((fun i : Int => if i < 0 then max 0 (i + (xs.size : Int)) else i) ((none : Option Int).getD 0)) = ((0 : Nat) : Int) := by simp
  have a2 : ((fun i : Int => if i < 0 then max 0 (i + (xs.size : Int)) else i) ((none : Option Int).getD (2 ^ 63 - 1))) = 2 ^ 63 - 1 := by simp
  rw [a1, a2]
  exact ⟨plainId_quiet plain_index_loop _, codeAny_builtin entry_index_loop (by rw [Around.under_plainId plain_index_loop _]; exact all)⟩
end
end KA
namespace KA
open PySem PySem.Spec PyProof.Rows L2
def anyF (N : Nat) (f : Nat → Bool) : Bool := (List.range N).any f
def cntF (N : Nat) (f : Nat → Bool) : Nat := (List.range N).countP f
theorem anyF_true {N j : Nat} {f : Nat → Bool} (h : j < N) (e : f j = true) : anyF N f = true := by
  unfold anyF
  rw [List.any_eq_true]
  exact ⟨j, List.mem_range.mpr h, e⟩
theorem anyF_false {N : Nat} {f : Nat → Bool} (h : ∀ j, j < N → f j = false) : anyF N f = false := by
  unfold anyF
  rw [List.any_eq_false]
  exact fun j hj => by rw [h j (List.mem_range.mp hj)]; simp
theorem cntF_succ {N : Nat} {f : Nat → Bool} : cntF (N + 1) f = if f N then cntF N f + 1 else cntF N f := by
  unfold cntF
  rw [List.range_succ, List.countP_append]
  cases h : f N <;> simp [h]
section
variable {X : Cx} {n : Nat} {D : BEq2}
/-- each item beside x, and what == tells -/
def ItsB (D : BEq2) (xs : List V) (x : V) (f : Nat → Bool) (H : Hp) : Prop := ∀ (i : Nat) z, xs[i]? = some z → D z x (f i) H
theorem turnI (hD : MonB D) (h : EqB X n D) {A : Around} (sb : Sub X (n + 1) A) {pins : List (Addr × Obj)} {σ : L2.St} {H : Hp} {xs : List V} {x : V} {u : Value} {its : List Value} {f : Nat → Bool} (p : ItsB D xs x f H) (r : Vals xs its) (rx : RelV x u)
    (i : Nat) (h1 : i < its.toArray.size) (s' : Shared) (l : LoopI X pins σ H s') :
    wpAny (model X.prog X.w) A.in1 (eqBool its.toArray[i] u) (fun r s2 => r = f i ∧ LoopI X pins σ H s2) X.xe s' := by
  obtain ⟨H1, I1, e1⟩ := l
  have l1 : i < its.length := by simpa using h1
  have k1 : i < xs.length := by rw [r.length]; exact l1
  obtain ⟨v, hu, ru⟩ := r.get (List.getElem?_eq_getElem k1)
  have g1 : its.toArray[i] = v := by
    rw [List.getElem?_eq_getElem l1] at hu
    simpa using Option.some.inj hu
  rw [g1]
  refine wpAny_mono (h A.in1 pins s' σ H1 _ _ v u _ sb.in1 I1 ru rx (hD _ _ _ _ _ e1 (p i _ (List.getElem?_eq_getElem k1)))) (fun r s2 q => ?_) fun _ _ x => x
  obtain ⟨hr, H2, I2, e2⟩ := q
  exact ⟨hr, H2, I2, e1.trans e2⟩
theorem lookI {pins : List (Addr × Obj)} {σ : L2.St} {H : Hp} {p : Addr} {xs : List V} (hp : H p = some (.lst xs)) (s' : Shared) (z : LoopI X pins σ H s') : ∃ (as : List Value) (m : Nat), Vals xs as ∧ s'.heap.get? p = some { cls := .type "list", data := .seq as.toArray m } ∧ as.toArray.size = xs.length := by
  obtain ⟨H1, I1, e1⟩ := id z
  obtain ⟨_, its, k, r, e⟩ := I1.hok p _ (e1 _ _ hp)
  exact ⟨its, k, r, e, by rw [List.size_toArray, ← r.length]⟩
theorem runIn {A : Around} {Q : Value → Shared → Prop} (hD : MonB D) (h : EqB X n D) (sb : Sub X (n + 1) A) {pins : List (Addr × Obj)} {s : Shared} {σ : L2.St} {H : Hp} {p : Addr} {xs : List V} {x : V} {u : Value} {f : Nat → Bool} (I : L2.Inv X pins σ H s) (rx : RelV x u) (hp : H p = some (.lst xs)) (pr : ItsB D xs x f H)
    (q : ∀ s', LoopI X pins σ H s' → Q (.bool (anyF xs.length f)) s') : wpAny (model X.prog X.w) A (call (.builtin "list.__contains__") [.ref p, u]) Q X.xe s := by
  obtain ⟨as, m, r, e, z1⟩ := lookI hp s ⟨H, I, Ext.rfl'⟩
  refine GQ.call_here PySem.F.slot_list_contains ⟨_, e, rfl⟩ PySem.F.entry_list_contains (PySem.F.args_list_contains_2 _ _) ?_
  refine containsB (R := wants Q X.xe) p u xs.length (fun i _ s' => LoopI X pins σ H s' ∧ ∀ j, j < i → f j = false) (fun s' => LoopI X pins σ H s' ∧ ∃ j, j < xs.length ∧ f j = true) (fun i c s' z => ?_) (fun c s' z => ?_) (fun s' z => ?_) ⟨⟨H, I, Ext.rfl'⟩, fun j hj => absurd hj (Nat.not_lt_zero _)⟩
  · obtain ⟨z, hf⟩ := z
    obtain ⟨as, k, r, e, z1⟩ := lookI hp s' z
    refine ⟨_, k, e, z1, fun g1 => wpAny_mono (turnI hD h sb pr r rx i g1 s' z) (fun r s2 q2 => ?_) fun _ _ x => x⟩
    obtain ⟨rfl, q2⟩ := q2
    refine ⟨fun t => ⟨q2, fun j hj => ?_⟩, fun t => ⟨q2, i, by omega, t⟩⟩
    by_cases hji : j = i
    · rw [hji]; exact t
    · exact hf j (by omega)
  · have := q s' z.1
    rw [anyF_false z.2] at this
    exact this
  · obtain ⟨z, j, hj, e⟩ := z
    have := q s' z
    rw [anyF_true hj e] at this
    exact this
def rInB (neg : Bool) (D : BEq2) : R2 := fun x y H Q => ∃ (p : Addr) (xs : List V) (f : Nat → Bool), y = .ref p ∧ H p = some (.lst xs) ∧ ItsB D xs x f H ∧ ∀ H', Ext H H' → Q (.bl (neg ^^ anyF xs.length f)) H'
theorem op_inB (hD : MonB D) (h : EqB X n D) (hr : Room (n + 1) X.A) : OpR X (compareOp .In) (rInB false D) := by
  intro pins s σ H x y v u Q I rx ry hq
  obtain ⟨p, xs, f, rfl, hp, pr, q⟩ := hq
  cases ry
  obtain ⟨as, m, r, e, z1⟩ := lookI hp s ⟨H, I, Ext.rfl'⟩
  show wpAny (model X.prog X.w) X.A (do return Value.bool (← contains (.ref p) v)) (EP X pins σ Q) X.xe s
  refine wpAny_bind (wpAny_contains_slot ⟨_, e, rfl⟩ PySem.F.slot_list_contains (runIn hD h ⟨hr, rfl⟩ I rx hp pr fun s' z => ?_))
  obtain ⟨H', I', ex⟩ := z
  exact wpAny_truthy_bool (wpAny_pure ⟨.bl _, H', I', rfl, by have := q H' ex; rwa [Bool.false_xor] at this⟩)
theorem op_notInB (hD : MonB D) (h : EqB X n D) (hr : Room (n + 1) X.A) : OpR X (compareOp .NotIn) (rInB true D) := by
  intro pins s σ H x y v u Q I rx ry hq
  obtain ⟨p, xs, f, rfl, hp, pr, q⟩ := hq
  cases ry
  obtain ⟨as, m, r, e, z1⟩ := lookI hp s ⟨H, I, Ext.rfl'⟩
  show wpAny (model X.prog X.w) X.A (do return Value.bool (!(← contains (.ref p) v))) (EP X pins σ Q) X.xe s
  refine wpAny_bind (wpAny_contains_slot ⟨_, e, rfl⟩ PySem.F.slot_list_contains (runIn hD h ⟨hr, rfl⟩ I rx hp pr fun s' z => ?_))
  obtain ⟨H', I', ex⟩ := z
  exact wpAny_truthy_bool (wpAny_pure ⟨.bl _, H', I', rfl, by have := q H' ex; rwa [Bool.true_xor] at this⟩)
/-- l.count(x) by own == -/
def rCountB (D : BEq2) : V → List V → Hp → VK → Prop := fun x xs H Q => ∃ (p : Addr) (ys : List V) (y : V) (f : Nat → Bool), x = .ref p ∧ xs = [y] ∧ H p = some (.lst ys) ∧ ItsB D ys y f H ∧ ∀ H', Ext H H' → Q (.int (cntF ys.length f : Nat)) H'
theorem mt_countB (hD : MonB D) (h : EqB X n D) (hr : Room (n + 1) X.A) : MtR X "list.count" (rCountB D) := by
  intro pins s σ H x xs v us Q I rx rxs hq
  obtain ⟨p, ys, y, f, rfl, rfl, hp, pr, q⟩ := hq
  cases rx
  cases rxs with
  | cons ry rt =>
    rename_i u ut
    cases rt
    obtain ⟨as, m, r, e, z1⟩ := lookI hp s ⟨H, I, Ext.rfl'⟩
    refine GQ.call_here PySem.F.slot_list_count ⟨_, e, rfl⟩ PySem.F.entry_list_count (PySem.F.args_list_count_2 _ _) ?_
    refine countB (R := wants (EP X pins σ Q) X.xe) p u ys.length (fun i c s' => LoopI X pins σ H s' ∧ c = cntF i f) (fun i c s' z => ?_) (fun c s' z => ?_) ⟨⟨H, I, Ext.rfl'⟩, rfl⟩
    · obtain ⟨z, rfl⟩ := z
      obtain ⟨as, k, r, e, z1⟩ := lookI hp s' z
      refine ⟨_, k, e, z1, fun g1 => wpAny_mono (turnI hD h ⟨hr, rfl⟩ pr r ry i g1 s' z) (fun r s2 q2 => ?_) fun _ _ x => x⟩
      obtain ⟨rfl, q2⟩ := q2
      exact ⟨q2, cntF_succ.symm⟩
    · obtain ⟨⟨H', I', ex⟩, rfl⟩ := z
      exact ⟨.int _, H', I'.tok _, ⟨_, rfl⟩, q H' ex⟩
/-- l.index(x) by own ==, where it is found -/
def rIndexB (D : BEq2) : V → List V → Hp → VK → Prop := fun x xs H Q => ∃ (p : Addr) (ys : List V) (y : V) (f : Nat → Bool) (j : Nat), x = .ref p ∧ xs = [y] ∧ H p = some (.lst ys) ∧ ItsB D ys y f H ∧ j < ys.length ∧ f j = true ∧ (∀ m, m < j → f m = false) ∧ ∀ H', Ext H H' → Q (.int (j : Nat)) H'
theorem mt_indexB (hD : MonB D) (h : EqB X n D) (hr : Room (n + 1) X.A) : MtR X "list.index" (rIndexB D) := by
  intro pins s σ H x xs v us Q I rx rxs hq
  obtain ⟨p, ys, y, f, j, rfl, rfl, hp, pr, hj, ej, nj, q⟩ := hq
  cases rx
  cases rxs with
  | cons ry rt =>
    rename_i u ut
    cases rt
    obtain ⟨hz, its, k, r, e⟩ := I.hok p _ hp
    have hsl := sizeLine_eq
    refine GQ.call_here PySem.F.slot_list_index ⟨_, e, rfl⟩ PySem.F.entry_list_index (PySem.F.args_list_index_2 _ _) ?_
    refine indexB (R := wants (EP X pins σ Q) X.xe) p u ys.length (by omega) (fun i c s' => LoopI X pins σ H s' ∧ i ≤ j) (fun i c s' z => ?_) (fun c s' z => by omega) ⟨⟨H, I, Ext.rfl'⟩, Nat.zero_le _⟩
    obtain ⟨z, hi⟩ := z
    obtain ⟨as, k, r, e, z1⟩ := lookI hp s' z
    refine ⟨_, k, e, z1, fun g1 => wpAny_mono (turnI hD h ⟨hr, rfl⟩ pr r ry i g1 s' z) (fun r s2 q2 => ?_) fun _ _ x => x⟩
    obtain ⟨rfl, q2⟩ := q2
    refine ⟨fun t => ⟨q2, ?_⟩, fun t => ?_⟩
    · have : i ≠ j := fun e => by rw [e, ej] at t; cases t
      omega
    · have ij : i = j := by
        by_cases hlt : i < j
        · rw [nj i hlt] at t; cases t
        · omega
      subst ij
      obtain ⟨H', I', ex⟩ := q2
      exact ⟨.int _, H', I'.tok _, ⟨_, rfl⟩, q H' ex⟩
end
end KA
namespace KA
open PySem PySem.Spec PyProof.Rows L2
theorem cut_full {xs : List V} {lo hi : Option Int} (h : HT.sIx xs.length 0 lo = 0 ∧ HT.sIx xs.length xs.length hi = xs.length) : cutV xs lo hi = xs := by
  unfold cutV
  rw [h.1, h.2, List.drop_zero, Nat.sub_zero, List.take_of_length_le (Nat.le_refl _)]
/-- a part of a tuple, whichever -/
theorem sla_of {K : PySem.W.Frag} {a : Addr} {xs : List V} {lo hi : Option Int} {H : Hp} {Q : VK} (ha : H a = some (.tup xs)) (q : ∀ (H' : Hp) (p : Addr), Same H H' → H' p = some (.tup (cutV xs lo hi)) → Q (.ref p) H') : rSlA K (.ref a) lo hi H Q := by
  refine ⟨a, xs, rfl, .inl (.inl ha), fun h => q H a (Same.refl _) (by rw [cut_full h]; exact ha), fun _ p hp => q _ p (same_upd hp) upd_same⟩
/-- two tuples put together, whichever -/
theorem cata_of {K : PySem.W.Frag} {a b : Addr} {xs ys : List V} {H : Hp} {Q : VK} (ha : H a = some (.tup xs)) (hb : H b = some (.tup ys)) (hl : xs.length + ys.length ≤ sizeLine) (q : ∀ (H' : Hp) (p : Addr), Same H H' → H' p = some (.tup (xs ++ ys)) → Q (.ref p) H') : rCatA K (.ref a) (.ref b) H Q := by
  refine ⟨a, b, xs, ys, rfl, rfl, .inl (.inl ha), .inl (.inl hb), hl, fun h => ?_, fun _ h => ?_, fun _ _ p hp => q _ p (same_upd hp) upd_same⟩
  · subst h
    exact q H b (Same.refl _) hb
  · subst h
    exact q H a (Same.refl _) (by rw [List.append_nil]; exact ha)
/-- .. of a tuple wherever it stands -/
theorem sla_T {K : PySem.W.Frag} {a : Addr} {xs : List V} {lo hi : Option Int} {H : Hp} {Q : VK} (ha : SqT K H a xs) (q : ∀ (H' : Hp) (p : Addr), Same H H' → SqT K H' p (cutV xs lo hi) → Q (.ref p) H') : rSlA K (.ref a) lo hi H Q := by
  refine ⟨a, xs, rfl, ha, fun h => q H a (Same.refl _) (by rw [cut_full h]; exact ha), fun _ p hp => q _ p (same_upd hp) (.inl (.inl upd_same))⟩
theorem cata_T {K : PySem.W.Frag} {a b : Addr} {xs ys : List V} {H : Hp} {Q : VK} (ha : SqT K H a xs) (hb : SqT K H b ys) (hl : xs.length + ys.length ≤ sizeLine) (q : ∀ (H' : Hp) (p : Addr), Same H H' → SqT K H' p (xs ++ ys) → Q (.ref p) H') : rCatA K (.ref a) (.ref b) H Q := by
  refine ⟨a, b, xs, ys, rfl, rfl, ha, hb, hl, fun h => ?_, fun _ h => ?_, fun _ _ p hp => q _ p (same_upd hp) (.inl (.inl upd_same))⟩
  · subst h
    exact q H b (Same.refl _) hb
  · subst h
    exact q H a (Same.refl _) (by rw [List.append_nil]; exact ha)
end KA
namespace KA
open PySem PySem.Spec PyProof.Rows L2
section
variable {X : Cx} {K' : PySem.W.Frag} {o e : Expr} {es : List Expr} {to : TE} {t : TA} {name : Str} {apos cpos : Pos} {T id : String} {r : V → List V → Hp → VK → Prop}
/-! methods and len within a block, the written part by its own name -/
theorem pe_bm0K (hK : X.K = K') (pa : PlainAttrs T) (slot : Slot T name id) (hty : typeOf (.builtin id) = pure (.type "method_descriptor")) (hm : MtR X id r) (ho : PE X o to)
    (hbase : attributeBase o name X.env (eval o X.env) = eval o X.env := by rfl) (hline : (apos.endLine == cpos.line) = true := by rfl) : PE X (.Call (.Attribute o name apos) [] [] cpos) (tBM0 K' T r to) := by
  subst hK
  exact pe_bm0 pa slot hty hm ho hbase hline
theorem pe_bmK (hK : X.K = K') (pa : PlainAttrs T) (slot : Slot T name id) (hty : typeOf (.builtin id) = pure (.type "method_descriptor")) (hm : MtR X id r) (ho : PE X o to) (ha : PA X (e :: es) t)
    (hbase : attributeBase o name X.env (eval o X.env) = eval o X.env := by rfl)
    (hfew : ((backTo cpos (starEach (e :: es) X.env)).all (fun x => !x.1) && (backToKw cpos (keywordEach [] X.env)).all (fun x => x.1.isSome)
      && decide ((e :: es).length + ([] : List Keyword).length + (if ([] : List Keyword).isEmpty then 0 else 1) < 30)) = true := by rfl)
    (hline : (apos.endLine == cpos.line) = true := by rfl) (hs : starEach (e :: es) X.env = (false, eval e X.env) :: starEach es X.env := by rfl) (hplain : (backTo cpos (starEach es X.env)).any (·.1) = false := by rfl) :
    PE X (.Call (.Attribute o name apos) (e :: es) [] cpos) (tBM K' T r to t) := by
  subst hK
  exact pe_bm pa slot hty hm ho ha hbase hfew hline hs hplain
def rLenK (K : PySem.W.Frag) : List V → Hp → VK → Prop := fun xs H Q => ∃ p ys, xs = [.ref p] ∧ (SqL K H p ys ∨ SqT K H p ys) ∧ Q (.int (ys.length : Nat)) H
theorem call_len_seqK (hK : X.K = K') : CallR X (.builtin "len") (rLenK K') := by
  subst hK
  exact call_len_seq
theorem call_list_ofK (hK : X.K = K') : CallR X (.type "list") (fun xs H Q => ∃ p ys, xs = [.ref p] ∧ (SqL K' H p ys ∨ SqT K' H p ys) ∧ ∀ l, H l = none → Q (.ref l) (upd H l (.lst ys))) := by
  subst hK
  exact call_list_of
end
end KA
namespace KA
open PySem PySem.Spec PySem.W PyProof.Rows
open AutoSeq1 (wpAny_loadPart')
section
variable {prog : Program} {w : World} {A : Around} {E : Value → Shared → Prop} {s : Shared} {K : Frag} {x C f dx : Addr} {od : Option Obj}
/-- a plain thing whose own == knows nothing of x, an instance whose class has its own == : that one is asked -/
theorem cmp_flip {T id : String} {u : Value} {Q : Value → Shared → Prop} (hu : A.units < cLine) (X : K.In s.heap) (I : InstAt s.heap x (instObj C dx) C od) (hT : s.TypeIs u T) (slot : Slot T (cmpInfo .Eq).2.1 id) (hone : oneThing? .Eq u (.ref x) = none)
    (hn : subIn K (.ref C) (.type T) = some false) (two0 : ∀ {Q : Value → Shared → Prop}, Q .notImplemented s → wpAny (model prog w) A (call (.builtin id) [u, .ref x]) Q E s)
    (hs : findIn K (.ref C) "__eq__" = some (some (.ref f))) (hf : isFn K (.ref f) = true)
    (h : wpAny (model prog w) A (call (.ref f) [.ref x, u]) (PySem.W.CmpBack Q) E s) : wpAny (model prog w) A (richCompare .Eq u (.ref x)) Q E s := by
  have one : wpAny (model prog w) A (tryCompare (.ref x) "__eq__" u) (fun r s' => ∃ v, r = some v ∧ Q v s') E s := by
    unfold tryCompare
    refine wpAny_bind (ifBound_K X I hs hf (wpAny_mono h (fun v s' hv => ?_) fun _ _ e => e))
    cases v <;> first | exact hv.elim | exact wpAny_pure ⟨_, rfl, hv⟩
  have two : wpAny (model prog w) A (tryCompare u "__eq__" (.ref x)) (fun r s' => r = none ∧ s' = s) E s := by
    unfold tryCompare
    refine wpAny_bind (wpAny_callSpecialIfBound?_slot (name := (cmpInfo .Eq).2.1) hT slot (two0 ?_))
    exact wpAny_pure ⟨rfl, rfl⟩
  unfold richCompare
  refine wpAny_holding (wpAny_bind (wpAny_cRoomFor hu ?_))
  rw [hone]
  refine wpAny_bind (wpAny_typeOf hT (wpAny_bind (I.type.here ?_)))
  refine PySem.W.KFB.if_so rfl (wpAny_bind ((looks_subIn X hn).here ?_))
  refine PySem.W.KFB.if_not rfl ?_
  refine wpAny_bind (wpAny_mono two (fun r s' z => ?_) fun _ _ e => e)
  obtain ⟨rfl, rfl⟩ := z
  refine PySem.W.KFB.if_so rfl (wpAny_bind (wpAny_mono one (fun r s' z => ?_) fun _ _ e => e))
  obtain ⟨v, rfl, hq⟩ := z
  exact wpAny_pure hq
theorem int_eq_own {i : Int} {t : Tok} {Q : Value → Shared → Prop} (hx : s.heap.get? x = some (instObj C dx)) (h : Q .notImplemented s) : wpAny (model prog w) A (call (.builtin "int.__eq__") [.int i t, .ref x]) Q E s := by
  refine wpAny_call_entry PySem.F.slot_int_eq (typeIs_int s i t) PySem.F.entry_int_eq ?_ (PySem.F.args_int_eq_2 _ _)
  unfold Builtin.«int.__eq__»
  obtain ⟨hh, gg, dd, kk, oo⟩ := s
  wp_walk using wpAny_load' hx
  exact ⟨_, rfl, h⟩
theorem bool_eq_own {b : Bool} {Q : Value → Shared → Prop} (hx : s.heap.get? x = some (instObj C dx)) (h : Q .notImplemented s) : wpAny (model prog w) A (call (.builtin "int.__eq__") [.bool b, .ref x]) Q E s := by
  refine wpAny_call_entry PySem.F.slot_bool_eq (PySem.typeIs_bool s b) PySem.F.entry_int_eq ?_ (PySem.F.args_int_eq_2 _ _)
  unfold Builtin.«int.__eq__»
  obtain ⟨hh, gg, dd, kk, oo⟩ := s
  wp_walk using wpAny_load' hx
  exact ⟨_, rfl, h⟩
theorem str_eq_own {z : Str} {t : Tok} {Q : Value → Shared → Prop} (hx : s.heap.get? x = some (instObj C dx)) (h : Q .notImplemented s) : wpAny (model prog w) A (call (.builtin "str.__eq__") [.str z t, .ref x]) Q E s := by
  refine wpAny_call_entry PySem.F.slot_str_eq (typeIs_str s z t) PySem.F.entry_str_eq ?_ (PySem.F.args_str_eq_2 _ _)
  unfold Builtin.«str.__eq__»
  obtain ⟨hh, gg, dd, kk, oo⟩ := s
  wp_walk using wpAny_load' hx
  exact ⟨_, rfl, h⟩
theorem list_eq_own {p : Addr} {Q : Value → Shared → Prop} (X : K.In s.heap) (I : InstAt s.heap x (instObj C dx) C od) (hn : subIn K (.ref C) (.type "list") = some false) (hT : s.TypeIs (.ref p) "list") (h : Q .notImplemented s) : wpAny (model prog w) A (call (.builtin "list.__eq__") [.ref p, .ref x]) Q E s := by
  refine wpAny_call_entry PySem.F.slot_list_eq hT PySem.F.entry_list_eq ?_ (PySem.F.args_list_eq_2 _ _)
  have L : Looks (model prog w) s.heap (isInstance (.ref x) (.type "list")) false := I.type.andThen (looks_subIn X hn)
  unfold Builtin.«list.__eq__»
  obtain ⟨hh, gg, dd, kk, oo⟩ := s
  wp_walk using L.here
  exact ⟨_, rfl, h⟩
theorem tup_eq_own {p : Addr} {Q : Value → Shared → Prop} (X : K.In s.heap) (I : InstAt s.heap x (instObj C dx) C od) (hn : subIn K (.ref C) (.type "tuple") = some false) (hT : s.TypeIs (.ref p) "tuple") (h : Q .notImplemented s) : wpAny (model prog w) A (call (.builtin "tuple.__eq__") [.ref p, .ref x]) Q E s := by
  refine wpAny_call_entry PySem.F.slot_tuple_eq hT PySem.F.entry_tuple_eq ?_ (PySem.F.args_tuple_eq_2 _ _)
  have L : Looks (model prog w) s.heap (isInstance (.ref x) (.type "tuple")) false := I.type.andThen (looks_subIn X hn)
  unfold Builtin.«tuple.__eq__»
  obtain ⟨hh, gg, dd, kk, oo⟩ := s
  wp_walk using L.here
  exact ⟨_, rfl, h⟩
end
end KA
namespace KA
open PySem PySem.Spec PySem.W PyProof.Rows
section
variable {prog : Program} {w : World} {A : Around} {E : Value → Shared → Prop} {s : Shared} {K : Frag} {x C f dx : Addr} {ox : Obj} {od : Option Obj} {b tb : Value}
theorem ifBound_objNe {M : Model} {args : List Value} {Q : Option Value → Shared → Prop} (X : K.In s.heap) (I : InstAt s.heap x ox C od) (hs : findIn K (.ref C) "__ne__" = some (some (.builtin "object.__ne__")))
    (h : wpAny M A (call (.builtin "object.__ne__") (.ref x :: args)) (fun v => Q (some v)) E s) : wpAny M A (callSpecialIfBound? (.ref x) "__ne__" args) Q E s := by
  simp only [callSpecialIfBound?, bindSpecialIfBound?]
  refine wpAny_holding (wpAny_bind (wpAny_bind (wpAny_bind (I.type.here ((looks_findIn X hs).here ?_)))))
  refine wpAny_bind (wpAny_askSetting (wpAny_ite ?_))
  have fin : wpAny M A (call (.builtin "object.__ne__") ([.ref x] ++ args) >>= fun v => pure (some v)) Q E s := wpAny_bind (wpAny_mono h (fun v s' h' => wpAny_pure h') fun _ _ h' => h')
  split
  · exact wpAny_bind (wpAny_of_eq (F.cmp_object.ne.bind _) (wpAny_pure (by exact fin)))
  · exact wpAny_tryCatch (wpAny_bind (wpAny_of_eq (F.cmp_object.ne.bind _) (wpAny_pure (by exact fin))))
theorem entry_objNe {Q : Fin → Shared → Prop} (hu : A.units < cLine) (X : K.In s.heap) (I : InstAt s.heap x ox C od) (hs : findIn K (.ref C) "__eq__" = some (some (.ref f))) (hf : isFn K (.ref f) = true)
    (h : wpAny (model prog w) A (call (.ref f) [.ref x, b]) (fun r s' => ∃ v, r = .bool v ∧ Q (.done (.ret (.bool (!v)))) s') E s) : wpAny (model prog w) A (Builtin.«object.__ne__» ⟨[.ref x, b], []⟩) Q E s := by
  unfold Builtin.«object.__ne__»
  repeat (first
    | with_reducible refine wpAny_cRoomFor hu ?_
    | (refine wpAny_bind (m := callSpecialIfBound? (.ref x) (Str.ofString "__eq__") [b])
        (ifBound_K X I hs hf (wpAny_mono h (fun r s' hr => by
          obtain ⟨v, rfl, hq⟩ := hr
          repeat (first | exact hq | exact wpAny_pure hq | exact wpAny_truthy_bool hq | (refine wpAny_bind (m := truthy (.bool _)) (wpAny_truthy_bool ?_)) | wp_step)) fun _ _ e => e)))
    | wp_step)
theorem ne_own {Q : Value → Shared → Prop} (hu : A.units < cLine) (hu1 : A.in1.units < cLine) (X : K.In s.heap) (I : InstAt s.heap x ox C od) (hb : Looks (model prog w) s.heap (typeOf b) tb) (hn : notFirst K C tb = true) (hm : mroIn K C (.type "object") = some true)
    (hne : findIn K (.ref C) "__ne__" = some (some (.builtin "object.__ne__"))) (hs : findIn K (.ref C) "__eq__" = some (some (.ref f))) (hf : isFn K (.ref f) = true)
    (h : wpAny (model prog w) A.in1 (call (.ref f) [.ref x, b]) (fun r s' => ∃ v, r = .bool v ∧ Q (.bool (!v)) s') E s) : wpAny (model prog w) A (richCompare .NotEq (.ref x) b) Q E s := by
  have one : wpAny (model prog w) A (tryCompare (.ref x) "__ne__" b) (fun r s' => ∃ v, r = some v ∧ Q v s') E s := by
    unfold tryCompare
    refine wpAny_bind (ifBound_objNe X I hne (wpAny_call (codeAny_call_builtin F.cmp_object.ne.plain F.cmpEntry_ne (check_slot F.cmpKind_ne F.cmpSplit_ne (I.type.andThen (looks_mroIn X hm)) (F.cmpArgs_ne _ _) (entry_objNe hu1 X I hs hf (wpAny_mono h (fun r s' hr => ?_) fun _ _ e => e))))))
    obtain ⟨v, rfl, hq⟩ := hr
    first
      | exact ⟨v, rfl, wpAny_pure ⟨_, rfl, hq⟩⟩
      | exact ⟨v, rfl, ⟨_, rfl, hq⟩⟩
  unfold richCompare
  simp only [oneThing_ref]
  refine wpAny_holding (wpAny_bind (wpAny_cRoomFor hu ?_))
  refine wpAny_bind (I.type.here (wpAny_bind (hb.here ?_)))
  split
  · rename_i q
    have e : subIn K tb (.ref C) = some false := by
      rcases Bool.or_eq_true_iff.mp hn with e | e
      · rw [beq_iff_eq.mp e] at q; simp at q
      · exact beq_iff_eq.mp e
    refine wpAny_bind ((looks_subIn X e).here ?_)
    simp only [Bool.false_eq_true, if_false]
    refine wpAny_bind (wpAny_mono one (fun r s' z => ?_) fun _ _ e => e)
    obtain ⟨v, rfl, hq⟩ := z
    exact wpAny_pure hq
  · refine wpAny_bind (wpAny_pure ?_)
    simp only [Bool.false_eq_true, if_false]
    refine wpAny_bind (wpAny_mono one (fun r s' z => ?_) fun _ _ e => e)
    obtain ⟨v, rfl, hq⟩ := z
    exact wpAny_pure hq
end
end KA
namespace KA
open PySem PySem.Spec PyProof.Rows L2
section
variable {X : Cx} {n : Nat} {CX : CXT} {C f : Addr} {fd : FuncData} {ps : List Str} {R : Addr → V → Bool → Hp → Prop} {E : XK}
/-- an instance of the class at C beside anything -/
def BOwn1 (K : PySem.W.Frag) (C : Addr) (R : Addr → V → Bool → Hp → Prop) : BEq2 := fun x y b H =>
  ∃ (a dx : Addr) (fs : List (Str × V)) (t : Value), x = .ref a ∧ H a = some (.ins C dx fs) ∧ TyX K H y t ∧ PySem.W.notFirst K C t = true ∧ R a y b H
theorem rcB_ownNe (F : FnOk X.prog X.w X.K X.mg X.base CX n f fd ps (spEqO R)) (hs : PySem.W.findIn X.K (.ref C) "__eq__" = some (some (.ref f))) (hf : PySem.W.isFn X.K (.ref f) = true) (hb : Binds X.K fd ps []) (hx : Passes CX X E)
    (hm : PySem.W.mroIn X.K C (.type "object") = some true) (hne : PySem.W.findIn X.K (.ref C) "__ne__" = some (some (.builtin "object.__ne__"))) : RcB X (n + 1) true (BOwn1 X.K C R) := by
  intro A pins s σ H x y u v b sb I rx ry d
  obtain ⟨a, dx, fs, t, rfl, ha, ty, nf, hR⟩ := d
  cases rx
  obtain ⟨mA, J, _⟩ := ins_get I.hok ha
  obtain ⟨od, J, _⟩ := J.look
  obtain ⟨Pz, Z, p, _⟩ := kit_of I ry ty
  refine ne_own (tb := t) sb.room.units0 sb.in1.room.units0 I.kIn J (Z.ty _ _ I.kIn p) nf hm hne hs hf (wpAny_mono (run_eqO F hb hx sb.in1 I ry hR) (fun r s' q => ?_) fun _ _ x => x)
  cases r with
  | bool z =>
    obtain ⟨e, q2⟩ := (show (Value.bool z = .bool b ∧ ∃ H', L2.Inv X pins σ H' s' ∧ Ext H H') from q)
    cases e
    exact ⟨b, rfl, by rw [Bool.true_xor], q2⟩
  | notImplemented => exact q.elim
  | _ => exact nomatch q.1
/-- a plain thing beside an instance: the instance is asked -/
def BFlip (K : PySem.W.Frag) (C : Addr) (R : Addr → V → Bool → Hp → Prop) : BEq2 := fun x y b H => ∃ (a dx : Addr) (fs : List (Str × V)), y = .ref a ∧ H a = some (.ins C dx fs) ∧ R a x b H ∧
  ((∃ i, x = .int i) ∨ (∃ z, x = .str z) ∨ (∃ c, x = .bl c) ∨ x = .non ∨ (∃ p xs, x = .ref p ∧ H p = some (.lst xs)) ∨ ∃ p xs, x = .ref p ∧ H p = some (.tup xs))
theorem rcB_flip (F : FnOk X.prog X.w X.K X.mg X.base CX n f fd ps (spEqO R)) (hs : PySem.W.findIn X.K (.ref C) "__eq__" = some (some (.ref f))) (hf : PySem.W.isFn X.K (.ref f) = true) (hb : Binds X.K fd ps []) (hx : Passes CX X E)
    (hn : ∀ t, t ∈ ["int", "str", "bool", "NoneType", "list", "tuple"] → PySem.W.subIn X.K (.ref C) (.type t) = some false) : RcB X n false (BFlip X.K C R) := by
  intro A pins s σ H x y u v b sb I rx ry d
  have fin : (false ^^ b) = b := Bool.false_xor b
  rw [fin]
  obtain ⟨a, dx, fs, rfl, ha, hR, hk⟩ := d
  cases ry
  obtain ⟨mA, J, _⟩ := ins_get I.hok ha
  obtain ⟨od, J, _⟩ := J.look
  have go : wpAny (model X.prog X.w) A (call (.ref f) [.ref a, u]) (PySem.W.CmpBack fun r s' => r = .bool b ∧ ∃ H', L2.Inv X pins σ H' s' ∧ Ext H H') X.xe s := run_eqO F hb hx sb I rx hR
  rcases hk with ⟨i, rfl⟩ | ⟨z, rfl⟩ | ⟨c, rfl⟩ | rfl | ⟨p, xs, rfl, hp⟩ | ⟨p, xs, rfl, hp⟩
  · obtain ⟨t, rfl⟩ := rx
    exact cmp_flip sb.room.units0 I.kIn J (PySem.typeIs_int s i t) PySem.F.slot_int_eq rfl (hn _ (by simp)) (fun h => int_eq_own J.at_ h) hs hf go
  · obtain ⟨t, rfl⟩ := rx
    exact cmp_flip sb.room.units0 I.kIn J (PySem.typeIs_str s z t) PySem.F.slot_str_eq rfl (hn _ (by simp)) (fun h => str_eq_own J.at_ h) hs hf go
  · cases rx
    exact cmp_flip sb.room.units0 I.kIn J (PySem.typeIs_bool s c) PySem.F.slot_bool_eq rfl (hn _ (by simp)) (fun h => bool_eq_own J.at_ h) hs hf go
  · cases rx
    exact cmp_none sb.room.units0 I.kIn J (hn _ (by simp)) hs hf go
  · cases rx
    obtain ⟨_, its, k, r, e⟩ := I.hok p _ hp
    exact cmp_flip sb.room.units0 I.kIn J (T := "list") ⟨_, e, rfl⟩ PySem.F.slot_list_eq rfl (hn _ (by simp)) (fun h => list_eq_own I.kIn J (hn _ (by simp)) ⟨_, e, rfl⟩ h) hs hf go
  · cases rx
    obtain ⟨its, r, ⟨o, e, ho⟩, hz⟩ := I.tuple (SqT.of hp)
    exact cmp_flip sb.room.units0 I.kIn J (T := "tuple") ⟨_, e, ho.1⟩ PySem.F.slot_tuple_eq rfl (hn _ (by simp)) (fun h => tup_eq_own I.kIn J (hn _ (by simp)) ⟨_, e, ho.1⟩ h) hs hf go
theorem RcB.or {ne : Bool} {D D' : BEq2} (h : RcB X n ne D) (h' : RcB X n ne D') : RcB X n ne (fun x y b H => D x y b H ∨ D' x y b H) := fun A pins s σ H x y u v b sb I rx ry d => d.elim (fun d => h A pins s σ H x y u v b sb I rx ry d) (fun d => h' A pins s σ H x y u v b sb I rx ry d)
end
end KA
namespace KA
open PySem PySem.Spec PyProof.Rows L2
/-- a comprehension over a list that leaves places out; what it asks may make new things -/
theorem lc_someX {K : PySem.W.Frag} {a : Addr} {xs : List V} {H : Hp} {D : Addr} (hD : H D = none) (hS : SqL K H a xs) (hl : xs.length ≤ 10000) (p : Nat → Bool) (f : Nat → V)
    {g : TG} {tt : TT} {te : TE} {vs : List Nat} {σ : L2.St} {Qd : Hp → Prop}
    (turn : ∀ (i : Nat) (x : V) (H2 : Hp) (R : V → Hp → Prop) (C : Hp → Prop), xs[i]? = some x → Same H H2 → (p i = true → ∀ H3, Same H2 H3 → R (f i) H3) → (p i = false → ∀ H3, Same H2 H3 → C H3) → g x (wipe σ vs) H2 fun σ2 H2 => wipe σ2 vs = wipe σ vs ∧ tt σ2 H2 fun b H3 => if b = true then te σ2 H3 R else C H3)
    (fin : ∀ H', Same H H' → H' D = some (.lst (((List.range xs.length).filter p).map f)) → Qd H') :
    ∃ W : Nat → Nat → Hp → Prop, (∃ m, W 0 m (upd H D (.lst []))) ∧ ∀ i m H, W i m H →
      ((Itl K a).stop i H ∧ Qd H) ∨ ((Itl K a).go i H ∧ ∃ Nx : Hp → Prop, (∀ H', Nx H' → ∃ m', m' < m ∧ W (i + 1) m' H') ∧ ∀ x H', (Itl K a).yld i H x H' → g x (wipe σ vs) H' fun σ2 H2 => wipe σ2 vs = wipe σ vs ∧ tt σ2 H2 fun b H3 =>
        if b = true then te σ2 H3 fun y H4 => ∃ acc, H4 D = some (.lst acc) ∧ acc.length < sizeLine ∧ Nx (upd H4 D (.lst (acc ++ [y]))) else Nx H3) := by
  refine lc_list (K := K) (a := a) (xs := xs) (fun i H' => Same H H' ∧ H' D = some (.lst (((List.range i).filter p).map f))) ⟨same_upd hD, upd_same⟩ (fun i H' _ h => h.1.seq hS) ?_ ?_
  · rintro i x H2 hi ⟨s2, e2⟩
    have hil : i < xs.length := (List.getElem?_eq_some_iff.mp hi).1
    refine turn i x H2 _ _ hi s2 (fun hp H3 s3 => ?_) (fun hp H3 s3 => ?_)
    · refine ⟨_, s3 _ _ e2, ?_, fun b o h => ?_, ?_⟩
      · rw [List.length_map]
        refine Nat.lt_of_le_of_lt (List.length_filter_le _ _) ?_
        rw [List.length_range]
        exact Nat.lt_of_lt_of_le (show i < 10000 by omega) (by decide)
      · rw [upd_ne (ne_of_none h hD)]
        exact s3 _ _ (s2 _ _ h)
      · rw [upd_same, List.range_succ, List.filter_append, List.map_append, List.filter_cons_of_pos hp]
        rfl
    · refine ⟨s2.trans s3, ?_⟩
      rw [s3 _ _ e2, List.range_succ, List.filter_append, List.map_append, List.filter_cons_of_neg (by rw [hp]; exact Bool.false_ne_true)]
      show _ = some (HO.lst (_ ++ []))
      rw [List.append_nil]
  · rintro H' ⟨s, e⟩
    exact fin H' s e
theorem lc_someR {n : Nat} {H : Hp} {D : Addr} (hD : H D = none) (hl : n ≤ 10000) (p : Nat → Bool) (f : Nat → V)
    {g : TG} {tt : TT} {te : TE} {vs : List Nat} {σ : L2.St} {Qd : Hp → Prop}
    (turn : ∀ (i : Nat) (H2 : Hp) (R : V → Hp → Prop) (C : Hp → Prop), i < n → Same H H2 → (p i = true → ∀ H3, Same H2 H3 → R (f i) H3) → (p i = false → ∀ H3, Same H2 H3 → C H3) → g (.int (0 + i)) (wipe σ vs) H2 fun σ2 H2 => wipe σ2 vs = wipe σ vs ∧ tt σ2 H2 fun b H3 => if b = true then te σ2 H3 R else C H3)
    (fin : ∀ H', Same H H' → H' D = some (.lst (((List.range n).filter p).map f)) → Qd H') :
    ∃ W : Nat → Nat → Hp → Prop, (∃ m, W 0 m (upd H D (.lst []))) ∧ ∀ i m H, W i m H →
      ((Itr 0 n).stop i H ∧ Qd H) ∨ ((Itr 0 n).go i H ∧ ∃ Nx : Hp → Prop, (∀ H', Nx H' → ∃ m', m' < m ∧ W (i + 1) m' H') ∧ ∀ x H', (Itr 0 n).yld i H x H' → g x (wipe σ vs) H' fun σ2 H2 => wipe σ2 vs = wipe σ vs ∧ tt σ2 H2 fun b H3 =>
        if b = true then te σ2 H3 fun y H4 => ∃ acc, H4 D = some (.lst acc) ∧ acc.length < sizeLine ∧ Nx (upd H4 D (.lst (acc ++ [y]))) else Nx H3) := by
  refine lc_range (lo := 0) (n := n) (fun i H' => Same H H' ∧ H' D = some (.lst (((List.range i).filter p).map f))) ⟨same_upd hD, upd_same⟩ ?_ ?_
  · rintro i H2 hil ⟨s2, e2⟩
    refine turn i H2 _ _ hil s2 (fun hp H3 s3 => ?_) (fun hp H3 s3 => ?_)
    · refine ⟨_, s3 _ _ e2, ?_, fun b o h => ?_, ?_⟩
      · rw [List.length_map]
        refine Nat.lt_of_le_of_lt (List.length_filter_le _ _) ?_
        rw [List.length_range]
        exact Nat.lt_of_lt_of_le (show i < 10000 by omega) (by decide)
      · rw [upd_ne (ne_of_none h hD)]
        exact s3 _ _ (s2 _ _ h)
      · rw [upd_same, List.range_succ, List.filter_append, List.map_append, List.filter_cons_of_pos hp]
        rfl
    · refine ⟨s2.trans s3, ?_⟩
      rw [s3 _ _ e2, List.range_succ, List.filter_append, List.map_append, List.filter_cons_of_neg (by rw [hp]; exact Bool.false_ne_true)]
      show _ = some (HO.lst (_ ++ []))
      rw [List.append_nil]
  · rintro H' ⟨s, e⟩
    exact fin H' s e
end KA
/-! an error that leaves a list comprehension -/
namespace KA
open PySem PySem.Spec PyProof.Rows L2
/-- what is asked where the block of a comprehension ends: an error goes on from the frame that it ran in -/
def endX (M : Model) (A : Around) (E : Value → Shared → Prop) (use : Option (Value → Sem Unit)) (Q : Value → Shared → Prop) (acc : Value) (ce : Env) (r : Result) (t : Shared) : Prop :=
  match r with
  | .ok f => compPost M A E use Q acc ce.locals (.ok f) t
  | .error x => ∃ m, t.heap.Ns ce.locals m ∧ ∀ h2, Heap.SameBut ce.locals t.heap h2 → wpAny M A (passOn "comprehension.variables-let-go" x ce : Sem Value) (fun _ _ => False) E { t with heap := h2 }
section
variable {M : Model} {A : Around} {E : Value → Shared → Prop} {s : Shared} {env : Env}
theorem comp_x {e : Expr} {scope : Scope} {pos : Pos} {mk fst : Sem Value} {g : Comprehension} {gs : List Comprehension} {cl : List (Str × Addr)} {use : Option (Value → Sem Unit)} {Q : Value → Shared → Prop}
    (h1 : clausesOf e = g :: gs) (h2 : ∀ x, foldedSetIterable g.iter env x = pure x) (h3 : closureFor scope env = pure cl) (h4 : scope.kind = .function) (h5 : ∀ x ∈ scope.names, x.2 = .local → scope.names.lookup x.1 = some .local)
    (h : wpAny M A fst (fun x t1 => wpAny M A (pyIter x) (fun it t2 => wpAny M A mk (fun acc t3 => wpAny M A (newFunctionEnv scope env.globals cl [] env.qual none .none (some env)) (fun ce t4 =>
        codeAny M A (.compStart e 0 it acc { ce with scope := relabel scope env }) (endX M A E use Q acc { ce with scope := relabel scope env }) t4) E t3) E t2) E t1) E s) :
    wpAny M A (comprehension e scope env pos mk false fst use) Q E s := by
  unfold comprehension
  rw [h3, h1]
  refine wpAny_bind (wpAny_mono h (fun x t1 k1 => ?_) fun _ _ z => z)
  refine wpAny_bind (wpAny_standAt (wpAny_bind (wpAny_of_eq (h2 x) (wpAny_bind (wpAny_holding (wpAny_mono k1 (fun it t2 k2 => ?_) fun _ _ z => z))))))
  refine wpAny_standIf (wpAny_bind (wpAny_mono k2 (fun acc t3 k3 => ?_) fun _ _ z => z))
  refine wpAny_bind (wpAny_pure (wpAny_bind (wpAny_mono k3 (fun ce t4 k4 => ?_) fun _ _ z => z)))
  dsimp only
  have own : ∀ x ∈ (scope.names.filter fun x => (x.2 == .local || x.2 == .cell) && x.1 != (".0" : Str)).reverse, x.2 = .local → Env.kindOf { ce with scope := relabel scope env } x.1 = some .local :=
    fun x hx hl => lookup_relabel_local (h5 x (List.mem_filter.mp (List.mem_reverse.mp hx)).1 hl)
  refine wpAny_holding (wpAny_bind (wpAny_attempt (wpAny_holding (wpAny_run (codeAny_mono k4 fun r t5 hr => ?_)))))
  cases r with
  | ok f =>
    cases use with
    | none =>
      obtain ⟨m, hn, hr⟩ := hr
      exact wpAny_bind (wpAny_holding (wpAny_comp_letGo (cenv := { ce with scope := relabel scope env }) h4 _ t5 m own hn fun h' _ _ sb => wpAny_pure (hr h' sb)))
    | some u =>
      refine wpAny_bind (wpAny_rule (wpAny_bind (wpAny_holding (wpAny_mono hr (fun _ t6 hr6 => ?_) fun _ _ z => z))))
      obtain ⟨m, hn, hr6⟩ := hr6
      refine wpAny_bind (wpAny_comp_letGo (cenv := { ce with scope := relabel scope env }) h4 _ t6 m (fun x hx hl => ?_) hn fun h' _ _ sb => wpAny_pure (hr6 h' sb))
      rcases List.mem_append.mp hx with z | z
      · exact own x (List.mem_of_mem_drop z) hl
      · exact own x (List.mem_of_mem_take z) hl
  | error x =>
    obtain ⟨m, hn, hr⟩ := hr
    exact wpAny_bind (wpAny_holding (wpAny_comp_letGo (cenv := { ce with scope := relabel scope env }) h4 _ t5 m own hn fun h' _ _ sb => wpAny_mono (hr h' sb) (fun _ _ f => f.elim) fun _ _ z => z))
end
theorem note_same {e : Value} {a b : Env} (h : a.frame = b.frame) : noteFrame e a = noteFrame e b := by
  unfold noteFrame PySem.frameOf
  rw [h]
/-- what leaves a call within a block -/
def xeB (X : Cx) (E : XK) (bk : Cx) : Value → Shared → Prop := fun u t => ∃ (pins : List (Addr × Obj)) (σ : L2.St) (H1 : Hp) (t1 : Shared), L2.Inv bk pins σ H1 t1 ∧ L2.CX X.prog X.w X.stack H1 t1 E u t
abbrev blkE (X : Cx) (E : XK) (s : Shared) (H : Hp) (scope : Scope) (ce : Env) (fp : List Addr) : Cx := (X.blk s H scope ce fp).wish (xeB X E (X.blk s H scope ce fp))
theorem frames_but {h h2 B B2 : Heap} {C : Addr} (sb : Heap.SameBut C h h2) (hB : ∀ b, B.get? b = none → B2.get? b = none) : ∀ {l : List Env}, C ∉ frs l → h.FunFrames B l → h2.FunFrames B2 l
  | [], _, _ => trivial
  | e :: l, hC, hl => by
    obtain ⟨hk, ⟨L, o, hf, hn, ho, hd⟩, hr⟩ := hl
    have m : L ∈ frs (e :: l) := List.mem_filterMap.mpr ⟨e, List.mem_cons_self, hf⟩
    refine ⟨hk, ⟨L, o, hf, hB L hn, (sb.2 L (fun z => hC (by rw [← z]; exact m))).trans ho, hd⟩, frames_but sb hB (fun z => hC ?_) hr⟩
    obtain ⟨e', he', q⟩ := List.mem_filterMap.mp z
    exact List.mem_filterMap.mpr ⟨e', List.mem_cons_of_mem _ he', q⟩
theorem ns_slots {h h2 : Heap} {C : Addr} {m : Str → Option Value} (hn : h.Ns C m) (up : h.UpToSlots h2) : h2.Ns C m := by
  obtain ⟨o, es, ep, h1, h3, h4⟩ := hn
  obtain ⟨sl, e⟩ := up C o h1 (fun vs z => by rw [h3] at z; cases z)
  exact ⟨_, es, ep, e, h3, h4⟩
section
variable {X : Cx} {pins : List (Addr × Obj)} {σ : L2.St} {H3 : Hp} {s3 : Shared} {W : WX} {E : XK} {scope : Scope} {ce : Env} {fp : List Addr}
theorem err_out {use : Option (Value → Sem Unit)} {Qf : Value → Shared → Prop} {acc u : Value} {t : Shared} (hs : X.stack = X.env :: X.outer) (hf : X.env.frame = some X.env.locals) (tk : Takes X W) (hW : ∀ cls d H, E cls d H → W cls d σ H) (I3 : L2.Inv X pins σ H3 s3)
    (hfp : ∀ b ∈ fp, (b ∈ X.ex ∨ X.s_0.heap.objs.size ≤ b) ∧ b ≠ X.env.locals ∧ (∀ x c, X.env.cells.lookup x = some c → c ≠ b) ∧ ∀ p ∈ X.pn ++ pins, p.1 ≠ b) (cf : ce.frame = X.env.frame) (cL : ce.locals = s3.heap.objs.size) (x : xeB X E (X.blk s3 H3 scope ce fp) u t) :
    notedBy (model X.prog X.w) X.A ce (fun e t' => endX (model X.prog X.w) X.A X.xe use Qf acc ce (.error e) t') u t := by
  obtain ⟨pins1, σ1, H1, t1, I1, cx⟩ := x
  have xx : XE (X.blk s3 H3 scope ce fp) (fun cls d _ H => E cls d H) u t := XE.of_call I1 (fun _ _ _ h => h) cx
  obtain ⟨a, B, sI, pins2, σ2, H2, cls, d, rfl, I2, nb, up, sky, na, os, ag, w⟩ := xx
  obtain ⟨a', B', H', cls', d', e, fl', _⟩ := cx
  cases e
  obtain ⟨oe, vs, T, oT, ts, he, hz, hd, h1, hnT, hTe, hT, hdT, h3⟩ := fl'.2.2.2
  have fl : HandSPX.FlyingZ B X.stack a (Zc cls d) t.heap := by
    rcases sky with ⟨_, _, _, o2, v2, e2, _, d2, k2⟩ | z | z
    · rw [he] at e2
      cases e2
      rw [hd] at d2
      cases d2
      rw [h1] at k2
      cases k2
    · exact z
    · obtain ⟨o2, v2, T2, oT2, ts2, e2, _, d2, k2, _, _, e3, d3, k3⟩ := z.2.2.2
      rw [he] at e2
      cases e2
      rw [hd] at d2
      cases d2
      rw [h1] at k2
      cases k2
      rw [hT] at e3
      cases e3
      rw [hdT] at d3
      cases d3
      rw [h3] at k3
      cases k3
  have hfr : X.A.frames = some (X.env :: X.outer) := by rw [I3.ok.frames, hs]
  show wpAny _ _ (noteFrame (.ref a) ce) _ _ t
  rw [note_same cf]
  rw [hs] at fl
  refine HandSPX.looks_onZ Zc.steady hfr hf fl fun h1' held up1 => ?_
  rw [← hs] at held
  obtain ⟨m, hn, _⟩ := I2.loc
  have hn : sI.heap.Ns ce.locals m := hn
  have n1 : h1'.Ns ce.locals m := ns_slots (ns_slots hn up) up1
  refine ⟨m, n1, fun h2 sb => ?_⟩
  obtain ⟨f1, f2, f3, oe2, vs2, T2, oT2, ts2, he2, hz2, hd2, k2, nT2, Te2, hT2, dT2, k3⟩ := held
  obtain ⟨oC, es, ep, hC, dC, _⟩ := n1
  have aC : a ≠ ce.locals := fun z => by
    rw [z, hC] at he2
    cases he2
    rw [dC] at hd2
    cases hd2
  have TC : T2 ≠ ce.locals := fun z => by
    rw [z, hC] at hT2
    cases hT2
    rw [dC] at dT2
    cases dT2
  have frC : ce.locals ∉ frs X.stack := fun z => by
    obtain ⟨_, o, q, _⟩ := I3.stack.mem z
    have := Heap.lt_size q
    rw [cL] at this
    exact Nat.lt_irrefl _ this
  obtain ⟨B2, g1, g2⟩ := restrict B fun b => decide (b ≠ ce.locals)
  have gin : ∀ b o, B2.get? b = some o → B.get? b = some o ∧ b ≠ ce.locals := fun b o q => by
    by_cases z : b = ce.locals
    · rw [g2 b (by simp [z])] at q
      cases q
    · rw [g1 b (by simp [z])] at q
      exact ⟨q, z⟩
  have gno : ∀ b, B.get? b = none → B2.get? b = none := fun b q => by
    cases z : B2.get? b with
    | none => rfl
    | some o =>
      rw [(gin b o z).1] at q
      cases q
  have ea := (sb.2 a aC).trans he2
  have held2 : HandSPX.HeldZ B2 X.stack a (Zc cls d) X.env.locals h2 := ⟨fun b o q => by
      obtain ⟨q1, q2⟩ := gin b o q
      exact (sb.2 b q2).trans (f1 b o q1), gno a f2, frames_but sb gno frC f3, oe2, vs2, T2, oT2, ts2, ea, hz2, hd2, k2, gno T2 nT2, Te2, (sb.2 T2 TC).trans hT2, dT2, k3⟩
  unfold PySem.passOn
  refine wpAny_bind (wpAny_field (s := { t with heap := h2 }) ea hd2 k2 ?_)
  rw [if_neg (show ¬ ((Value.ref T2 == Value.none) = true) from by simp)]
  rw [cf, hf]
  refine wpAny_bind (HandSPX.setFlight_onZ (s := { t with heap := h2 }) held2 fun h5 held3 up3 => wpAny_throw ?_)
  obtain ⟨G, q1, q2⟩ := restrict sI.heap fun b => decide (b ≠ ce.locals)
  have qin : ∀ b o, G.get? b = some o → sI.heap.get? b = some o ∧ b ≠ ce.locals := fun b o q => by
    by_cases z : b = ce.locals
    · rw [q2 b (by simp [z])] at q
      cases q
    · rw [q1 b (by simp [z])] at q
      exact ⟨q, z⟩
  have qof : ∀ b o, b ≠ ce.locals → sI.heap.get? b = some o → G.get? b = some o := fun b o z q => by
    rw [q1 b (by simp [z])]
    exact q
  have old : ∀ b o, s3.heap.get? b = some o → b ≠ ce.locals := fun b o q z => by
    have := Heap.lt_size q
    rw [z, cL] at this
    exact Nat.lt_irrefl _ this
  have U : Un (frs X.stack) fp H3 H2 s3.heap sI.heap := I2.base
  have U2 : Un (frs X.stack) fp H3 H2 s3.heap G := ⟨fun b o e1 e2 e3 e4 => qof b o (old b o e1) (U.keep b o e1 e2 e3 e4), fun b o e1 e2 e3 e4 => by
      obtain ⟨sl, q⟩ := U.slot b o e1 e2 e3 e4
      exact ⟨sl, qof b _ (old b o e1) q⟩, U.free, fun b o e1 e2 => by
      obtain ⟨o2, q⟩ := U.there b o e1 e2
      exact ⟨o2, qof b o2 (old b o e1) q⟩, U.tups, U.frzs, U.tbls⟩
  have fC : H2 ce.locals = none := I2.free
  have hok2 : HOk X.prog X.w H2 G := fun b o q => (I2.hok b o q).stay (fun c v hc r => qof c v (fun z => by
    rcases hc with hc | hc
    · rw [← hc, z, fC] at q
      cases q
    · rw [z, fC] at hc
      cases hc) r) (fun _ r => r) fun _ _ r => r
  have J : L2.Inv X pins σ H2 { sI with heap := G } := I3.call' (ch := fp) (s' := { sI with heap := G }) I2.os U2 hok2 I2.bare hfp
  refine tk _ _ ⟨a, B2, { sI with heap := G }, pins, σ, H2, cls, d, rfl, J, fun b o q hb => ?_, fun b o q hnf => ?_, .inr (.inr held3), na, os, ag, hW _ _ _ w⟩
  · obtain ⟨p1, p2⟩ := qin b o q
    rw [g1 b (by simp [p2])]
    exact nb b o p1 hb
  · obtain ⟨p1, p2⟩ := qin b o q
    obtain ⟨sl1, p3⟩ := up b o p1 hnf
    obtain ⟨sl2, p4⟩ := up1 b _ p3 hnf
    obtain ⟨sl3, p5⟩ := up3 b _ ((sb.2 b p2).trans p4) hnf
    exact ⟨sl3, p5⟩
end
section
variable {X : Cx}
theorem lc_errs {pins : List (Addr × Obj)} {s : Shared} {σ : L2.St} {H : Hp} {Q : VK} {W : WX} {E : XK} {elt tg iter : Expr} {ifs : List Expr} {scope : Scope} {own : List (Str × Nat)} {pos pos' : Pos} {wi : TI} {g : TG} {tt : TT} {te : TE} {use : Option (Value → Sem Unit)} {Qf : Value → Shared → Prop}
    (hc : X.calm = true) (hs : X.stack = X.env :: X.outer) (hf : X.env.frame = some X.env.locals) (tk : Takes X W) (hW : ∀ cls d H, E cls d H → W cls d σ H) (hN : X.N.Nodup) (I : L2.Inv X pins σ H s) (hi : PI X tg iter wi) (ok : BlkOk X.N X.env.scope scope own)
    (hg : ∀ (s : Shared) (H : Hp) (C : Addr) (cl : List (Str × Addr)) (fp : List Addr), PG (blkE X E s H scope (compEnvC scope cl C X.env) fp) tg g) (ht : ∀ (s : Shared) (H : Hp) (C : Addr) (cl : List (Str × Addr)) (fp : List Addr), PTs (blkE X E s H scope (compEnvC scope cl C X.env) fp) ifs tt)
    (he : ∀ (s : Shared) (H : Hp) (C : Addr) (cl : List (Str × Addr)) (fp : List Addr), PE (blkE X E s H scope (compEnvC scope cl C X.env) fp) elt te) (hfs : ∀ x, foldedSetIterable iter X.env x = pure x) (h : tLc wi g tt te (own.map (·.2)) σ H Q)
    (hRR : ∀ D C t m H', L2.Inv X pins σ H' t → Q (.ref D) H' → t.heap.Ns C m → FpOk X pins H' C → compPost (model X.prog X.w) X.A X.xe use Qf (.ref D) C (.ok .next) t) :
    wpAny (model X.prog X.w) X.A (comprehension (.ListComp elt [⟨tg, iter, ifs, 0⟩] scope pos) scope X.env pos' (newList []) false (eval iter X.env) use) Qf X.xe s := by
  have cells : ∀ y ∈ scope.names, y.2 = .free → ∃ c, X.env.cells.lookup y.1 = some c := fun y hy z => (ok.free y hy z).elim (fun k => I.ok.has _ (.inl k)) (fun k => I.ok.has _ (.inr k))
  refine comp_x (use := use) rfl hfs (closure_ok cells) ok.kind (fun y hy z => by rw [ok.uniq y hy, z]) (thn (hi.run pins s σ H _ I h) fun xv t1 hx => thn hx fun itv t2 k2 => ?_)
  obtain ⟨it, fp, tn, J, H2, rfl, I2, T, st2, f2, q⟩ := k2
  refine wpAny_newObj_type (newEnv_comp ?_) (by show 0 ≤ sizeLine; decide)
  obtain ⟨D, hD⟩ : ∃ D, D = t2.heap.objs.size := ⟨_, rfl⟩
  rw [← hD]
  have fD : H2 D = none := I2.hok.fresh (Nat.le_of_eq hD.symm)
  obtain ⟨Wn, ⟨m0, w0⟩, turn⟩ := q D fD
  obtain ⟨t3, ht3⟩ : ∃ t3 : Shared, t3 = { t2 with heap := t2.heap.push { cls := .type "list", data := .seq ([] : List Value).toArray } } := ⟨_, rfl⟩
  rw [← ht3]
  have h3 : t3.heap = t2.heap.push { cls := .type "list", data := .seq ([] : List Value).toArray } := by rw [ht3]
  have I3 : L2.Inv X pins σ (upd H2 D (.lst [])) t3 := by
    rw [ht3]
    exact I2.laid (t' := t2.toks) (fun b o z => Heap.get?_push_of_some _ z) (Nat.le_of_eq hD.symm) ⟨Nat.zero_le _, [], 0, .nil, by rw [hD]; exact Heap.get?_push_size _ rfl⟩
  have small : ∀ b ∈ fp, b < t2.heap.objs.size := fun b hb => by
    obtain ⟨o, z, _⟩ := T.obj _ _ st2 b hb
    exact Heap.lt_size z
  have f3 : ∀ b ∈ fp, FpOk X pins (upd H2 D (.lst [])) b ∧ b < t3.heap.objs.size := fun b hb => by
    have hlt := small b hb
    have ne : b ≠ D := by rw [hD]; exact Nat.ne_of_lt hlt
    refine ⟨⟨by rw [upd_ne ne]; exact (f2 b hb).1, (f2 b hb).2⟩, ?_⟩
    rw [h3, Heap.size_push]
    exact Nat.lt_succ_of_lt hlt
  have st3 : tn 0 t3.heap := T.keep _ _ _ st2 fun b _ o z => by rw [h3]; exact Heap.get?_push_of_some _ z
  have I4 := block_start I3 ok hN f3
  obtain ⟨ce, hce⟩ : ∃ ce, ce = compEnvC scope (cellsFrom (t3.heap.objs.size + 1) scope.names (cloFrom X.env.cells scope.names [])) t3.heap.objs.size X.env := ⟨_, rfl⟩
  have cL : ce.locals = t3.heap.objs.size := by rw [hce]; rfl
  have cf : ce.frame = X.env.frame := by rw [hce]; rfl
  have pg : ∀ H3, PG (blkE X E t3 H3 scope ce fp) tg g := fun H3 => by rw [hce]; exact hg _ _ _ _ _
  have pt : ∀ H3, PTs (blkE X E t3 H3 scope ce fp) ifs tt := fun H3 => by rw [hce]; exact ht _ _ _ _ _
  have pe : ∀ H3, PE (blkE X E t3 H3 scope ce fp) elt te := fun H3 => by rw [hce]; exact he _ _ _ _ _
  show codeAny _ _ (.compStart (.ListComp elt [⟨tg, iter, ifs, 0⟩] scope pos) 0 (.ref it) (.ref D) (compEnvC scope (cellsFrom (t3.heap.objs.size + 1) scope.names (cloFrom X.env.cells scope.names [])) t3.heap.objs.size X.env))
    (endX (model X.prog X.w) X.A X.xe use Qf (.ref D) (compEnvC scope (cellsFrom (t3.heap.objs.size + 1) scope.names (cloFrom X.env.cells scope.names [])) t3.heap.objs.size X.env)) { t3 with heap := pushCells (t3.heap.push { cls := .type "dict", data := .dict #[] }) scope.names }
  rw [← hce] at I4 ⊢
  have nfp : ∀ b ∈ fp, (upd H2 D (.lst [])) b = none := fun b hb => (f3 b hb).1.1
  generalize upd H2 D (.lst []) = H3 at I3 I4 w0 nfp f3
  obtain ⟨t4, ht4⟩ : ∃ t4 : Shared, t4 = { t3 with heap := pushCells (t3.heap.push { cls := .type "dict", data := .dict #[] }) scope.names } := ⟨_, rfl⟩
  rw [← ht4] at I4 ⊢
  have st4 : tn 0 t4.heap := T.keep _ _ _ st3 fun b _ o z => by rw [ht4]; exact pushCells_keeps _ _ _ _ (Heap.get?_push_of_some _ z)
  have hfp : ∀ b ∈ fp, (b ∈ X.ex ∨ X.s_0.heap.objs.size ≤ b) ∧ b ≠ X.env.locals ∧ (∀ x c, X.env.cells.lookup x = some c → c ≠ b) ∧ ∀ p ∈ X.pn ++ pins, p.1 ≠ b := fun b hb => ⟨(f3 b hb).1.2.2.2.1, (f3 b hb).1.2.1, (f3 b hb).1.2.2.2.2.1, (f3 b hb).1.2.2.2.2.2⟩
  have err : ∀ {v : Value} {t : Shared}, xeB X E (X.blk t3 H3 scope ce fp) v t → notedBy (model X.prog X.w) X.A ce (fun e t' => endX (model X.prog X.w) X.A X.xe use Qf (.ref D) ce (.error e) t') v t := fun x => err_out hs hf tk hW I3 hfp cf cL x
  have go : ∀ {α : Type} {m : Sem α} {P1 P2 : α → Shared → Prop} {t : Shared}, wpAny (model X.prog X.w) X.A m P1 (xeB X E (X.blk t3 H3 scope ce fp)) t → (∀ a t, P1 a t → P2 a t) → wpAny (model X.prog X.w) X.A m P2 (notedBy (model X.prog X.w) X.A ce (fun e t' => endX (model X.prog X.w) X.A X.xe use Qf (.ref D) ce (.error e) t')) t := fun k f => wpAny_mono k f fun _ _ z => err z
  have stat : ∀ {σ' : L2.St} {H' : Hp} {t : Shared}, L2.Inv (X.blk t3 H3 scope ce fp) [] σ' H' t → (∀ b ∈ fp, H' b = none) → ∀ b ∈ fp, FpOk (X.blk t3 H3 scope ce fp) [] H' b := fun {σ' H' t} K hn b hb =>
    ⟨hn b hb, (K.ok.exf b hb).1, K.ok.exfs b hb, .inl hb, fun x c z => (K.ok.exf b hb).2 x c z, fun p hp => by simp at hp⟩
  have loop : codeAny (model X.prog X.w) X.A (.compLoop (.ListComp elt [⟨tg, iter, ifs, 0⟩] scope pos) 0 (.ref it) (.ref D) ce) (endX (model X.prog X.w) X.A X.xe use Qf (.ref D) ce) t4 := by
    refine compLoop_any (fun n t => ∃ i H', L2.Inv (X.blk t3 H3 scope ce fp) [] (wipe σ (own.map (·.2))) H' t ∧ tn i t.heap ∧ (∀ b ∈ fp, H' b = none) ∧ Wn i n H') ?_ m0 ⟨0, H3, I4, st4, nfp, w0⟩
    rintro n t5 ⟨i, H5, I5, st5, n5, w5⟩
    rcases turn i n H5 w5 with ⟨stop, fin⟩ | ⟨on, Nx, hNx, step⟩
    · refine thnF (T.done (X.blk t3 H3 scope ce fp) rfl rfl rfl hc i [] t5 _ H5 (fun _ _ => False) I5 (stat I5 n5) st5 stop) fun r t6 ⟨hr, I6⟩ => ?_
      subst hr
      have I7 : L2.Inv X pins σ H5 t6 := I3.call' (ch := fp) I6.os I6.base I6.hok I6.bare hfp
      have nC : H5 t3.heap.objs.size = none := by
        rw [← cL]
        exact I6.free
      obtain ⟨m, hn, _⟩ := I6.loc
      have hn : t6.heap.Ns ce.locals m := hn
      have z := hRR D t3.heap.objs.size t6 m H5 I7 fin (by rw [← cL]; exact hn) (I3.fpOk (Nat.le_refl _) nC)
      rw [← cL] at z
      exact z
    · refine thnF (T.item (X.blk t3 H3 scope ce fp) rfl rfl rfl hc i [] t5 _ H5 (fun _ _ => False) I5 (stat I5 n5) st5 on) fun r t6 ⟨u, hr, k6⟩ => ?_
      subst hr
      refine thnF k6 fun _ t7 ⟨x, H7, I7, r7, y7, st7, n7⟩ => ?_
      have I7' := (I7.pinned (stat I7 n7) (T.obj _ _ st7)).wish (xeB X E (X.blk t3 H3 scope ce fp))
      refine go ((pg H3).run _ t7 _ H7 x u _ I7' r7 (step x H7 y7)) fun _ t8 ⟨σ8, H8, I8, hw8, q8⟩ => ?_
      refine go ((pt H3).run _ t8 σ8 H8 _ I8 q8) fun b t9 ⟨H9, I9, q9⟩ => ?_
      have next : ∀ {t : Shared} {H' : Hp}, L2.Inv (X.blk t3 H3 scope ce fp) ([] ++ pinsAt fp t7.heap) σ8 H' t → Nx H' → ∃ m, m < n ∧ ∃ i H', L2.Inv (X.blk t3 H3 scope ce fp) [] (wipe σ (own.map (·.2))) H' t ∧ tn i t.heap ∧ (∀ b ∈ fp, H' b = none) ∧ Wn i m H' := fun {t H'} K nx => by
        obtain ⟨m', hm, w'⟩ := hNx H' nx
        have pin : ∀ b ∈ fp, ∀ o, t7.heap.get? b = some o → t.heap.get? b = some o ∧ H' b = none := fun b hb o z => by
          have y := K.pin (b, o) (List.mem_append_right _ (List.mem_append_right _ (mem_pinsAt hb z)))
          exact ⟨y.1, y.2.1⟩
        have hl : (wipe σ (own.map (·.2))).length = σ8.length := by rw [← hw8, wipe_length]
        refine ⟨m', hm, i + 1, H', (K.unpinned (pins := [])).weak hl (fun j v z => ?_), T.keep _ _ _ st7 fun b hb o z => (pin b hb o z).1, fun b hb => ?_, w'⟩
        · rw [← hw8] at z
          exact (wipe_some z).1
        · obtain ⟨o, z, _⟩ := T.obj _ _ st7 b hb
          exact (pin b hb o z).2
      cases b with
      | false => exact next I9.unwish q9
      | true =>
        refine go ((pe H3).run _ t9 σ8 H9 _ I9 q9) fun z t10 ⟨yv, H10, I10, r10, acc, hD10, hz10, nx⟩ => ?_
        exact app_ok (X := X.blk t3 H3 scope ce fp) I10.unwish hD10 hz10 r10 fun t11 I11 => next I11 nx
  exact codeAny_compStart_list loop (T.self X.A 0 _ _ _ st4 loop)
/-- [elt for target in iter if ..], where elt may let an error out: it is then W's -/
def tLcE (W : WX) (wi : TI) (g : TG) (tt : XK → TT) (te : XK → TE) (vs : List Nat) : TE := fun σ H Q => ∃ E : XK, (∀ cls d H', E cls d H' → W cls d σ H') ∧ tLc wi g (tt E) (te E) vs σ H Q
theorem pass_blk {E : XK} {s : Shared} {H : Hp} {scope : Scope} {ce : Env} {fp : List Addr} : Passes (L2.CX X.prog X.w) (blkE X E s H scope ce fp) E := fun pins σ H1 t e t' I c => ⟨pins, σ, H1, t, I.unwish, c⟩
theorem pe_lcE {W : WX} {elt tg iter : Expr} {ifs : List Expr} {scope : Scope} {own : List (Str × Nat)} {pos : Pos} {wi : TI} {g : TG} {tt : XK → TT} {te : XK → TE} (hc : X.calm = true) (hs : X.stack = X.env :: X.outer) (hf : X.env.frame = some X.env.locals) (tk : Takes X W) (hN : X.N.Nodup)
    (hi : PI X tg iter wi) (ok : BlkOk X.N X.env.scope scope own) (hg : ∀ (E : XK) (s : Shared) (H : Hp) (C : Addr) (cl : List (Str × Addr)) (fp : List Addr), PG (blkE X E s H scope (compEnvC scope cl C X.env) fp) tg g)
    (ht : ∀ (E : XK) (s : Shared) (H : Hp) (C : Addr) (cl : List (Str × Addr)) (fp : List Addr), PTs (blkE X E s H scope (compEnvC scope cl C X.env) fp) ifs (tt E)) (he : ∀ (E : XK) (s : Shared) (H : Hp) (C : Addr) (cl : List (Str × Addr)) (fp : List Addr), PE (blkE X E s H scope (compEnvC scope cl C X.env) fp) elt (te E))
    (hfs : ∀ x, foldedSetIterable iter X.env x = pure x := by intro _; rfl) : PE X (.ListComp elt [⟨tg, iter, ifs, 0⟩] scope pos) (tLcE W wi g tt te (own.map (·.2))) := by
  refine ⟨fun pins s σ H Q I h => ?_⟩
  obtain ⟨E, hE, h⟩ := h
  rw [eval_ListComp]
  refine lc_errs hc hs hf tk hE hN I hi ok (hg E) (ht E) (he E) hfs h fun D C t m H' I' q hn f => ⟨m, hn, fun h2 sb => ?_⟩
  exact ⟨.ref D, H', I'.turned (t' := t.toks) (fun b o hb z => (sb.2 b hb).trans z) f.1 f.2.1 f.2.2.2.1 f.2.2.2.2.1 f.2.2.2.2.2, rfl, q⟩
/-- name = [..] on one line -/
theorem ps_setLcE {W : WX} {i : Nat} {y : Str} {py : Pos} {elt tg iter : Expr} {ifs : List Expr} {scope : Scope} {own : List (Str × Nat)} {pos spos : Pos} {wi : TI} {g : TG} {tt : XK → TT} {te : XK → TE} (hc : X.calm = true) (hs : X.stack = X.env :: X.outer) (hf : X.env.frame = some X.env.locals) (tk : Takes X W) (hN : X.N.Nodup)
    (hy : X.N[i]? = some y) (hyl : X.env.scope.names.lookup y = some .local) (hsw : swapsWith (.ListComp elt [⟨tg, iter, ifs, 0⟩] scope pos) (some (.Name y py)) spos.line X.env = pure true)
    (hi : PI X tg iter wi) (ok : BlkOk X.N X.env.scope scope own) (hg : ∀ (E : XK) (s : Shared) (H : Hp) (C : Addr) (cl : List (Str × Addr)) (fp : List Addr), PG (blkE X E s H scope (compEnvC scope cl C X.env) fp) tg g)
    (ht : ∀ (E : XK) (s : Shared) (H : Hp) (C : Addr) (cl : List (Str × Addr)) (fp : List Addr), PTs (blkE X E s H scope (compEnvC scope cl C X.env) fp) ifs (tt E)) (he : ∀ (E : XK) (s : Shared) (H : Hp) (C : Addr) (cl : List (Str × Addr)) (fp : List Addr), PE (blkE X E s H scope (compEnvC scope cl C X.env) fp) elt (te E))
    (hfs : ∀ x, foldedSetIterable iter X.env x = pure x := by intro _; rfl) : PS X (.Assign [.Name y py] (.ListComp elt [⟨tg, iter, ifs, 0⟩] scope pos) spos) (tAsg (tLcE W wi g tt te (own.map (·.2))) (gName i)) := by
  refine ⟨fun pins s σ H D I h => ?_⟩
  obtain ⟨E, hE, h⟩ := h
  rw [exec_Assign_Name_used _ _ _ _ hsw]
  refine wpAny_bind (wpAny_standAt (wpAny_bind ?_))
  show wpAny _ X.A (do let _ ← comprehension (.ListComp elt [⟨tg, iter, ifs, 0⟩] scope pos) scope X.env (firstIterPos [⟨tg, iter, ifs, 0⟩] pos) (newList []) false (eval iter X.env) (some (assign (.Name y py) X.env))) _ _ s
  have k := lc_errs (pos := pos) (pos' := firstIterPos [⟨tg, iter, ifs, 0⟩] pos) (use := some (assign (.Name y py) X.env)) (Qf := fun _ t => SP X pins D .next t) hc hs hf tk hE hN I hi ok (hg E) (ht E) (he E) hfs h fun L C t m H' I' q hn f => ?_
  · exact wpAny_bind (thn k fun _ t hq => wpAny_pure (wpAny_pure hq))
  show wpAny _ _ (assign (.Name y py) X.env (.ref L)) _ _ _
  refine wpAny_assign_Name (store_ok2 (v := V.ref L) I' hN hy (.inl hyl) rfl (fun t2 I2 ⟨a, sb, ha⟩ => ?_) (.inr hyl))
  have ne : C ≠ a := by
    rcases ha with z | z
    · rw [z]
      exact f.2.1
    · exact fun e => f.2.2.2.2.1 y a z e.symm
  refine ⟨m, hn.sameBut sb ne, fun h3 sb3 => ?_⟩
  exact ⟨_, H', I2.turned (t' := t2.toks) (fun b o hb z => (sb3.2 b hb).trans z) f.1 f.2.1 f.2.2.2.1 f.2.2.2.2.1 f.2.2.2.2.2, q⟩
end
end KA
namespace KA
open PySem PySem.Spec PyProof.Rows L2
/-- a comprehension over a list whose values may be lists: what is known of them is kept by all but the new list -/
theorem lc_genD {K : PySem.W.Frag} {a : Addr} {xs : List V} {H : Hp} {D : Addr} (hD : H D = none) (hS : SqL K H a xs) (hl : xs.length ≤ 10000) (G : Nat → V → Hp → Prop) (hG : ∀ j v H1 H2, But D H1 H2 → G j v H1 → G j v H2)
    {g : TG} {tt : TT} {te : TE} {vs : List Nat} {σ : L2.St} {Qd : Hp → Prop}
    (turn : ∀ (i : Nat) (x : V) (H2 : Hp) (R : V → Hp → Prop) (C : Hp → Prop), xs[i]? = some x → Same H H2 → (∃ acc, H2 D = some (.lst acc)) → (∀ v H3, Same H2 H3 → G i v H3 → R v H3) → g x (wipe σ vs) H2 fun σ2 H2 => wipe σ2 vs = wipe σ vs ∧ tt σ2 H2 fun b H3 => if b = true then te σ2 H3 R else C H3)
    (fin : ∀ H' acc, Same H H' → H' D = some (.lst acc) → acc.length = xs.length → (∀ j v, acc[j]? = some v → G j v H') → Qd H') :
    ∃ W : Nat → Nat → Hp → Prop, (∃ m, W 0 m (upd H D (.lst []))) ∧ ∀ i m H, W i m H →
      ((Itl K a).stop i H ∧ Qd H) ∨ ((Itl K a).go i H ∧ ∃ Nx : Hp → Prop, (∀ H', Nx H' → ∃ m', m' < m ∧ W (i + 1) m' H') ∧ ∀ x H', (Itl K a).yld i H x H' → g x (wipe σ vs) H' fun σ2 H2 => wipe σ2 vs = wipe σ vs ∧ tt σ2 H2 fun b H3 =>
        if b = true then te σ2 H3 fun y H4 => ∃ acc, H4 D = some (.lst acc) ∧ acc.length < sizeLine ∧ Nx (upd H4 D (.lst (acc ++ [y]))) else Nx H3) := by
  refine lc_list (K := K) (a := a) (xs := xs) (fun i H' => Same H H' ∧ ∃ acc, H' D = some (.lst acc) ∧ acc.length = i ∧ ∀ j v, acc[j]? = some v → G j v H') ⟨same_upd hD, [], upd_same, rfl, fun j v h => by simp at h⟩ (fun i H' _ h => h.1.seq hS) ?_ ?_
  · rintro i x H2 hi ⟨s2, acc, e2, l2, g2⟩
    have hil : i < xs.length := (List.getElem?_eq_some_iff.mp hi).1
    refine turn i x H2 _ _ hi s2 ⟨acc, e2⟩ fun v H3 s3 hv => ?_
    have e3 := s3 _ _ e2
    refine ⟨acc, e3, ?_, fun b o h => ?_, acc ++ [v], upd_same, ?_, fun j w hj => ?_⟩
    · rw [l2]
      exact Nat.lt_of_lt_of_le (show i < 10000 by omega) (by decide)
    · rw [upd_ne (ne_of_none h hD)]
      exact s3 _ _ (s2 _ _ h)
    · rw [List.length_append, l2]
      rfl
    · refine hG j w H3 _ But.at_ ?_
      by_cases h : j < acc.length
      · rw [List.getElem?_append_left h] at hj
        exact hG j w H2 H3 (But.of s3) (g2 j w hj)
      · rw [List.getElem?_append_right (by omega)] at hj
        have : j = i := by
          have := (List.getElem?_eq_some_iff.mp hj).1
          rw [List.length_singleton] at this
          omega
        subst this
        rw [l2, Nat.sub_self] at hj
        have : v = w := Option.some.inj hj
        subst this
        exact hv
  · rintro H' ⟨s, acc, e, l, g⟩
    exact fin H' acc s e l g
end KA
namespace KA
open PySem PySem.Spec PyProof.Rows L2
/-- a comprehension over enumerate(list) that leaves places out; what it asks may make new things -/
theorem lc_enumX {K : PySem.W.Frag} {a : Addr} {xs : List V} {H : Hp} {D : Addr} (hD : H D = none) (hS : SqL K H a xs) (hl : xs.length ≤ 10000) (p : Nat → Bool) (f : Nat → V)
    {g : TG} {tt : TT} {te : TE} {vs : List Nat} {σ : L2.St} {Qd : Hp → Prop}
    (turn : ∀ (i : Nat) (x : V) (T : Addr) (H2 : Hp) (R : V → Hp → Prop) (C : Hp → Prop), xs[i]? = some x → Same H H2 → H2 T = some (.tup [.int (i : Nat), x]) → (p i = true → ∀ H3, Same H2 H3 → R (f i) H3) → (p i = false → ∀ H3, Same H2 H3 → C H3) → g (.ref T) (wipe σ vs) H2 fun σ2 H2 => wipe σ2 vs = wipe σ vs ∧ tt σ2 H2 fun b H3 => if b = true then te σ2 H3 R else C H3)
    (fin : ∀ H', Same H H' → H' D = some (.lst (((List.range xs.length).filter p).map f)) → Qd H') :
    ∃ W : Nat → Nat → Hp → Prop, (∃ m, W 0 m (upd H D (.lst []))) ∧ ∀ i m H, W i m H →
      ((Ite K a).stop i H ∧ Qd H) ∨ ((Ite K a).go i H ∧ ∃ Nx : Hp → Prop, (∀ H', Nx H' → ∃ m', m' < m ∧ W (i + 1) m' H') ∧ ∀ x H', (Ite K a).yld i H x H' → g x (wipe σ vs) H' fun σ2 H2 => wipe σ2 vs = wipe σ vs ∧ tt σ2 H2 fun b H3 =>
        if b = true then te σ2 H3 fun y H4 => ∃ acc, H4 D = some (.lst acc) ∧ acc.length < sizeLine ∧ Nx (upd H4 D (.lst (acc ++ [y]))) else Nx H3) := by
  refine lc_it (walk_enum (K := K) (a := a) (xs := xs)) (fun i H' => Same H H' ∧ H' D = some (.lst (((List.range i).filter p).map f))) ⟨same_upd hD, upd_same⟩ (fun i H' _ h => h.1.seq hS) ?_ ?_
  · rintro i x H1 H2 hi ⟨s1, e1⟩ ⟨T, u, v, rfl, nT, rfl, c1, c2⟩
    have c1 : some (V.int (i : Nat)) = some u := c1
    cases c1
    have sT := same_upd nT (o := .tup [.int (i : Nat), v])
    refine turn i v T _ _ _ c2 (s1.trans sT) upd_same (fun hp H3 s3 => ?_) (fun hp H3 s3 => ?_)
    · refine ⟨_, s3 _ _ (sT _ _ e1), ?_, fun b o h => ?_, ?_⟩
      · rw [List.length_map]
        refine Nat.lt_of_le_of_lt (List.length_filter_le _ _) ?_
        rw [List.length_range]
        exact Nat.lt_of_lt_of_le (show i < 10000 by omega) (by decide)
      · rw [upd_ne (ne_of_none h hD)]
        exact s3 _ _ (sT _ _ (s1 _ _ h))
      · rw [upd_same, List.range_succ, List.filter_append, List.map_append, List.filter_cons_of_pos hp]
        rfl
    · refine ⟨(s1.trans sT).trans s3, ?_⟩
      rw [s3 _ _ (sT _ _ e1), List.range_succ, List.filter_append, List.map_append, List.filter_cons_of_neg (by rw [hp]; exact Bool.false_ne_true)]
      show _ = some (HO.lst (_ ++ []))
      rw [List.append_nil]
  · rintro H' ⟨s, e⟩
    exact fin H' s e
end KA
/-! sorted(xs, key = own def or lambda): the keys may be new things -/
namespace KA
open PySem PySem.Spec PyProof.Rows L2
section
variable {X : Cx} {pins : List (Addr × Obj)} {σ : L2.St} {H : Hp} {s : Shared} {A : Around} {a kS : Addr} {e1 : Nat} {E : Value → Shared → Prop} {P : PySem.Fin → Shared → Prop}
/-- a list of ours that was pinned as it stood is written and known from now on -/
theorem trackL {o : Obj} {f : Obj → Obj} {its' : List Value} {n' : Nat} {ys : List V} (I : L2.Inv X ((a, o) :: pins) σ H s) (h0 : X.s_0.heap.objs.size ≤ a) (hp : ∀ p ∈ X.pn ++ pins, p.1 ≠ a) (hf : f o = seqObj "list" its'.toArray n')
    (r : Vals ys its') (hz : ys.length ≤ sizeLine) (t : Nat) : L2.Inv X pins σ (upd H a (.lst ys)) { s with heap := s.heap.update a f, toks := t } := by
  have pa := I.pin (a, o) (List.mem_append_right _ (List.mem_cons_self ..))
  have ha : s.heap.get? a = some o := pa.1
  have hn : H a = none := pa.2.1
  have I0 : L2.Inv X pins σ H s := I.pins_of fun p hq => I.pin p (List.mem_append_right _ (List.mem_cons_of_mem _ hq))
  have e : (s.heap.update a f).get? a = some (seqObj "list" its'.toArray n') := by
    rw [Heap.get?_update_self f ha (by rw [hf] <;> rfl), hf]
  have oth : ∀ b u, b ≠ a → s.heap.get? b = some u → (s.heap.update a f).get? b = some u := fun b u hb q => (Heap.get?_update_other _ _ (Ne.symm hb)).trans q
  have nt : ∀ b u, H b = some u → b ≠ a := fun b u q => ne_of_none q hn
  refine I0.step (g' := s.gens) (d' := s.drawn) (ch := [a]) (fun b hb => ?_) (fun b o' _ _ hb q _ => oth b o' (fun z => hb (by rw [z]; exact List.mem_singleton_self _)) q) (fun b o' _ _ hb q _ => ⟨o'.slots, oth b o' (fun z => hb (by rw [z]; exact List.mem_singleton_self _)) q⟩)
    (fun b o' hb q n => by rw [upd_ne (fun z => hb (by rw [z]; exact List.mem_singleton_self _))]; exact n) (fun b o' hb q => ⟨o', oth b o' (fun z => hb (by rw [z]; exact List.mem_singleton_self _)) q⟩) (fun b xs q => by rw [upd_ne (nt b _ q)]; exact q)
    (fun b o' u q => by rw [upd_ne (nt b _ q)]; exact q) (fun b ps q => ⟨#[], by rw [upd_ne (nt b _ q), q]; simp⟩) (fun m hm => ?_) (fun b u q => ?_) I0.bare
  · obtain rfl := List.mem_singleton.mp hb
    refine ⟨.inr h0, pa.2.2.1, fun x c hc z => ?_, hp⟩
    subst z
    obtain ⟨v, ob, ho, hd⟩ := I0.cell x _ hc
    rw [ha] at ho
    cases ho
    exact pa.2.2.2.2 v hd
  · obtain ⟨ob, es, ep, ho, rest⟩ := hm
    exact ⟨ob, es, ep, oth _ _ (Ne.symm pa.2.2.1) ho, rest⟩
  · by_cases hb : b = a
    · subst hb
      rw [upd_same] at q
      cases q
      exact ⟨hz, its', n', r, e⟩
    · rw [upd_ne hb] at q
      refine (I0.hok b u q).stay (fun d v hd w' => oth d v (fun z => ?_) w') (fun d w' => by rw [upd_ne (nt d _ w')]; exact w') fun d xs w' => by rw [upd_ne (nt d _ w')]; exact w'
      rcases hd with z2 | z2
      · exact hb (z2.symm.trans z)
      · exact nt d _ z2 z
/-- behind the sorting: the store of keys is emptied, the list gets its items -/
theorem tailJ {st : SortSt} {its out : List Value} {ks ys : List V} {n : Nat} (I : L2.Inv X ((a, seqObj "list" #[] e1) :: pins) σ H s) (h0 : X.s_0.heap.objs.size ≤ a) (hp : ∀ p ∈ X.pn ++ pins, p.1 ≠ a) (hk : H kS = some (.lst ks)) (nk : s.heap.get? kS = some (seqObj "list" its.toArray n))
    (hn : its.length ≤ sizeLine) (ro : Vals ys out) (hz : ys.length ≤ sizeLine) (hfl : failedOf st = none) (ho : (arrOf st).map (·.2) = out.toArray)
    (h : ∀ s', L2.Inv X pins σ (upd (upd H kS (.lst [])) a (.lst ys)) s' → P (.done (.ret .none)) s') : wpAny (model X.prog X.w) A (ksk_tail a false e1 (.ref kS) st) P E s := by
  have I1 := I.lstUpd (f := Obj.mapSeq fun _ => (#[] : Array Value)) (its' := []) hk nk (by rfl) .nil (Nat.zero_le _) s.toks
  have na1 := (I1.pin (a, seqObj "list" #[] e1) (List.mem_append_right _ (List.mem_cons_self ..))).1
  have I2 := trackL (f := Obj.mapSeq fun _ => out.toArray) (its' := out) I1 h0 hp (by rfl) ro hz s.toks
  have zo : out.toArray.size ≤ sizeLine + 1 := by rw [List.size_toArray, ← ro.length]; omega
  have zk : its.toArray.size ≤ sizeLine := by rw [List.size_toArray]; exact hn
  have all : wpAny (model X.prog X.w) A (ksk_tail a false e1 (.ref kS) st) (fun f s' => f = .done (.ret .none) ∧ L2.Inv X pins σ (upd (upd H kS (.lst [])) a (.lst ys)) s') E s := by
    unfold ksk_tail
    dsimp only
    rw [ho, hfl]
    refine wpAny_bind (listUpdate_at nk rfl (wpAny_bind (wpAny_letGo (wpAny_bind (seqEpoch_at na1 rfl (wpAny_bind (listUpdate_at na1 rfl ?_ (Nat.zero_le _) (by simpa using zo))))))) zk (Nat.zero_le _))
    simp only [bne_self_eq_false, Bool.false_eq_true, if_false]
    exact wpAny_pure ⟨rfl, I2⟩
  refine wpAny_mono all (fun f s' q => ?_) fun _ _ e => e
  obtain ⟨rfl, J⟩ := q
  exact h s' J
theorem each_dp : ∀ {ks : List V} {kz : List PyData} {us : List Value}, L2.Inv X pins σ H s → DpAll X.K H ks kz → Vals ks us → PySem.W.EachIs (fun v k => ∃ as, Reads s.heap v k as) us kz
  | [], _, _, I, h, r => by
    cases h
    cases r
    exact .nil
  | k :: ks, _, _, I, h, r => by
    cases h with
    | cons h1 h2 =>
      cases r with
      | cons r1 r2 => exact .cons (Dp.reads I _ _ _ h1 r1) (each_dp I h2 r2)
/-- the items by their keys, rising, those of one key in their order -/
noncomputable def srtV (xs : List V) (kz : List PyData) : List V := ((xs.zip kz).mergeSort (PySem.W.dataLe false fun p : V × PyData => p.2)).map Prod.fst
theorem vals_each : ∀ {us : List Value} {bs : List (V × PyData)}, PySem.W.EachIs (fun v (p : V × PyData) => RelV p.1 v) us bs → Vals (bs.map Prod.fst) us
  | _, _, .nil => .nil
  | _, _, .cons h t => .cons h (vals_each t)
theorem each_vals : ∀ {xs : List V} {us : List Value} {kz : List PyData}, Vals xs us → kz.length = xs.length → PySem.W.EachIs (fun v (p : V × PyData) => RelV p.1 v) us (xs.zip kz)
  | _, _, [], .nil, _ => .nil
  | _, _, k :: kz, .cons h t, e => .cons h (each_vals t (by simpa using e))
theorem endJ {vs its : List Value} {xs ks : List V} {kz : List PyData} {n : Nat} (I : L2.Inv X ((a, seqObj "list" #[] e1) :: pins) σ H s) (h0 : X.s_0.heap.objs.size ≤ a) (hp : ∀ p ∈ X.pn ++ pins, p.1 ≠ a) (hk : H kS = some (.lst ks)) (nk : s.heap.get? kS = some (seqObj "list" its.toArray n))
    (rk : Vals ks its) (rv : Vals xs vs) (hd : DpAll X.K H ks kz) (hlen : ks.length = xs.length) (hlz : kz.length = xs.length) (hZ : xs.length ≤ sizeLine) (hal : PySem.W.AllAlike kz) (hsk : PySem.W.Sortable kz) (hu : ∀ d, d ∈ kz → A.units + d.depth < cLine)
    (h : ∀ s', L2.Inv X pins σ (upd (upd H kS (.lst [])) a (.lst (srtV xs kz))) s' → P (.done (.ret .none)) s') : wpAny (model X.prog X.w) A (ksk_end a false vs.toArray e1 (.ref kS) its.toArray) P E s := by
  have hE := each_dp I hd rk
  have S := PySem.W.SortsAt.data (prog := X.prog) (w := X.w) (A := A) (s := s) hE hal hsk hu
  obtain ⟨kd, h1, h2⟩ := S.kind
  have lv : vs.length = xs.length := rv.length.symm
  have li : its.length = xs.length := rk.length.symm.trans hlen
  have hK : PyProof.Rows.KeysOf (PySem.W.dataKind s.heap kz) (its.toArray.zip vs.toArray) := PySem.W.keysOf_zip (by simpa using S.keys)
  have ms : (xs.zip kz).map (fun p : V × PyData => p.2) = kz := List.map_snd_zip (by omega)
  have ko : PySem.W.KeyedOut false ((xs.zip kz).map fun p : V × PyData => p.2) vs (PySem.W.sortVals (PySem.W.dataKind s.heap kz) false its vs) := by
    rw [ms]
    exact ⟨s.heap, its, hal, rfl, hE⟩
  have ro : Vals (srtV xs kz) (PySem.W.sortVals (PySem.W.dataKind s.heap kz) false its vs) := vals_each (PySem.W.keyedOut_each _ ko (each_vals rv hlz))
  have lo : (srtV xs kz).length ≤ sizeLine := by
    rw [ro.length, PySem.W.sortVals_length false (by omega), lv]
    exact hZ
  have fin : ∀ st' : SortSt, (arrOf st').Perm (its.toArray.zip vs.toArray) → SortedToK (PySem.W.dataKind s.heap kz) (arrOf st') (its.toArray.zip vs.toArray).size → Stable (PySem.W.dataKind s.heap kz) (arrOf st') (its.toArray.zip vs.toArray) →
      (arrOf st').map (·.2) = (PySem.W.sortVals (PySem.W.dataKind s.heap kz) false its vs).toArray := fun st' p1 p2 p3 => by
    have e := PySem.W.sort_out (rev := false) (keys := its.toArray) (items := vs.toArray) (xs := arrOf st') hK p1 p2 p3
    rw [if_neg Bool.false_ne_true] at e
    rw [← Array.toArray_toList (xs := (arrOf st').map _), e]
  have zs : (its.toArray.zip vs.toArray).size = xs.length := by
    rw [Array.size_zip, List.size_toArray, List.size_toArray, li, lv, Nat.min_self]
  unfold ksk_end
  dsimp only
  rw [if_neg Bool.false_ne_true]
  by_cases l2 : vs.toArray.size < 2
  · rw [if_pos l2, if_pos l2]
    refine wpAny_bind (wpAny_pure ?_)
    rw [StateT.run_pure]
    refine wpAny_bind (wpAny_pure (tailJ (st := SortSt.mk' general' (its.toArray.zip vs.toArray) #[] 7 none) I h0 hp hk nk (by omega) ro lo rfl (fin _ (Array.Perm.refl _) (fun i j hij hj => ?_) (Stable.refl _)) h))
    rw [zs] at hj
    rw [List.size_toArray] at l2
    obtain rfl : i = j := by omega
    exact KeyOrd.kle_refl _
  · rw [if_neg l2, if_neg l2]
    rw [List.size_toArray] at l2
    refine wpAny_bind (h2 (by omega) _ (wpAny_bind (wpAny_mono (PyProof.Rows.H.wpS_sortRunsSt (κ := PySem.W.dataKind s.heap kz) (kd := kd) (a₀ := its.toArray.zip vs.toArray) (st := SortSt.mk' kd (its.toArray.zip vs.toArray) #[] 7 none)
      (Q := fun _ st' => failedOf st' = none ∧ (arrOf st').map (·.2) = (PySem.W.sortVals (PySem.W.dataKind s.heap kz) false its vs).toArray) h1 hK ⟨Array.Perm.refl _, rfl, rfl⟩ rfl (Stable.refl _) (by omega) fun st' p1 p2 p3 p4 => ⟨p2, fin st' p1 p3 p4⟩) (fun r s' q => ?_) fun _ _ e => e)))
    obtain ⟨⟨⟩, st'⟩ := r
    obtain ⟨rfl, q1, q2⟩ := q
    exact tailJ I h0 hp hk nk (by omega) ro lo q1 q2 h
/-- what a key is: a whole number, a truth, a text, or a tuple of these -/
inductive KF : V → PyData → Prop
  | int (i : Int) : KF (.int i) (.int i)
  | bl (b : Bool) : KF (.bl b) (.bool b)
  | str (x : Str) : KF (.str x) (.str x)
inductive KFs : List V → List PyData → Prop
  | nil : KFs [] []
  | cons {v : V} {d : PyData} {vs : List V} {ds : List PyData} : KF v d → KFs vs ds → KFs (v :: vs) (d :: ds)
inductive KD (K : PySem.W.Frag) (H : Hp) : V → PyData → Prop
  | flat {v : V} {d : PyData} : KF v d → KD K H v d
  | tup {t : Addr} {xs : List V} {ds : List PyData} : SqT K H t xs → KFs xs ds → KD K H (.ref t) (.tuple ds)
  | deep {t t' : Addr} {xs ys : List V} {ds es : List PyData} : SqT K H t (.ref t' :: ys) → SqT K H t' xs → KFs xs ds → KFs ys es → KD K H (.ref t) (.tuple (.tuple ds :: es))
theorem KF.dp {K : PySem.W.Frag} {H : Hp} {v : V} {d : PyData} (h : KF v d) : Dp K H v d := by
  cases h
  · exact .int _
  · exact .bl _
  · exact .str _
theorem KFs.dp {K : PySem.W.Frag} {H : Hp} : ∀ {vs : List V} {ds : List PyData}, KFs vs ds → DpAll K H vs ds
  | _, _, .nil => .nil
  | _, _, .cons h t => .cons h.dp t.dp
theorem KD.dp {K : PySem.W.Frag} {H : Hp} {v : V} {d : PyData} (h : KD K H v d) : Dp K H v d := by
  cases h with
  | flat h => exact h.dp
  | tup h1 h2 => exact .tup h1 h2.dp
  | deep h1 h2 h3 h4 => exact .tup h1 (.cons (.tup h2 h3.dp) h4.dp)
inductive KDs (K : PySem.W.Frag) (H : Hp) : List V → List PyData → Prop
  | nil : KDs K H [] []
  | cons {v : V} {d : PyData} {vs : List V} {ds : List PyData} : KD K H v d → KDs K H vs ds → KDs K H (v :: vs) (d :: ds)
theorem KDs.dp {K : PySem.W.Frag} {H : Hp} : ∀ {vs : List V} {ds : List PyData}, KDs K H vs ds → DpAll K H vs ds
  | _, _, .nil => .nil
  | _, _, .cons h t => .cons h.dp t.dp
theorem KDs.snoc {K : PySem.W.Frag} {H : Hp} : ∀ {vs : List V} {ds : List PyData} {v : V} {d : PyData}, KDs K H vs ds → KD K H v d → KDs K H (vs ++ [v]) (ds ++ [d])
  | _, _, _, _, .nil, h => .cons h .nil
  | _, _, _, _, .cons k t, h => .cons k (t.snoc h)
theorem KDs.len {K : PySem.W.Frag} {H : Hp} : ∀ {vs : List V} {ds : List PyData}, KDs K H vs ds → vs.length = ds.length
  | _, _, .nil => rfl
  | _, _, .cons _ t => congrArg Nat.succ t.len
theorem sqT_nl {K : PySem.W.Frag} {H H' : Hp} {t : Addr} {xs : List V} (n : NL H H') (h : SqT K H t xs) : SqT K H' t xs := by
  rcases h with (h | ⟨o, h⟩) | h
  · exact .inl (.inl (n _ _ (fun _ z => by cases z) h))
  · exact .inl (.inr ⟨o, n _ _ (fun _ z => by cases z) h⟩)
  · exact .inr h
theorem KD.nl {K : PySem.W.Frag} {H H' : Hp} {v : V} {d : PyData} (n : NL H H') (h : KD K H v d) : KD K H' v d := by
  cases h with
  | flat h => exact .flat h
  | tup h1 h2 => exact .tup (sqT_nl n h1) h2
  | deep h1 h2 h3 h4 => exact .deep (sqT_nl n h1) (sqT_nl n h2) h3 h4
theorem KDs.nl {K : PySem.W.Frag} {H H' : Hp} (n : NL H H') : ∀ {vs : List V} {ds : List PyData}, KDs K H vs ds → KDs K H' vs ds
  | _, _, .nil => .nil
  | _, _, .cons h t => .cons (h.nl n) (t.nl n)
/-- f(x) tells the key that D says of x, and only makes things -/
def KeyB (X : Cx) (n : Nat) (f : Value) (D : V → PyData → Hp → Prop) : Prop :=
  ∀ (A : Around) (pins : List (Addr × Obj)) (s : Shared) (σ : L2.St) (H : Hp) (x : V) (u : Value) (k : PyData), Sub X n A → L2.Inv X pins σ H s → RelV x u → D x k H →
    wpAny (model X.prog X.w) A (call f [u]) (fun r s' => ∃ z H', L2.Inv X pins σ H' s' ∧ Ext H H' ∧ RelV z r ∧ KD X.K H' z k) (fun _ _ => False) s
theorem nl_lst {H : Hp} {p : Addr} {xs ys : List V} (h : H p = some (.lst xs)) : NL H (upd H p (.lst ys)) := fun b o n q => by
  rw [upd_ne]
  · exact q
  · rintro rfl
    rw [h] at q
    exact n xs (Option.some.inj q).symm
theorem restJ {H0 : Hp} {f : Value} {m : Nat} {D : V → PyData → Hp → Prop} {vs : List Value} {xs : List V} {kz : List PyData} (kb : KeyB X m f D) (sb : Sub X m A) (I : L2.Inv X ((a, seqObj "list" #[] e1) :: pins) σ H s) (h0 : X.s_0.heap.objs.size ≤ a) (hp : ∀ p ∈ X.pn ++ pins, p.1 ≠ a)
    (x0 : Ext H0 H) (n0 : H0 kS = none) (hk : H kS = some (.lst [])) (rv : Vals xs vs) (hlz : kz.length = xs.length) (hZ : xs.length < sizeLine) (hal : PySem.W.AllAlike kz) (hsk : PySem.W.Sortable kz) (hu : ∀ d, d ∈ kz → A.units + d.depth < cLine)
    (mon : ∀ x k H H', Ext H H' → D x k H → D x k H') (hD : ∀ (i : Nat) x k, xs[i]? = some x → kz[i]? = some k → D x k H0)
    (h : ∀ s' H', Ext H0 (upd H' kS (.lst [])) → H' a = none → L2.Inv X pins σ (upd (upd H' kS (.lst [])) a (.lst (srtV xs kz))) s' → P (.done (.ret .none)) s') : wpAny (model X.prog X.w) A (ksk_rest a f false vs.toArray e1 (.ref kS)) P E s := by
  have lv : vs.length = xs.length := rv.length.symm
  unfold ksk_rest
  refine wpAny_bind (wpAny_rule ?_)
  rw [List.forIn_toArray]
  refine wpAny_bind (ksk_fold (fun i s' => ∃ H' ks, L2.Inv X ((a, seqObj "list" #[] e1) :: pins) σ H' s' ∧ Ext H0 H' ∧ H' kS = some (.lst ks) ∧ KDs X.K H' ks (kz.take i)) vs 0 s ⟨H, [], I, x0, hk, by rw [List.take_zero]; exact .nil⟩ (fun j u s' hu' hJ => ?_) fun s' hJ => ?_)
  · obtain ⟨H', ks, I', x', hk', hd⟩ := hJ
    rw [Nat.zero_add] at hd ⊢
    have hj : j < xs.length := by
      have := (List.getElem?_eq_some_iff.mp hu').1
      omega
    have hx : xs[j]? = some xs[j] := List.getElem?_eq_getElem hj
    have hkj : kz[j]? = some kz[j] := List.getElem?_eq_getElem (by omega)
    have rx : RelV xs[j] u := by
      have := rv.get hx
      obtain ⟨u', q1, q2⟩ := this
      rw [hu'] at q1
      cases q1
      exact q2
    have hlk : ks.length = j := by
      have := hd.len
      rw [List.length_take] at this
      omega
    refine wpAny_bind (wpAny_attempt (wpAny_mono (kb A _ s' σ H' xs[j] u kz[j] sb I' rx (mon _ _ _ _ x' (hD j _ _ hx hkj))) (fun r s2 q => ?_) fun _ _ z => z.elim))
    obtain ⟨z, H2, I2, x2, rz, hz⟩ := q
    dsimp only
    have hk2 := x2 _ _ hk'
    obtain ⟨zz, its, n, ri, li, nk⟩ := I2.lstM hk2
    have ef : Obj.mapSeq (·.push r) (seqObj "list" its.toArray n) = seqObj "list" (its ++ [r]).toArray (if (its.toArray.push r).size == its.toArray.size then n else n + 1) := by
      rw [← List.push_toArray]
      rfl
    have I3 := I2.lstUpd (f := Obj.mapSeq (·.push r)) (its' := its ++ [r]) (ys := ks ++ [z]) hk2 nk ef (ri.append (.cons rz .nil)) (by rw [List.length_append, List.length_singleton]; omega) s2.toks
    have ex : Ext H0 (upd H2 kS (.lst (ks ++ [z]))) := fun b o q => by
      rw [upd_ne (ne_of_none q n0)]
      exact x2 _ _ (x' _ _ q)
    have tk : kz.take (j + 1) = kz.take j ++ [kz[j]] := by
      rw [List.take_add_one, hkj]
      rfl
    refine wpAny_bind (listUpdate_at nk rfl (wpAny_pure ⟨rfl, _, ks ++ [z], I3, ex, upd_same, ?_⟩) (by rw [List.size_toArray]; omega) (by rw [Array.size_push, List.size_toArray]; omega))
    rw [tk]
    exact ((hd.nl (NL.of x2)).nl (nl_lst hk2)).snoc (hz.nl (nl_lst hk2))
  · obtain ⟨H', ks, I', x', hk', hd⟩ := hJ
    rw [show kz.take (0 + vs.length) = kz from List.take_of_length_le (by omega)] at hd
    obtain ⟨zz, its, n, ri, li, nk⟩ := I'.lstM hk'
    have hlk := hd.len
    refine wpAny_bind (listItems_at nk rfl (endJ I' h0 hp hk' nk ri rv hd.dp (by omega) hlz (by omega) hal hsk hu fun s2 J => h s2 H' (fun b o q => ?_) (I'.pin _ (List.mem_append_right _ (List.mem_cons_self ..))).2.1 J))
    rw [upd_ne (ne_of_none q n0)]
    exact x' _ _ q
/-- sorted(l, key = f) -/
theorem sortedJ {f : Addr} {l : Addr} {m : Nat} {D : V → PyData → Hp → Prop} {xs : List V} {kz : List PyData} {Q : VK} (kb : KeyB X m (.ref f) D) (hr : Room (m + 2) X.A) (mon : ∀ x k H H', Ext H H' → D x k H → D x k H') (I : L2.Inv X pins σ H s) (hl : SqL X.K H l xs) (hZ : xs.length < sizeLine)
    (hlz : kz.length = xs.length) (hal : PySem.W.AllAlike kz) (hsk : PySem.W.Sortable kz) (hdep : ∀ d, d ∈ kz → d.depth ≤ 8) (hD : ∀ (i : Nat) x k, xs[i]? = some x → kz[i]? = some k → D x k H)
    (q : ∀ (H' : Hp) (p : Addr), Ext H H' → H' p = some (.lst (srtV xs kz)) → H p = none → Q (.ref p) H') : wpAny (model X.prog X.w) X.A (call (.builtin "sorted") [.ref l] [(Str.ofString "key", .ref f)]) (EP X pins σ Q) X.xe s := by
  obtain ⟨vs, rv, pl, _⟩ := I.list hl
  have lv : vs.length = xs.length := rv.length.symm
  have sb : Sub X m X.A.in1.in1 := Sub.in1 (Sub.in1 ⟨hr, rfl⟩)
  refine PySem.W.sorted_of_sort pl.isList (by omega) (ksk_s1 _ _) (fun _ => ksk_l1 _ _) fun E' => ?_
  rw [ksk_t1]
  have na := PySem.W.copyHeap_at s.heap vs
  have hlt : @LT.lt Nat _ X.env.locals s.heap.objs.size := I.lt
  have above : @LE.le Nat _ X.s_0.heap.objs.size X.env.locals := I.ok.above
  generalize ea : s.heap.objs.size + 1 = a at na ⊢
  have ga : @Eq Nat (s.heap.objs.size + 1) a := ea
  obtain ⟨e1, na1⟩ : ∃ e1, ((PySem.W.copyHeap s.heap vs).update a (Obj.mapSeq fun _ => (#[] : Array Value))).get? a = some (seqObj "list" #[] e1) := ⟨_, get?_update_seq na fun _ => #[]⟩
  have kp : ∀ b u, s.heap.get? b = some u → ((PySem.W.copyHeap s.heap vs).update a (Obj.mapSeq fun _ => (#[] : Array Value))).get? b = some u := fun b u e => by
    have : @LT.lt Nat _ b s.heap.objs.size := Heap.lt_size e
    exact (Heap.get?_update_other _ _ (Nat.ne_of_gt (show @LT.lt Nat _ b a by omega))).trans (PySem.W.copyHeap_old e)
  have sz : ((PySem.W.copyHeap s.heap vs).update a (Obj.mapSeq fun _ => (#[] : Array Value))).objs.size = (PySem.W.copyHeap s.heap vs).objs.size := Heap.size_update ..
  have big : a < (PySem.W.copyHeap s.heap vs).objs.size := Heap.lt_size na
  generalize eh : (PySem.W.copyHeap s.heap vs).update a (Obj.mapSeq fun _ => (#[] : Array Value)) = h1 at na1 kp sz
  generalize ek : (h1.push (seqObj "tuple" vs.toArray 0)).objs.size = kS
  have sk : kS = h1.objs.size + 1 := by rw [← ek, size_push']
  have nk : ((h1.push (seqObj "tuple" vs.toArray 0)).push (seqObj "list" #[] 0)).get? kS = some (seqObj "list" #[] 0) := by
    rw [← ek]
    exact Heap.get?_push_size _ rfl
  have kp2 : ∀ b u, h1.get? b = some u → ((h1.push (seqObj "tuple" vs.toArray 0)).push (seqObj "list" #[] 0)).get? b = some u := fun b u e => Heap.get?_push_of_some _ (Heap.get?_push_of_some _ e)
  have hkn : H kS = none := I.hok.fresh (by omega)
  have I1 := I.laid (t' := s.toks) (a := kS) (o := .lst []) (fun b u e => kp2 b u (kp b u e)) (by omega) ⟨Nat.zero_le _, [], 0, .nil, nk⟩
  have pa : ∀ p ∈ X.pn ++ pins, p.1 ≠ a := fun p hp z => by
    have : @LT.lt Nat _ p.1 s.heap.objs.size := Heap.lt_size (I.pin p hp).1
    rw [z] at this
    omega
  have I2 : L2.Inv X ((a, seqObj "list" #[] e1) :: pins) σ (upd H kS (.lst [])) { s with heap := (h1.push (seqObj "tuple" vs.toArray 0)).push (seqObj "list" #[] 0), toks := s.toks } := I1.pins_of fun p hp => by
    rcases List.mem_cons.mp hp with rfl | hp
    · refine ⟨kp2 _ _ na1, ?_, Nat.ne_of_gt (show @LT.lt Nat _ X.env.locals a by omega), fun z => ?_, fun v z => by cases z⟩
      · rw [upd_ne (show a ≠ kS by omega)]
        exact I.hok.fresh (by show _ ≤ a; omega)
      · exact I.nofs (show s.heap.objs.size ≤ a by omega) z
    · exact I1.pin p (List.mem_append_right _ hp)
  have ru := sb.room.units
  have fin : wpAny (model X.prog X.w) X.A.in1.in1 (ksk_rest a (.ref f) false vs.toArray e1 (.ref kS)) (fun g s' => g = .done (.ret .none) ∧ EP X pins σ Q (.ref a) s') E' { s with heap := (h1.push (seqObj "tuple" vs.toArray 0)).push (seqObj "list" #[] 0), toks := s.toks } :=
    restJ (H0 := H) kb sb I2 (by omega) pa (Ext.upd hkn) hkn upd_same rv hlz hZ hal hsk (fun d hd => by have := hdep d hd; omega) mon hD fun s' H' x hn J => ⟨rfl, .ref a, _, J, rfl, q _ a (fun b o e => ?_) upd_same (I.hok.fresh (by omega))⟩
  · unfold ksk_tree
    refine wpAny_bind (listItems_at na rfl (wpAny_bind (listUpdate_at na rfl ?_ (by rw [List.size_toArray]; omega) (Nat.zero_le _))))
    show wpAny _ _ _ _ _ { s with heap := (PySem.W.copyHeap s.heap vs).update a (Obj.mapSeq fun _ => (#[] : Array Value)) }
    rw [eh]
    refine wpAny_bind (seqEpoch_at na1 rfl (wpAny_bind (wpAny_newTuple (wpAny_bind (wpAny_newList (wpAny_holding ?_) (Nat.zero_le _))) (by show vs.length ≤ _; omega))))
    show wpAny _ _ (ksk_rest a (.ref f) false vs.toArray e1 (.ref (h1.push (seqObj "tuple" vs.toArray 0)).objs.size)) _ _ _
    rw [ek]
    exact fin
  · have : b ≠ a := ne_of_none (x b o e) (by rw [upd_ne (show a ≠ kS by omega)]; exact hn)
    rw [upd_ne this]
    exact x b o e
end
end KA
/-! sorted of tuples of three whole numbers -/
namespace KA
def lt3 (a b : Int × Int × Int) : Prop := a.1 < b.1 ∨ (a.1 = b.1 ∧ (a.2.1 < b.2.1 ∨ (a.2.1 = b.2.1 ∧ a.2.2 < b.2.2)))
instance (a b : Int × Int × Int) : Decidable (lt3 a b) := by
  unfold lt3
  exact inferInstance
end KA
namespace SrtT
open PySem PySem.Spec PyProof.Rows SrtO
section
variable {prog : Program} {w : World} {A : Around} {E : Value → Shared → Prop} {s : Shared}
abbrev Tri := Int × Int × Int
def ltB (a b : Tri) : Bool := decide (KA.lt3 a b)
def IsP3 (h : Heap) (v : Value) (x : Tri) : Prop := ∃ a o t1 t2 t3 n, v = .ref a ∧ h.get? a = some o ∧ o.cls = .type "tuple" ∧ o.data = .seq #[.int x.1 t1, .int x.2.1 t2, .int x.2.2 t3] n
theorem IsP3.keeps {h h' : Heap} {v : Value} {x : Tri} (p : IsP3 h v x) (k : ∀ b o, h.get? b = some o → o.cls = .type "tuple" → h'.get? b = some o) : IsP3 h' v x := by
  obtain ⟨a, o, t1, t2, t3, n, e, ho, hc, hd⟩ := p
  exact ⟨a, o, t1, t2, t3, n, e, k _ _ ho hc, hc, hd⟩
theorem swo_3 (k : Value → Tri) : Swo fun v u => ltB (k v) (k u) := by
  refine ⟨fun x y h => ?_, fun x y z h1 h2 => ?_⟩
  · have a := of_decide_eq_true h
    refine decide_eq_false ?_
    unfold KA.lt3 at *
    omega
  · have a := of_decide_eq_false h1
    have b := of_decide_eq_false h2
    refine decide_eq_false ?_
    unfold KA.lt3 at *
    omega
theorem p3_cmp {vs : List Value} {k : Value → Tri} (hp : ∀ v ∈ vs, IsP3 s.heap v (k v)) : Cmp prog w A s (tuples' true) (fun p => p.1 ∈ vs) (lt2 fun v u => ltB (k v) (k u)) := by
  intro p q hm hm'
  have h1 := hp _ hm
  have h2 := hp _ hm'
  show wpAny (model prog w) A (keyLt' (tuples' true) p.1 q.1) (fun r s' => s' = s ∧ r = ltB (k p.1) (k q.1)) (fun _ _ => False) s
  generalize k p.1 = x at h1 ⊢
  generalize k q.1 = x' at h2 ⊢
  obtain ⟨a, o, t1, t2, t3, n, e, ho, hc, hd⟩ := h1
  obtain ⟨a', o', u1, u2, u3, n', e', ho', hc', hd'⟩ := h2
  obtain ⟨x1, x2, x3⟩ := x
  obtain ⟨y1, y2, y3⟩ := x'
  rw [e, e']
  refine PySem.W.kat_lt ho hd ho' hd' ?_
  show PySem.W.KatLex prog w A true (decide (3 < 3)) _ [(.int x1 t1, .int y1 u1), (.int x2 t2, .int y2 u2), (.int x3 t3, .int y3 u3)] 0 s
  have eq : ltB (x1, x2, x3) (y1, y2, y3) = decide (x1 < y1 ∨ (x1 = y1 ∧ (x2 < y2 ∨ (x2 = y2 ∧ x3 < y3)))) := rfl
  rw [eq]
  refine PySem.W.kat_cons (SeqAt.EqAt.int_int x1 t1 y1 u1 prog w _ _ ?_)
  refine PySem.W.kat_go (fun e1 => ?_) (fun e1 => ?_)
  · have e1 : x1 = y1 := by simpa using e1
    refine PySem.W.kat_yes (PySem.W.kat_cons (SeqAt.EqAt.int_int x2 t2 y2 u2 prog w _ _ ?_))
    refine PySem.W.kat_go (fun e2 => ?_) (fun e2 => ?_)
    · have e2 : x2 = y2 := by simpa using e2
      refine PySem.W.kat_yes (PySem.W.kat_cons (SeqAt.EqAt.int_int x3 t3 y3 u3 prog w _ _ ?_))
      refine PySem.W.kat_go (fun e3 => ?_) (fun e3 => ?_)
      · have e3 : x3 = y3 := by simpa using e3
        exact PySem.W.kat_yes (PySem.W.kat_nil ⟨rfl, (decide_eq_false (by omega)).symm⟩)
      · refine PySem.W.kat_no ?_
        refine TS.oneLt_ints _ ?_
        refine ⟨rfl, ?_⟩
        rw [decide_eq_decide]
        omega
    · have e2 : ¬ x2 = y2 := by simpa using e2
      refine PySem.W.kat_no ?_
      refine TS.oneLt_ints _ ?_
      refine ⟨rfl, ?_⟩
      rw [decide_eq_decide]
      omega
  · have e1 : ¬ x1 = y1 := by simpa using e1
    refine PySem.W.kat_no ?_
    refine TS.oneLt_ints _ ?_
    refine ⟨rfl, ?_⟩
    rw [decide_eq_decide]
    omega
theorem firsts_3 {h : Heap} : ∀ {vs : List Value}, (∀ v ∈ vs, ∃ x, IsP3 h v x) → ∃ fs : List Value, PySem.W.KatTups h vs fs ∧ fs.length = vs.length ∧ ∀ f ∈ fs, ∃ x t, f = Value.int x t
  | [], _ => ⟨[], PySem.W.KatTups.nil, rfl, fun _ hm => by simp at hm⟩
  | v :: vs, hp => by
    obtain ⟨fs, h1, h2, h3⟩ := firsts_3 (vs := vs) fun v' hm => hp v' (List.mem_cons_of_mem _ hm)
    obtain ⟨x, a, o, t1, t2, t3, n, e, ho, hc, hd⟩ := hp v (List.mem_cons_self ..)
    subst e
    refine ⟨.int x.1 t1 :: fs, PySem.W.KatTups.cons ho hc hd rfl h1, by rw [List.length_cons, List.length_cons, h2], fun f hm => ?_⟩
    rcases List.mem_cons.mp hm with rfl | hm
    · exact ⟨x.1, t1, rfl⟩
    · exact h3 f hm
theorem sortable_3 {a : Addr} {vs : List Value} {k : Value → Tri} (h0 : 0 < vs.length) (hp : ∀ v ∈ vs, IsP3 s.heap v (k v)) (ha : ∀ o, s.heap.get? a = some o → o.cls ≠ .type "tuple") : SortableO prog w A s a vs fun v u => ltB (k v) (k u) := by
  intro h' keep
  have hp' : ∀ v ∈ vs, IsP3 h' v (k v) := fun v hm => (hp v hm).keeps fun b o e c => keep b o (fun z => by subst z; exact ha o e c) e
  obtain ⟨fs, h1, h2, h3⟩ := firsts_3 fun v hm => ⟨_, hp' v hm⟩
  refine ⟨tuples' true, fun Q E hq => ?_, p3_cmp hp'⟩
  refine PySem.W.kat_kind (T := .type "int") h1 (by omega) (fun f hm => ?_) (by rfl) ?_
  · obtain ⟨x, t, rfl⟩ := h3 f hm
    exact PySem.W.Looks.now
  · have e : (Value.type "int" != Value.type "tuple") = true := by first | decide +kernel | rfl | decide
    rw [e]
    exact hq
theorem sorted_3 {E : Value → Shared → Prop} {l : Addr} {vs : List Value} {k : Value → Tri} {Q : Value → Shared → Prop} (hl : s.heap.IsList l vs.toArray) (hz : vs.length ≤ sizeLine) (hp : ∀ v ∈ vs, IsP3 s.heap v (k v))
    (h : ∀ (h' : Heap) (d : Addr) (out : List Value), Srtd (fun v u => ltB (k v) (k u)) out → out.Perm vs → (∀ b o, s.heap.get? b = some o → h'.get? b = some o) → s.heap.objs.size ≤ d → (∃ n, h'.get? d = some (seqObj "list" out.toArray n)) → Q (.ref d) { s with heap := h' }) :
    wpAny (model prog w) A (call (.builtin "sorted") [.ref l]) Q E s := by
  refine sorted_ord (swo_3 k) hl hz (fun h2 h₁ a ha kk => ?_) fun out hs hb => ?_
  · refine sortable_3 (s := { s with heap := h₁ }) (by omega) (fun v hm => (hp v hm).keeps fun b o e _ => (kk b o e).2) fun o e => ?_
    have e' : some o = some (seqObj "list" vs.toArray 0) := e.symm.trans ha
    cases e'
    intro c
    exact absurd (Value.type.inj c) (by decide)
  · exact h _ _ out hs hb.perm (fun b o e => sortedAll_old e) (Nat.le_succ _) (sortedAll_at s.heap vs out.toArray)
end
end SrtT
namespace KA
open PySem PySem.Spec PyProof.Rows L2
def rSorted3 (K : PySem.W.Frag) : List V → Hp → VK → Prop := fun vs H Q => ∃ (a : Addr) (xs : List V) (k : V → Int × Int × Int), vs = [V.ref a] ∧ SqL K H a xs ∧ (∀ x ∈ xs, ∃ t, x = V.ref t ∧ H t = some (.tup [.int (k x).1, .int (k x).2.1, .int (k x).2.2])) ∧
  ∀ ys p, ys.Pairwise (fun x y => ¬ lt3 (k y) (k x)) → ys.Perm xs → H p = none → Q (.ref p) (upd H p (.lst ys))
section
variable {X : Cx}
theorem cr_sorted3 : CallR X (.builtin "sorted") (rSorted3 X.K) := by
  intro pins s σ H vs us Q I r h
  obtain ⟨a, xs, k, rfl, hs, hx, q⟩ := h
  obtain ⟨its, rv, hl, hz⟩ := I.list hs
  obtain ⟨u, rfl, ru⟩ := vals1 r
  obtain rfl : u = Value.ref a := ru
  obtain ⟨e1, e2⟩ := refs_back rv fun x m => by
    obtain ⟨t, e, _⟩ := hx x m
    exact ⟨t, e⟩
  have hm : ∀ v ∈ its, backV v ∈ xs := fun v hv => by
    rw [e1]
    exact List.mem_map_of_mem hv
  refine SrtT.sorted_3 (k := fun u => k (backV u)) hl.isList (by rw [← rv.length]; exact hz) (fun v hv => ?_) fun h' d out h1 h2 kp hd hn => ?_
  · obtain ⟨t, rfl⟩ := e2 v hv
    have hm : V.ref t ∈ xs := hm _ hv
    obtain ⟨t', e, ht⟩ := hx _ hm
    cases e
    obtain ⟨_, its2, r2, o, ho, hc, n, hd⟩ := I.hok _ _ ht
    cases r2 with
    | cons ra r2 =>
      obtain ⟨u1, u2, rfl, rb, rc⟩ := vals2 r2
      obtain ⟨t1, rfl⟩ := ra
      obtain ⟨t2, rfl⟩ := rb
      obtain ⟨t3, rfl⟩ := rc
      exact ⟨t, o, t1, t2, t3, n, rfl, ho, hc, hd⟩
  · have h3 : ∀ u ∈ out, ∃ a, u = Value.ref a := fun u hu => e2 u (h2.mem_iff.mp hu)
    obtain ⟨n, hn⟩ := hn
    have hb : (out.map backV).Perm xs := by
      rw [e1]
      exact h2.map backV
    refine ⟨.ref d, upd H d (.lst (out.map backV)), I.laid (t' := s.toks) kp hd ⟨?_, out, n, vals_back h3, hn⟩, rfl, q _ d ?_ hb (I.hok.fresh hd)⟩
    · rw [hb.length_eq]
      exact hz
    · exact List.pairwise_map.mpr (List.Pairwise.imp (fun {x y} h => of_decide_eq_false h) h1)
end
end KA
/-! a lambda with a parameter as a value; sorted by a def or by a lambda -/
namespace KA
open PySem PySem.Spec PyProof.Rows L2 LamX
section
variable {X : Cx} {pins : List (Addr × Obj)} {σ : L2.St} {H : Hp} {s : Shared}
/-- the lambda at f -/
def LamO (f : Addr) (q : Str) (params : Arguments) (body : Expr) (scope : Scope) (c' : Addr) : HO := .ext fun h => ∃ pm ctv, h.get? f = some (PySem.W.kla_obj "<lambda>" q params body scope [] pm c' ctv)
def tLamV (T : List (Addr × Str)) (q : Str) (params : Arguments) (body : Expr) (scope : Scope) : TE := fun σ H Q => Tabs T H ∧ ∀ (H1 : Hp) (f c' : Addr), ExtN H H1 → Tabs T H1 → H1 f = some (LamO f q params body scope c') → H1 c' = some (CodeO c' q) → Q (.ref f) H1
theorem clo_nil {cells : List (Str × Addr)} : ∀ {ns : List (Str × NameKind)} {acc : List (Str × Addr)}, (∀ y ∈ ns, y.2 ≠ .free) → cloFrom cells ns acc = acc
  | [], acc, _ => rfl
  | (n, k) :: ns, acc, h => by
    have hk : k ≠ .free := h _ (List.mem_cons_self ..)
    have := clo_nil (cells := cells) (ns := ns) (acc := acc) fun y hy => h y (List.mem_cons_of_mem _ hy)
    unfold cloFrom
    first
      | (rw [if_neg (by simpa using hk)]; exact this)
      | (simp [hk]; exact this)
theorem pe_lam1 {T : List (Addr × Str)} {c P : Addr} {params : Arguments} {body : Expr} {scope : Scope} {pos : Pos} (TB : TabB X.base X.mg c P) (hcode : X.env.code = .ref c) (hmT : (P, X.env.qual ++ "<lambda>") ∈ T) (hu : ∀ p ∈ T, p.1 = P → p.2 = X.env.qual ++ "<lambda>")
    (hdef : defaultsOf params X.env = ([], [])) (nofree : ∀ y ∈ scope.names, y.2 ≠ .free) : PE X (.Lambda params body scope pos) (tLamV T (X.env.qual ++ "<lambda>") params body scope) := by
  refine ⟨fun pins s σ H Q I h => ?_⟩
  obtain ⟨hT, h⟩ := h
  obtain ⟨ps, hP, tok, among⟩ := hT _ hmT
  have bP : s.heap.BuiltinsAt X.mg P := TB.bm.keeps I.bk
  have hP' : s.heap.get? P = some { cls := .none, data := .fields ps } := I.hok P _ hP
  have cl : closureFor scope X.env = pure [] := by
    have := closure_ok (env := X.env) (scope := scope) fun y hy e => absurd e (nofree y hy)
    rw [clo_nil nofree] at this
    exact this
  have lam : ∀ {H1 : Hp} {s' : Shared} {c' : Addr} {pm ctv : Value} {tk : Nat}, L2.Inv X pins σ H1 s' → ExtN H H1 → Tabs T H1 → H1 c' = some (CodeO c' (X.env.qual ++ "<lambda>")) →
      EP X pins σ Q (.ref s'.heap.objs.size) { s' with heap := s'.heap.push (PySem.W.kla_obj "<lambda>" (X.env.qual ++ "<lambda>") params body scope [] pm c' ctv), toks := tk } := fun {H1 s' c' pm ctv tk} J eN T1 hc => by
    have kp : ∀ b u, s'.heap.get? b = some u → (s'.heap.push (PySem.W.kla_obj "<lambda>" (X.env.qual ++ "<lambda>") params body scope [] pm c' ctv)).get? b = some u := fun b u e => Heap.get?_push_of_some _ e
    have at_ : (s'.heap.push (PySem.W.kla_obj "<lambda>" (X.env.qual ++ "<lambda>") params body scope [] pm c' ctv)).get? s'.heap.objs.size = some (PySem.W.kla_obj "<lambda>" (X.env.qual ++ "<lambda>") params body scope [] pm c' ctv) := Heap.get?_push_size _ rfl
    have hn : H1 s'.heap.objs.size = none := J.hok.fresh (Nat.le_refl _)
    have ex : Ext H1 (upd H1 s'.heap.objs.size (LamO s'.heap.objs.size (X.env.qual ++ "<lambda>") params body scope c')) := Ext.upd hn
    have J2 := J.laid (t' := tk) (a := s'.heap.objs.size) (o := LamO s'.heap.objs.size (X.env.qual ++ "<lambda>") params body scope c') kp (Nat.le_refl _) ⟨⟨pm, ctv, at_⟩, ⟨_, at_⟩, fun h1 h2 ⟨pm, ctv, e⟩ st => ⟨pm, ctv, st _ e⟩⟩
    exact ⟨.ref _, _, J2, rfl, h _ _ c' (eN.trans (ExtN.of ex)) (T1.ext ex) upd_same (ex _ _ hc)⟩
  refine PySem.W.kla_eval hdef ?_
  cases hc : codeAmong pos ps.toList with
  | some cv =>
    obtain ⟨c', rfl, hco⟩ := among pos cv hc
    refine PySem.W.kla_makeFunctionHit (mg := X.mg) (c := c) (P := P) (ps := ps) cl I.ok.glob (I.mod.glob.keeps I.bk) hcode (TB.code.keeps I.bk) hP' tok hc bP fun ctv h' tk hx hsz => ?_
    exact lam (s' := { s with heap := h', toks := tk }) (I.kept hx) (ExtN.refl H) hT hco
  | none =>
    refine PySem.W.kla_makeFunction (mg := X.mg) (c := c) (P := P) (ps := ps) cl I.ok.glob (I.mod.glob.keeps I.bk) hcode (TB.code.keeps I.bk) hP' tok hc TB.gP bP fun c' ctv h' tk hx hge hlt hrec htb => ?_
    obtain ⟨c2, oc, vs, t, e2, hoc, hd, hv⟩ := hrec
    cases e2
    have nC : H c' = none := I.hok.fresh hge
    have J := inv_table (t' := tk) (more := #[rawInt pos.line, rawInt pos.col, .ref c']) (h' := h') I hP hx htb hge ⟨oc, vs, t, hoc, hd, hv⟩
    have eN : ExtN H (upd (upd H P (.tbl (ps ++ #[rawInt pos.line, rawInt pos.col, .ref c']))) c' (CodeO c' (X.env.qual ++ "<lambda>"))) := fun b o e n => by
      have nP : b ≠ P := fun z => by
        rw [z, hP] at e
        exact n ps (Option.some.inj e).symm
      rw [upd_ne (ne_of_none e nC), upd_ne nP]
      exact e
    have toL : (ps ++ #[rawInt pos.line, rawInt pos.col, .ref c']).toList = ps.toList ++ [rawInt pos.line, rawInt pos.col, .ref c'] := by simp
    refine lam (s' := { s with heap := h', toks := tk }) J eN (fun p hp => ?_) upd_same
    by_cases hb : p.1 = P
    · rw [hu p hp hb, hb]
      refine ⟨_, by rw [upd_ne (ne_of_none hP nC), upd_same], by rw [toL]; exact PySem.TriplesOk_snoc _ _ _ _ tok, fun p' cv hcv => ?_⟩
      rw [toL] at hcv
      rcases among_app _ tok hcv with z | z
      · obtain ⟨c0, q1, q2⟩ := among p' cv z
        exact ⟨c0, q1, eN _ _ q2 codeO_ne⟩
      · exact ⟨c', z, upd_same⟩
    · obtain ⟨ps', a1, a2, a3⟩ := hT p hp
      refine ⟨ps', by rw [upd_ne (ne_of_none a1 nC), upd_ne hb]; exact a1, a2, fun p' cv hcv => ?_⟩
      obtain ⟨c0, q1, q2⟩ := a3 p' cv hcv
      exact ⟨c0, q1, eN _ _ q2 codeO_ne⟩
theorem env_sub {n : Nat} {A : Around} (sb : Sub X n A) (I : L2.Inv X pins σ H s) : Env0 X.prog X.w X.K X.mg X.base A X.stack s H := by
  have e := I.env0
  exact ⟨by rw [sb.fr]; exact e.frames, e.mod, e.bs, e.bsz, e.funs, e.frf, e.hok, e.bare⟩
/-- an own def as a key -/
theorem keyB_fn {n : Nat} {f : Addr} {fd : FuncData} {x : Str} {sp : Sp} {D : V → PyData → Hp → Prop} (F : FnOk X.prog X.w X.K X.mg X.base CX0 n f fd [x] sp) (hb : Binds X.K fd [x] []) (imp : ∀ y k H, D y k H → sp [y] H (fun z H' => Ext H H' ∧ KD X.K H' z k) E0) : KeyB X n (.ref f) D := by
  intro A pins s σ H y u k sb I ry d
  refine wpAny_call (codeAny_mono (F.run A X.stack s H ⟨[u], []⟩ [u] [y] _ E0 sb.room (env_sub sb I) (by
    have := hb s [u] I.kIn rfl
    simpa using this) (.cons ry .nil) (imp y k H d)) fun r s' hq => ?_)
  cases r with
  | error e => exact (show False from hq).elim
  | ok fl =>
    cases fl with
    | ret z =>
      obtain ⟨z, H', I', rz, ex, kd⟩ := I.after hq
      exact ⟨z, H', I', ex, rz, kd⟩
    | next => exact False.elim hq
    | brk => exact False.elim hq
    | cont => exact False.elim hq
/-- a lambda with one parameter and nothing captured as a key -/
theorem keyB_lam {n : Nat} {f c' : Addr} {q : Str} {params : Arguments} {body : Expr} {scope : Scope} {N : List Str} {a : Str} {tb : TE} {D : V → PyData → Hp → Prop} (S : FnScope N [a] scope)
    (hbind : ∀ (pm cv ctv u : Value), bindArgs (PySem.W.kla_fn "<lambda>" q params body scope [] pm cv ctv) ⟨[u], []⟩ = pure [(a, u)])
    (hbody : ∀ (A : Around) (outer : List Env) (s : Shared) (H : Hp) (cdv : Value), Room n (A.deeper (envOfC q scope s.heap.objs.size f cdv)) → PE (cxOf CX0 X.prog X.w X.K X.mg X.base N q scope f cdv A outer s H E0).nox body tb)
    (imp : ∀ y k H, D y k H → tb (L2.start N [y]) H fun z H' => Ext H H' ∧ KD X.K H' z k) : KeyB X (n + 1) (.ref f) fun y k H => H f = some (LamO f q params body scope c') ∧ H c' = some (CodeO c' q) ∧ D y k H := by
  intro A pins s σ H y u k sb I ry d
  obtain ⟨hf, hc, d⟩ := d
  obtain ⟨⟨pm, ctv, of1⟩, _, _⟩ := I.hok f _ hf
  obtain ⟨⟨oc, vs, t, hoc, hdc, hvc⟩, _, _⟩ := I.hok c' _ hc
  have e0 := env_sub sb I
  have lim : s.heap.NoLimit := e0.mod.nolimit.keeps fun b o e => (e0.bs b o e).1
  have hkind : ∀ y ∈ [a].zip [u], scope.names.lookup y.1 = some .local ∨ (scope.names.lookup y.1 = some .cell ∧ ((cellsFrom (s.heap.objs.size + 1) scope.names []).lookup y.1).isSome = true) := fun ⟨nm, v⟩ hy => by
    rcases S.par nm (List.of_mem_zip hy).1 with z | z
    · exact .inl z
    · exact .inr ⟨z, PySem.W.cellsFrom_some _ _ _ (.inl z)⟩
  have rc : codeAny (model X.prog X.w) A (.call (.ref f) ⟨[u], []⟩) (CR CX0 X.stack X.prog X.w H s (fun z H' => Ext H H' ∧ KD X.K H' z k) E0) s := by
    refine PySem.W.kla_callFunE sb.room.depth of1 rfl S.co S.gen rfl ⟨c', oc, vs, t, rfl, hoc, hdc, hvc⟩ ?_
    rw [hbind]
    refine wpAny_pure (wpAny_newFunctionEnv_cells S.kind hkind fun env he s1 x => ?_)
    subst he
    refine ⟨lim.keeps x.toInCall.keep, ?_⟩
    have J : L2.Inv (cxOf CX0 X.prog X.w X.K X.mg X.base N q scope f (.ref c') A X.stack s H E0) [] (L2.start N [y]) H s1 := inv_start (us := [u]) S sb.room.hd e0 rfl (.cons ry .nil) x
    refine PySem.W.kla_codeExpr (wpAny_mono ((hbody A X.stack s H (.ref c') (sb.room.deeper _)).nox.run [] _ _ H _ J (imp y k H d)) (fun v s' hq => ?_) fun e s' hq => hq)
    obtain ⟨w', H', J', rv, z⟩ := hq
    exact ⟨w', H', J'.os, J'.bare, J'.base, J'.hok, rv, z⟩
  refine wpAny_call (codeAny_mono rc fun r s' hq => ?_)
  cases r with
  | error e => exact (show False from hq).elim
  | ok fl =>
    cases fl with
    | ret z =>
      obtain ⟨z, H', I', rz, ex, kd⟩ := I.after hq
      exact ⟨z, H', I', ex, rz, kd⟩
    | next => exact False.elim hq
    | brk => exact False.elim hq
    | cont => exact False.elim hq
/-- sorted(l, key = f), f told by what D says of it -/
def rSortG (K : PySem.W.Frag) (D : Addr → V → PyData → Hp → Prop) : List V → List V → Hp → VK → Prop := fun vs zs H Q => ∃ (l f : Addr) (xs : List V) (kz : List PyData), vs = [.ref l] ∧ zs = [.ref f] ∧ SqL K H l xs ∧ xs.length < sizeLine ∧ kz.length = xs.length ∧ PySem.W.AllAlike kz ∧ PySem.W.Sortable kz ∧
  (∀ d, d ∈ kz → d.depth ≤ 8) ∧ (∀ (i : Nat) x k, xs[i]? = some x → kz[i]? = some k → D f x k H) ∧ ∀ (H' : Hp) (p : Addr), Ext H H' → H' p = some (.lst (srtV xs kz)) → H p = none → Q (.ref p) H'
theorem call_sortG {m : Nat} {D : Addr → V → PyData → Hp → Prop} (kb : ∀ f, KeyB X m (.ref f) (D f)) (mon : ∀ f x k H H', Ext H H' → D f x k H → D f x k H') (hr : Room (m + 2) X.A) : CallRK X (.builtin "sorted") [Str.ofString "key"] (rSortG X.K D) := by
  intro pins s σ H vs zs us ws Q I r rz h
  obtain ⟨l, f, xs, kz, rfl, rfl, hl, hZ, hlz, hal, hsk, hdp, hD, q⟩ := h
  obtain rfl := Vals.ref1 r
  obtain rfl := Vals.ref1 rz
  exact sortedJ (kb f) hr (mon f) I hl hZ hlz hal hsk hdp hD q
/-- the key is the def at A -/
def DFn (A : Addr) (D : V → PyData → Hp → Prop) : Addr → V → PyData → Hp → Prop := fun f y k H => f = A ∧ D y k H
theorem kbFn {n : Nat} {f : Addr} {fd : FuncData} {x : Str} {sp : Sp} {D : V → PyData → Hp → Prop} (F : FnOk X.prog X.w X.K X.mg X.base CX0 n f fd [x] sp) (hb : Binds X.K fd [x] []) (imp : ∀ y k H, D y k H → sp [y] H (fun z H' => Ext H H' ∧ KD X.K H' z k) E0) : ∀ g, KeyB X n (.ref g) (DFn f D g) := fun g A pins s σ H y u k sb I ry d => by
  obtain ⟨rfl, d⟩ := d
  exact keyB_fn F hb imp A pins s σ H y u k sb I ry d
theorem monFn {A : Addr} {D : V → PyData → Hp → Prop} (mon : ∀ x k H H', Ext H H' → D x k H → D x k H') : ∀ f x k H H', Ext H H' → DFn A D f x k H → DFn A D f x k H' := fun f x k H H' e d => ⟨d.1, mon x k H H' e d.2⟩
/-- the key is a lambda -/
def DLam (q : Str) (params : Arguments) (body : Expr) (scope : Scope) (D : V → PyData → Hp → Prop) : Addr → V → PyData → Hp → Prop := fun f y k H => ∃ c', H f = some (LamO f q params body scope c') ∧ H c' = some (CodeO c' q) ∧ D y k H
theorem kbLam {n : Nat} {q : Str} {params : Arguments} {body : Expr} {scope : Scope} {N : List Str} {a : Str} {tb : TE} {D : V → PyData → Hp → Prop} (S : FnScope N [a] scope)
    (hbind : ∀ (pm cv ctv u : Value), bindArgs (PySem.W.kla_fn "<lambda>" q params body scope [] pm cv ctv) ⟨[u], []⟩ = pure [(a, u)])
    (hbody : ∀ (f : Addr) (A : Around) (outer : List Env) (s : Shared) (H : Hp) (cdv : Value), Room n (A.deeper (envOfC q scope s.heap.objs.size f cdv)) → PE (cxOf CX0 X.prog X.w X.K X.mg X.base N q scope f cdv A outer s H E0).nox body tb)
    (imp : ∀ y k H, D y k H → tb (L2.start N [y]) H fun z H' => Ext H H' ∧ KD X.K H' z k) : ∀ g, KeyB X (n + 1) (.ref g) (DLam q params body scope D g) := fun g A pins s σ H y u k sb I ry d => by
  obtain ⟨c', d⟩ := d
  exact keyB_lam (c' := c') S hbind (hbody g) imp A pins s σ H y u k sb I ry d
theorem monLam {q : Str} {params : Arguments} {body : Expr} {scope : Scope} {D : V → PyData → Hp → Prop} (mon : ∀ x k H H', Ext H H' → D x k H → D x k H') : ∀ f x k H H', Ext H H' → DLam q params body scope D f x k H → DLam q params body scope D f x k H' := fun f x k H H' e d => by
  obtain ⟨c', h1, h2, h3⟩ := d
  exact ⟨c', e _ _ h1, e _ _ h2, mon x k H H' e h3⟩
/-- sorted(e, key = lambda a: body) -/
theorem pe_sortLam {T : List (Addr × Str)} {c P : Addr} {n : Nat} {params : Arguments} {body e : Expr} {scope : Scope} {N : List Str} {a : Str} {ta : TA} {tb : TE} {D : V → PyData → Hp → Prop} {p lpos kpos pos : Pos} (hg : Gl X "sorted") (hm : X.mg "sorted" = none) (he : PA X [e] ta)
    (TB : TabB X.base X.mg c P) (hcode : X.env.code = .ref c) (hmT : (P, X.env.qual ++ "<lambda>") ∈ T) (hu : ∀ p ∈ T, p.1 = P → p.2 = X.env.qual ++ "<lambda>") (S : FnScope N [a] scope)
    (hbody : ∀ (f : Addr) (A : Around) (outer : List Env) (s : Shared) (H : Hp) (cdv : Value), Room n (A.deeper (envOfC (X.env.qual ++ "<lambda>") scope s.heap.objs.size f cdv)) → PE (cxOf CX0 X.prog X.w X.K X.mg X.base N (X.env.qual ++ "<lambda>") scope f cdv A outer s H E0).nox body tb)
    (imp : ∀ y k H, D y k H → tb (L2.start N [y]) H fun z H' => Ext H H' ∧ KD X.K H' z k) (mon : ∀ x k H H', Ext H H' → D x k H → D x k H') (hr : Room (n + 3) X.A)
    (hdef : defaultsOf params X.env = ([], []) := by rfl) (hbind : ∀ (pm cv ctv u : Value), bindArgs (PySem.W.kla_fn "<lambda>" (X.env.qual ++ "<lambda>") params body scope [] pm cv ctv) ⟨[u], []⟩ = pure [(a, u)] := by intros; rfl)
    (h1 : backTo pos (starEach [e] X.env) = (false, eval e X.env) :: backTo pos (starEach [] X.env) := by rfl) (h2 : (backTo pos (starEach [e] X.env)).any (·.1) = false := by rfl) :
    PE X (.Call (.Name "sorted" p) [e] [⟨some "key", .Lambda params body scope lpos, kpos⟩] pos) (tCKw (rSortG X.K (DLam (X.env.qual ++ "<lambda>") params body scope D)) ta (tCons (tLamV T (X.env.qual ++ "<lambda>") params body scope) tNil)) :=
  pe_callBK (call_sortG (kbLam S hbind hbody imp) (monLam mon) hr) hg hm (by decide +kernel) he (pk_cons (pe_lam1 TB hcode hmT hu hdef S.nofree) pk_nil) (by decide) (by decide) h1 h2
end
/-- a def whose code object is known -/
theorem okC {P : Program} {w : World} {K : PySem.W.Frag} {mg : Str → Option Value} {base : Heap} {x qual : Str} {st : Stmt} {f : Addr} {fd : FuncData} {N ps : List Str} {k : Nat} {sp : Sp} {cv : Value} (F : Fun K x qual st f fd) (hc : fd.code = cv) (S : FnScope N ps (defScope st)) (len : ∀ vs H Q E, sp vs H Q E → vs.length = ps.length)
    (hbody : ∀ (A : Around) (outer : List Env) (s : Shared) (H : Hp) (vs : List V) (Q : VK) (E : XK), Room k (A.deeper (envOfC qual (defScope st) s.heap.objs.size f cv)) → sp vs H Q E →
      ∃ t, PSs (cxOf CX0 P w K mg base N qual (defScope st) f cv A outer s H E).nox (defBody st) t ∧ t { nx := fun _ H' => Q .non H', rt := Q } (L2.start N vs) H) : FnOk P w K mg base CX0 (k + 1) f fd ps sp := by
  obtain ⟨oc, od, kV, doc, pm, an, cdv, ct, osl, rfl, lk, hcd⟩ := F.ex
  cases hc
  refine fn_of lk hcd S len fun A outer s H vs Q E hr hsp => ?_
  obtain ⟨t, h, q⟩ := hbody A outer s H vs Q E hr hsp
  exact ⟨t, h.nox, q⟩
/-- the end of a law whose program makes lambdas -/
theorem walk_tab {l : PySem.W.OpenLaw} {n k : Nat} {q : Program} {loose : List Str} {XP : (Str → Option Value) → Heap → Prop} {YP : World → Heap → Prop} {d : DefRec} {K : Params → PySem.W.Frag} {x : Str}
    (hn : l.most = some n) (hn2 : n ≤ sizeLine) (hdf : d.params.defaults = []) (hr : Room k callerA) (hY : ∀ (w : World) (h : Heap), YP w h → (K w.params).In h)
    (F : ∀ (w : World) (mg : Str → Option Value) (fa : Addr) (h : Heap), (K w.params).In h → h.Ns mainGlobals mg → mg d.name = some (.ref fa) →
      (∀ (y : Str) (c P : Addr), ((recsOf q).find? fun e => e.name == y).isSome = true → PySem.W.tabIn (K w.params) y = some (c, P) → PySem.W.CodeHd h c P ∧ h.get? P = some { cls := .none, data := .fields #[] }) → LawAtS l w (K w.params) CX0 k n x mg fa h) :
    PySem.W.WalkO q loose XP YP l.row.toRowW d [] (fun f vs => PySem.call f vs) := by
  refine Att.attach_callB hn hdf fun w s₀ s₁ mg mb fa o pm cd doc a vs ns G Y ho hd hcd hmg hobj hints hlen hbits hg => ?_
  have KX := hY w _ Y
  obtain ⟨fd, cs, sp, hT, nT, C, hb, hsp, hF⟩ := F w mg fa _ KX G.T.g hmg fun y c P hr ht => by
    obtain ⟨dr, e⟩ := Option.isSome_iff_exists.mp hr
    exact PySem.W.tab_of G.T KX e ht
  exact law_callTs KX G.T.g G.T.b G.T.builtins G.T.nolimit hg hT nT C G.T.bmain hobj hints (Nat.le_trans hlen hn2) hr hF hb (fun H hH hS => hsp H a ns hlen hbits hH hS) fun H e s' z => z
end KA
/-! a lambda without parameters, handed to an own def that calls it -/
namespace KA
open PySem PySem.Spec PyProof.Rows L2 LamX
section
variable {X : Cx}
theorem pe_lamF {T : List (Addr × Str)} {TT : (XK → Hp → VK → Prop) → Hp → VK → Prop} {x a : Str} {g c P : Addr} {k : Nat} {st : Stmt} {fd : FuncData} {Ng : List Str} {params : Arguments} {body : Expr} {scope : Scope} {t : XK → TE} {p lpos pos : Pos}
    (hg : Gl X x) (hm : X.mg x = some (.ref g)) (F : Fun X.K x x st g fd) (hb : L2.Binds X.K fd [a] []) (Sg : FnScope Ng [a] (defScope st)) (hNg : Ng[0]? = some a) (hva : Vis (defScope st) a)
    (hG : ∀ cdv, GivesTo X Ng x (defScope st) g cdv (defBody st) a (X.env.qual ++ "<lambda>") TT)
    (TB : TabB X.base X.mg c P) (hcode : X.env.code = .ref c) (hmT : (P, X.env.qual ++ "<lambda>") ∈ T) (hu : ∀ p ∈ T, p.1 = P → p.2 = X.env.qual ++ "<lambda>") (hr : Room (k + 2) X.A) (L : LamS X.env.scope scope) (hdef : defaultsOf params X.env = ([], []))
    (hbind : ∀ (q : Str) (cl : List (Str × Addr)) (pm cv ctv : Value), bindArgs (PySem.W.kla_fn "<lambda>" q params body scope cl pm cv ctv) ⟨[], []⟩ = pure [])
    (hbody : ∀ (A : Around) (outer : List Env) (s : Shared) (H : Hp) (E : XK) (f c' : Addr), Room k (A.deeper (lamEnv X scope s.heap.objs.size f c')) → PE (lamCx X A outer s H E scope f c') body (t E))
    (hdb : (x == ("__debug__" : Str)) = false := by decide) (hd : (a == ("__debug__" : Str)) = false := by decide) (hcd : (a == ("__classdict__" : Str)) = false := by decide) :
    PE X (.Call (.Name x p) [.Lambda params body scope lpos] [] pos) (tLam T TT t) := by
  obtain ⟨oc, od, kV, doc, pm, an, cdv, ct, osl, rfl, lk, hc⟩ := F.ex
  exact pe_lamcall hg hm F.kp lk hc hb Sg hNg hva (hG cdv) TB hcode hmT hu hr L hdef hbind hbody hdb hd hcd
theorem pi_listK {K' : PySem.W.Frag} {tg e : Expr} {t : TE} (hK : X.K = K') (h : PE X e t) : PI X tg e (iList K' t) := by
  subst hK
  exact pi_list h
end
end KA
/-! loops of any body over a list or a tuple that stays: comprehensions with two clauses, comprehensions of dicts -/
namespace KA
open PySem PySem.Spec PyProof.Rows L2
theorem pi_tupK {X : Cx} {K' : PySem.W.Frag} {tg e : Expr} {t : TE} (hK : X.K = K') (h : PE X e t) : PI X tg e (iTup K' t) := hK ▸ pi_tup h
theorem call_isiB {X : Cx} {K' : PySem.W.Frag} (hK : X.K = K') : CallR X (.builtin "isinstance") (rIsi K') := hK ▸ call_isi
theorem itl_loop {K : PySem.W.Frag} {a : Addr} {xs : List V} {H1 : Hp} {B : V → Hp → (Hp → Prop) → Prop} {Qd : Hp → Prop} (Pv : Nat → Hp → Prop) (h0 : Pv 0 H1) (hl : ∀ i H, i ≤ xs.length → Pv i H → SqL K H a xs)
    (hs : ∀ i x H, xs[i]? = some x → Pv i H → B x H (Pv (i + 1))) (hd : ∀ H, Pv xs.length H → Qd H) :
    ∃ W : Nat → Nat → Hp → Prop, (∃ m, W 0 m H1) ∧ ∀ i m H, W i m H →
      ((Itl K a).stop i H ∧ Qd H) ∨ ((Itl K a).go i H ∧ ∃ Nx : Hp → Prop, (∀ H', Nx H' → ∃ m', m' < m ∧ W (i + 1) m' H') ∧ ∀ x H', (Itl K a).yld i H x H' → B x H' Nx) := by
  refine ⟨fun i m H => m = xs.length - i ∧ i ≤ xs.length ∧ Pv i H, ⟨xs.length, by simp, Nat.zero_le _, h0⟩, ?_⟩
  rintro i m H ⟨rfl, hi, p⟩
  have q := hl i H hi p
  by_cases hlt : i < xs.length
  · refine .inr ⟨⟨xs, xs[i], q, by simp [hlt]⟩, Pv (i + 1), fun H' p' => ⟨xs.length - (i + 1), by omega, rfl, hlt, p'⟩, fun x H' y => ?_⟩
    obtain ⟨e, y⟩ := y
    subst e
    exact hs i x _ (y xs q) p
  · have e : i = xs.length := by omega
    subst e
    exact .inl ⟨⟨xs, q, Nat.le_refl _⟩, hd H p⟩
theorem itt_loop {K : PySem.W.Frag} {a : Addr} {xs : List V} {H1 : Hp} {B : V → Hp → (Hp → Prop) → Prop} {Qd : Hp → Prop} (Pv : Nat → Hp → Prop) (h0 : Pv 0 H1) (hl : ∀ i H, i ≤ xs.length → Pv i H → SqT K H a xs)
    (hs : ∀ i x H, xs[i]? = some x → Pv i H → B x H (Pv (i + 1))) (hd : ∀ H, Pv xs.length H → Qd H) :
    ∃ W : Nat → Nat → Hp → Prop, (∃ m, W 0 m H1) ∧ ∀ i m H, W i m H →
      ((Itt K a).stop i H ∧ Qd H) ∨ ((Itt K a).go i H ∧ ∃ Nx : Hp → Prop, (∀ H', Nx H' → ∃ m', m' < m ∧ W (i + 1) m' H') ∧ ∀ x H', (Itt K a).yld i H x H' → B x H' Nx) := by
  refine ⟨fun i m H => m = xs.length - i ∧ i ≤ xs.length ∧ Pv i H, ⟨xs.length, by simp, Nat.zero_le _, h0⟩, ?_⟩
  rintro i m H ⟨rfl, hi, p⟩
  have q := hl i H hi p
  by_cases hlt : i < xs.length
  · refine .inr ⟨⟨xs, xs[i], q, by simp [hlt]⟩, Pv (i + 1), fun H' p' => ⟨xs.length - (i + 1), by omega, rfl, hlt, p'⟩, fun x H' y => ?_⟩
    obtain ⟨e, y⟩ := y
    subst e
    exact hs i x _ (y xs q) p
  · have e : i = xs.length := by omega
    subst e
    exact .inl ⟨⟨xs, q, Nat.le_refl _⟩, hd H p⟩
end KA
/-! y = {k: v for ..}, y a local name -/
namespace KA
open PySem PySem.Spec PyProof.Rows L2
section
variable {X : Cx}
theorem ps_setDc {i : Nat} {y : Str} {py : Pos} {kx vx tg iter : Expr} {ifs : List Expr} {scope : Scope} {own : List (Str × Nat)} {pos spos : Pos} {wi : TI} {g : TG} {tt : TT} {tk tv : TE} (hc : X.calm = true) (hN : X.N.Nodup) (hy : X.N[i]? = some y) (hyl : X.env.scope.names.lookup y = some .local)
    (hsw : swapsWith (.DictComp kx vx [⟨tg, iter, ifs, 0⟩] scope pos) (some (.Name y py)) spos.line X.env = pure true) (hi : PI X tg iter wi) (ok : BlkOk X.N X.env.scope scope own)
    (hg : ∀ s H C cl fp, PG (X.blk s H scope (compEnvC scope cl C X.env) fp) tg g) (ht : ∀ s H C cl fp, PTs (X.blk s H scope (compEnvC scope cl C X.env) fp) ifs tt)
    (hk : ∀ s H C cl fp, PE (X.blk s H scope (compEnvC scope cl C X.env) fp) kx tk) (he : ∀ s H C cl fp, PE (X.blk s H scope (compEnvC scope cl C X.env) fp) vx tv)
    (hs : ∀ x, foldedSetIterable iter X.env x = pure x := by intro _; rfl) :
    PS X (.Assign [.Name y py] (.DictComp kx vx [⟨tg, iter, ifs, 0⟩] scope pos) spos) (tAsg (tDc wi g tt tk tv (own.map (·.2))) (gName i)) := by
  refine ⟨fun pins s σ H D I h => ?_⟩
  rw [exec_Assign_Name_used _ _ _ _ hsw]
  refine wpAny_bind (wpAny_standAt (wpAny_bind ?_))
  show wpAny _ X.A (do let _ ← comprehension (.DictComp kx vx [⟨tg, iter, ifs, 0⟩] scope pos) scope X.env (firstIterPos [⟨tg, iter, ifs, 0⟩] pos) newDict false (eval iter X.env) (some (assign (.Name y py) X.env))) _ _ s
  refine wpAny_bind (thn (dc_core (Q := fun x H1 => gName i x σ H1 D.nx) (Qf := fun _ s' => SP X pins D .next s') hc hN I hi ok hg ht hk he hs h fun L C s' m H' I' q hn f => ?_) fun _ s' hq => wpAny_pure (wpAny_pure hq))
  show wpAny _ _ (assign (.Name y py) X.env (.ref L)) _ _ _
  obtain ⟨f0, f1, f2, f3, f4, f5⟩ := f
  refine wpAny_assign_Name (store_ok2 (v := V.ref L) I' hN hy (.inl hyl) rfl (fun s2 I2 ⟨a, sb, ha⟩ => ?_) (.inr hyl))
  have haC : C ≠ a := by
    rcases ha with z | z
    · rw [z]
      exact f1
    · exact fun e => f4 y a z e.symm
  exact ⟨m, hn.sameBut sb haC, fun h3 sb3 => ⟨_, H', I2.turned (t' := s2.toks) (fun b o hb e => (sb3.2 b hb).trans e) f0 f1 f3 f4 f5, q⟩⟩
theorem swd_true {kx vx : Expr} {gs : List Comprehension} {scope : Scope} {pos py : Pos} {y : Str} {l : Nat} {env : Env} (hk : env.scope.kind = .function) (hy : env.scope.names.lookup y = some .local) (hl : (py.line == pos.line) = true)
    (ha : (scope.names.any fun (n, k) => n == y && (k == .local || k == .cell)) = false) : swapsWith (.DictComp kx vx gs scope pos) (some (.Name y py)) l env = pure true := by
  have ky : env.kindOf y = some .local := hy
  have hb : env.blockKind = .function := by
    unfold Env.blockKind
    rw [hk]
    rfl
  unfold swapsWith
  simp only [hb, ky, ha, Expr.pos, hl]
  rfl
end
end KA
/-! dict comprehensions whose keys may be tuples; dict comprehensions that an error may leave -/
namespace KA
open PySem PySem.Spec PyProof.Rows L2
section
variable {X : Cx} {pins : List (Addr × Obj)} {σ : L2.St} {H H' : Hp} {s : Shared} {E : Value → Shared → Prop} {D : Addr} {y z : V} {u r : Value} {Q : Unit → Shared → Prop}
/-- D[y] = z as a comprehension does it -/
theorem dput_of (hu : X.A.units < cLine) (I : L2.Inv X pins σ H s) (g : DPut H D y z H') (ry : RelV y u) (rz : RelV z r) (k : ∀ t, L2.Inv X pins σ H' t → Q () t) : wpAny (model X.prog X.w) X.A (dictSet D u r) Q E s := by
  rcases g with ⟨kvs, n, e1, e2, lt, e3⟩ | ⟨kvs, n, b, e1, e2, e4, lt, e3⟩
  · subst e2 e3
    exact d_dictSet I e1 lt ry rz k
  · subst e2 e3
    obtain rfl : u = Value.ref b := ry
    obtain ⟨l1, ns, xs, rl, dd⟩ := dt_of I.hok e1
    have l2 : xs.length ≤ sizeLine := by
      rw [← Paired.length rl]
      exact l1
    have l3 : (putK kvs n z).length ≤ sizeLine := by
      have := length_putK kvs n z
      omega
    refine wpAny_dictSet_heap (hsz := l2) (show (tupleKind (mixKind X.prog X.w)).room X.A from hu) (key_of I.hok e4) dd fun h2 d2 sb => k _ ?_
    obtain ⟨o, es, ep, ho, q1, q2, q3, _, q4⟩ := d2
    have nw : ∀ c ys, H c = some (.tup ys) → (upd H D (.dT (putK kvs n z))) c = some (.tup ys) := fun c ys ec => by
      rw [upd_ne (ne_of ec e1 (fun w => by cases w))]
      exact ec
    exact d_write I (by rw [e1]; exact True.intro) sb ⟨o, ho⟩ ⟨l3, ns, _, (rl.put n e4 rz).keeps nw, o, es, ep, ho, q1, q2, q3, q4⟩
end
/-- {k: v for target in iter if ..}, kept from k0 on -/
def tDcG (k0 : HO) (wi : TI) (g : TG) (tt : TT) (tk tv : TE) (vs : List Nat) : TE := fun σ H Q => wi σ H fun J H1 => ∀ D, H1 D = none → ∃ Wn : Nat → Nat → Hp → Prop, (∃ m, Wn 0 m (upd H1 D k0)) ∧ ∀ i m H2, Wn i m H2 →
  (J.stop i H2 ∧ Q (.ref D) H2) ∨ (J.go i H2 ∧ ∃ Nx : Hp → Prop, (∀ H', Nx H' → ∃ m', m' < m ∧ Wn (i + 1) m' H') ∧ ∀ x H', J.yld i H2 x H' → g x (wipe σ vs) H' fun σ2 H3 => wipe σ2 vs = wipe σ vs ∧ tt σ2 H3 fun b H4 =>
    if b = true then tk σ2 H4 fun y H5 => tv σ2 H5 fun z H6 => ∃ H7, DPut H6 D y z H7 ∧ Nx H7 else Nx H4)
section
variable {X : Cx}
theorem dcg_core {k0 : HO} {pins : List (Addr × Obj)} {s : Shared} {σ : L2.St} {H : Hp} {Q : VK} {kx vx tg iter : Expr} {ifs : List Expr} {scope : Scope} {own : List (Str × Nat)} {pos pos' : Pos} {wi : TI} {g : TG} {tt : TT} {tk tv : TE} {use : Option (Value → Sem Unit)} {Qf : Value → Shared → Prop}
    (nw : ∀ (H : Hp) (h : Heap), sysModules < h.objs.size → ObjOk X.prog X.w H (h.push { cls := .type "dict", data := .dict #[] }) h.objs.size k0) (hu : X.A.units < cLine)
    (hc : X.calm = true) (hN : X.N.Nodup) (I : L2.Inv X pins σ H s) (hi : PI X tg iter wi) (ok : BlkOk X.N X.env.scope scope own)
    (hg : ∀ s H C cl fp, PG (X.blk s H scope (compEnvC scope cl C X.env) fp) tg g) (ht : ∀ s H C cl fp, PTs (X.blk s H scope (compEnvC scope cl C X.env) fp) ifs tt)
    (hk : ∀ s H C cl fp, PE (X.blk s H scope (compEnvC scope cl C X.env) fp) kx tk) (hv : ∀ s H C cl fp, PE (X.blk s H scope (compEnvC scope cl C X.env) fp) vx tv)
    (hfs : ∀ x, foldedSetIterable iter X.env x = pure x) (h : tDcG k0 wi g tt tk tv (own.map (·.2)) σ H Q)
    (hRR : ∀ D C t m H', L2.Inv X pins σ H' t → Q (.ref D) H' → t.heap.Ns C m → FpOk X pins H' C → compPost (model X.prog X.w) X.A X.xe use Qf (.ref D) C (.ok .next) t) :
    wpAny (model X.prog X.w) X.A (comprehension (.DictComp kx vx [⟨tg, iter, ifs, 0⟩] scope pos) scope X.env pos' newDict false (eval iter X.env) use) Qf X.xe s := by
  have cells : ∀ y ∈ scope.names, y.2 = .free → ∃ c, X.env.cells.lookup y.1 = some c := fun y hy z => (ok.free y hy z).elim (fun k => I.ok.has _ (.inl k)) (fun k => I.ok.has _ (.inr k))
  refine wpAny_comprehension_free (use := use) rfl hfs (closure_ok cells) ok.kind (fun y hy z => by rw [ok.uniq y hy, z]) (thn (hi.run pins s σ H _ I h) fun xv t1 hx => thn hx fun itv t2 k2 => ?_)
  obtain ⟨it, fp, tn, J, H2, rfl, I2, T, st2, f2, q⟩ := k2
  refine wpAny_newObj_type (newEnv_comp ?_)
  obtain ⟨D, hD⟩ : ∃ D, D = t2.heap.objs.size := ⟨_, rfl⟩
  rw [← hD]
  have fD : H2 D = none := I2.hok.fresh (Nat.le_of_eq hD.symm)
  obtain ⟨Wn, ⟨m0, w0⟩, turn⟩ := q D fD
  obtain ⟨t3, ht3⟩ : ∃ t3 : Shared, t3 = { t2 with heap := t2.heap.push { cls := .type "dict", data := .dict #[] } } := ⟨_, rfl⟩
  rw [← ht3]
  have h3 : t3.heap = t2.heap.push { cls := .type "dict", data := .dict #[] } := by rw [ht3]
  have I3 : L2.Inv X pins σ (upd H2 D k0) t3 := by
    rw [ht3]
    refine I2.laid (t' := t2.toks) (fun b o z => Heap.get?_push_of_some _ z) (Nat.le_of_eq hD.symm) ?_
    rw [hD]
    exact nw _ t2.heap I2.big
  have small : ∀ b ∈ fp, b < t2.heap.objs.size := fun b hb => by
    obtain ⟨o, z, _⟩ := T.obj _ _ st2 b hb
    exact Heap.lt_size z
  have f3 : ∀ b ∈ fp, FpOk X pins (upd H2 D k0) b ∧ b < t3.heap.objs.size := fun b hb => by
    have hlt := small b hb
    have ne : b ≠ D := by rw [hD]; exact Nat.ne_of_lt hlt
    refine ⟨⟨by rw [upd_ne ne]; exact (f2 b hb).1, (f2 b hb).2⟩, ?_⟩
    rw [h3, Heap.size_push]
    exact Nat.lt_succ_of_lt hlt
  have st3 : tn 0 t3.heap := T.keep _ _ _ st2 fun b _ o z => by rw [h3]; exact Heap.get?_push_of_some _ z
  have I4 := block_start I3 ok hN f3
  obtain ⟨ce, hce⟩ : ∃ ce, ce = compEnvC scope (cellsFrom (t3.heap.objs.size + 1) scope.names (cloFrom X.env.cells scope.names [])) t3.heap.objs.size X.env := ⟨_, rfl⟩
  have cL : ce.locals = t3.heap.objs.size := by rw [hce]; rfl
  have pg : ∀ H3, PG (X.blk t3 H3 scope ce fp) tg g := fun H3 => by rw [hce]; exact hg _ _ _ _ _
  have pt : ∀ H3, PTs (X.blk t3 H3 scope ce fp) ifs tt := fun H3 => by rw [hce]; exact ht _ _ _ _ _
  have pk : ∀ H3, PE (X.blk t3 H3 scope ce fp) kx tk := fun H3 => by rw [hce]; exact hk _ _ _ _ _
  have pv : ∀ H3, PE (X.blk t3 H3 scope ce fp) vx tv := fun H3 => by rw [hce]; exact hv _ _ _ _ _
  show codeAny _ _ (.compStart (.DictComp kx vx [⟨tg, iter, ifs, 0⟩] scope pos) 0 (.ref it) (.ref D) (compEnvC scope (cellsFrom (t3.heap.objs.size + 1) scope.names (cloFrom X.env.cells scope.names [])) t3.heap.objs.size X.env))
    (compPost (model X.prog X.w) X.A X.xe use Qf (.ref D) t3.heap.objs.size) { t3 with heap := pushCells (t3.heap.push { cls := .type "dict", data := .dict #[] }) scope.names }
  rw [← hce] at I4 ⊢
  have nfp : ∀ b ∈ fp, (upd H2 D k0) b = none := fun b hb => (f3 b hb).1.1
  generalize upd H2 D k0 = H3 at I3 I4 w0 nfp f3
  obtain ⟨t4, ht4⟩ : ∃ t4 : Shared, t4 = { t3 with heap := pushCells (t3.heap.push { cls := .type "dict", data := .dict #[] }) scope.names } := ⟨_, rfl⟩
  rw [← ht4] at I4 ⊢
  have st4 : tn 0 t4.heap := T.keep _ _ _ st3 fun b _ o z => by rw [ht4]; exact pushCells_keeps _ _ _ _ (Heap.get?_push_of_some _ z)
  have hfp : ∀ b ∈ fp, (b ∈ X.ex ∨ X.s_0.heap.objs.size ≤ b) ∧ b ≠ X.env.locals ∧ (∀ x c, X.env.cells.lookup x = some c → c ≠ b) ∧ ∀ p ∈ X.pn ++ pins, p.1 ≠ b := fun b hb => ⟨(f3 b hb).1.2.2.2.1, (f3 b hb).1.2.1, (f3 b hb).1.2.2.2.2.1, (f3 b hb).1.2.2.2.2.2⟩
  have stat : ∀ {σ' : L2.St} {H' : Hp} {t : Shared}, L2.Inv (X.blk t3 H3 scope ce fp) [] σ' H' t → (∀ b ∈ fp, H' b = none) → ∀ b ∈ fp, FpOk (X.blk t3 H3 scope ce fp) [] H' b := fun {σ' H' t} K hn b hb =>
    ⟨hn b hb, (K.ok.exf b hb).1, K.ok.exfs b hb, .inl hb, fun x c z => (K.ok.exf b hb).2 x c z, fun p hp => by simp at hp⟩
  have loop : codeAny (model X.prog X.w) X.A (.compLoop (.DictComp kx vx [⟨tg, iter, ifs, 0⟩] scope pos) 0 (.ref it) (.ref D) ce) (compPost (model X.prog X.w) X.A X.xe use Qf (.ref D) t3.heap.objs.size) t4 := by
    refine compLoop_anyD (fun n t => ∃ i H', L2.Inv (X.blk t3 H3 scope ce fp) [] (wipe σ (own.map (·.2))) H' t ∧ tn i t.heap ∧ (∀ b ∈ fp, H' b = none) ∧ Wn i n H') ?_ m0 ⟨0, H3, I4, st4, nfp, w0⟩
    rintro n t5 ⟨i, H5, I5, st5, n5, w5⟩
    rcases turn i n H5 w5 with ⟨stop, fin⟩ | ⟨on, Nx, hNx, step⟩
    · refine thnF (T.done (X.blk t3 H3 scope ce fp) rfl rfl rfl hc i [] t5 _ H5 (fun _ _ => False) I5 (stat I5 n5) st5 stop) fun r t6 ⟨hr, I6⟩ => ?_
      subst hr
      have I7 : L2.Inv X pins σ H5 t6 := I3.call' (ch := fp) I6.os I6.base I6.hok I6.bare hfp
      have nC : H5 t3.heap.objs.size = none := by
        rw [← cL]
        exact I6.free
      obtain ⟨m, hn, _⟩ := I6.loc
      have hn : t6.heap.Ns ce.locals m := hn
      exact hRR D t3.heap.objs.size t6 m H5 I7 fin (by rw [← cL]; exact hn) (I3.fpOk (Nat.le_refl _) nC)
    · refine thnF (T.item (X.blk t3 H3 scope ce fp) rfl rfl rfl hc i [] t5 _ H5 (fun _ _ => False) I5 (stat I5 n5) st5 on) fun r t6 ⟨u, hr, k6⟩ => ?_
      subst hr
      refine thnF k6 fun _ t7 ⟨x, H7, I7, r7, y7, st7, n7⟩ => ?_
      have I7' := I7.pinned (stat I7 n7) (T.obj _ _ st7)
      refine thnF ((pg H3).run _ t7 _ H7 x u _ I7' r7 (step x H7 y7)) fun _ t8 ⟨σ8, H8, I8, hw8, q8⟩ => ?_
      refine thnF ((pt H3).run _ t8 σ8 H8 _ I8 q8) fun b t9 ⟨H9, I9, q9⟩ => ?_
      have next : ∀ {t : Shared} {H' : Hp}, L2.Inv (X.blk t3 H3 scope ce fp) ([] ++ pinsAt fp t7.heap) σ8 H' t → Nx H' → ∃ m, m < n ∧ ∃ i H', L2.Inv (X.blk t3 H3 scope ce fp) [] (wipe σ (own.map (·.2))) H' t ∧ tn i t.heap ∧ (∀ b ∈ fp, H' b = none) ∧ Wn i m H' := fun {t H'} K nx => by
        obtain ⟨m', hm, w'⟩ := hNx H' nx
        have pin : ∀ b ∈ fp, ∀ o, t7.heap.get? b = some o → t.heap.get? b = some o ∧ H' b = none := fun b hb o z => by
          have y := K.pin (b, o) (List.mem_append_right _ (List.mem_append_right _ (mem_pinsAt hb z)))
          exact ⟨y.1, y.2.1⟩
        have hl : (wipe σ (own.map (·.2))).length = σ8.length := by rw [← hw8, wipe_length]
        refine ⟨m', hm, i + 1, H', (K.unpinned (pins := [])).weak hl (fun j v z => ?_), T.keep _ _ _ st7 fun b hb o z => (pin b hb o z).1, fun b hb => ?_, w'⟩
        · rw [← hw8] at z
          exact (wipe_some z).1
        · obtain ⟨o, z, _⟩ := T.obj _ _ st7 b hb
          exact (pin b hb o z).2
      cases b with
      | false => exact next I9 q9
      | true =>
        refine thnF ((pk H3).run _ t9 σ8 H9 _ I9 q9) fun z1 t10 ⟨yk, H10, I10, r10, q10⟩ => ?_
        refine thnF ((pv H3).run _ t10 σ8 H10 _ I10 q10) fun z2 t11 ⟨yv, H11, I11, r11, H12, dp, nx⟩ => ?_
        exact dput_of (X := X.blk t3 H3 scope ce fp) hu I11 dp r10 r11 fun t12 I12 => next I12 nx
  exact codeAny_compStart_dict loop (T.self X.A 0 _ _ _ st4 loop)
/-- keys tuples -/
theorem pe_dcT {kx vx tg iter : Expr} {ifs : List Expr} {scope : Scope} {own : List (Str × Nat)} {pos : Pos} {wi : TI} {g : TG} {tt : TT} {tk tv : TE} (hu : X.A.units + 1 < cLine) (hc : X.calm = true) (hN : X.N.Nodup) (hi : PI X tg iter wi) (ok : BlkOk X.N X.env.scope scope own)
    (hg : ∀ s H C cl fp, PG (X.blk s H scope (compEnvC scope cl C X.env) fp) tg g) (ht : ∀ s H C cl fp, PTs (X.blk s H scope (compEnvC scope cl C X.env) fp) ifs tt)
    (hk : ∀ s H C cl fp, PE (X.blk s H scope (compEnvC scope cl C X.env) fp) kx tk) (hv : ∀ s H C cl fp, PE (X.blk s H scope (compEnvC scope cl C X.env) fp) vx tv)
    (hfs : ∀ x, foldedSetIterable iter X.env x = pure x := by intro _; rfl) : PE X (.DictComp kx vx [⟨tg, iter, ifs, 0⟩] scope pos) (tDcG (.dT []) wi g tt tk tv (own.map (·.2))) := by
  refine ⟨fun pins s σ H Q I h => ?_⟩
  rw [arm_eval_DictComp]
  refine dcg_core (fun H h => dt_empty h) (Nat.lt_of_succ_lt hu) hc hN I hi ok hg ht hk hv hfs h fun D C t m H' I' q hn f => ⟨m, hn, fun h2 sb => ?_⟩
  exact ⟨.ref D, H', I'.turned (t' := t.toks) (fun b o hb z => (sb.2 b hb).trans z) f.1 f.2.1 f.2.2.2.1 f.2.2.2.2.1 f.2.2.2.2.2, rfl, q⟩
end
section
variable {X : Cx}
theorem dc_errs {pins : List (Addr × Obj)} {s : Shared} {σ : L2.St} {H : Hp} {Q : VK} {W : WX} {E : XK} {kx vx tg iter : Expr} {ifs : List Expr} {scope : Scope} {own : List (Str × Nat)} {pos pos' : Pos} {wi : TI} {g : TG} {tt : TT} {tk tv : TE} {use : Option (Value → Sem Unit)} {Qf : Value → Shared → Prop}
    (hu : X.A.units < cLine) (hc : X.calm = true) (hs : X.stack = X.env :: X.outer) (hf : X.env.frame = some X.env.locals) (tk0 : Takes X W) (hW : ∀ cls d H, E cls d H → W cls d σ H) (hN : X.N.Nodup) (I : L2.Inv X pins σ H s) (hi : PI X tg iter wi) (ok : BlkOk X.N X.env.scope scope own)
    (hg : ∀ s H C cl fp, PG (blkE X E s H scope (compEnvC scope cl C X.env) fp) tg g) (ht : ∀ s H C cl fp, PTs (blkE X E s H scope (compEnvC scope cl C X.env) fp) ifs tt)
    (hk : ∀ s H C cl fp, PE (blkE X E s H scope (compEnvC scope cl C X.env) fp) kx tk) (hv : ∀ s H C cl fp, PE (blkE X E s H scope (compEnvC scope cl C X.env) fp) vx tv) (hfs : ∀ x, foldedSetIterable iter X.env x = pure x) (h : tDcG (.dK []) wi g tt tk tv (own.map (·.2)) σ H Q)
    (hRR : ∀ D C t m H', L2.Inv X pins σ H' t → Q (.ref D) H' → t.heap.Ns C m → FpOk X pins H' C → compPost (model X.prog X.w) X.A X.xe use Qf (.ref D) C (.ok .next) t) :
    wpAny (model X.prog X.w) X.A (comprehension (.DictComp kx vx [⟨tg, iter, ifs, 0⟩] scope pos) scope X.env pos' newDict false (eval iter X.env) use) Qf X.xe s := by
  have cells : ∀ y ∈ scope.names, y.2 = .free → ∃ c, X.env.cells.lookup y.1 = some c := fun y hy z => (ok.free y hy z).elim (fun k => I.ok.has _ (.inl k)) (fun k => I.ok.has _ (.inr k))
  refine comp_x (use := use) rfl hfs (closure_ok cells) ok.kind (fun y hy z => by rw [ok.uniq y hy, z]) (thn (hi.run pins s σ H _ I h) fun xv t1 hx => thn hx fun itv t2 k2 => ?_)
  obtain ⟨it, fp, tn, J, H2, rfl, I2, T, st2, f2, q⟩ := k2
  refine wpAny_newObj_type (newEnv_comp ?_)
  obtain ⟨D, hD⟩ : ∃ D, D = t2.heap.objs.size := ⟨_, rfl⟩
  rw [← hD]
  have fD : H2 D = none := I2.hok.fresh (Nat.le_of_eq hD.symm)
  obtain ⟨Wn, ⟨m0, w0⟩, turn⟩ := q D fD
  obtain ⟨t3, ht3⟩ : ∃ t3 : Shared, t3 = { t2 with heap := t2.heap.push { cls := .type "dict", data := .dict #[] } } := ⟨_, rfl⟩
  rw [← ht3]
  have h3 : t3.heap = t2.heap.push { cls := .type "dict", data := .dict #[] } := by rw [ht3]
  have I3 : L2.Inv X pins σ (upd H2 D (.dK [])) t3 := by
    rw [ht3]
    refine I2.laid (t' := t2.toks) (fun b o z => Heap.get?_push_of_some _ z) (Nat.le_of_eq hD.symm) ?_
    rw [hD]
    exact dk_empty t2.heap I2.big
  have small : ∀ b ∈ fp, b < t2.heap.objs.size := fun b hb => by
    obtain ⟨o, z, _⟩ := T.obj _ _ st2 b hb
    exact Heap.lt_size z
  have f3 : ∀ b ∈ fp, FpOk X pins (upd H2 D (.dK [])) b ∧ b < t3.heap.objs.size := fun b hb => by
    have hlt := small b hb
    have ne : b ≠ D := by rw [hD]; exact Nat.ne_of_lt hlt
    refine ⟨⟨by rw [upd_ne ne]; exact (f2 b hb).1, (f2 b hb).2⟩, ?_⟩
    rw [h3, Heap.size_push]
    exact Nat.lt_succ_of_lt hlt
  have st3 : tn 0 t3.heap := T.keep _ _ _ st2 fun b _ o z => by rw [h3]; exact Heap.get?_push_of_some _ z
  have I4 := block_start I3 ok hN f3
  obtain ⟨ce, hce⟩ : ∃ ce, ce = compEnvC scope (cellsFrom (t3.heap.objs.size + 1) scope.names (cloFrom X.env.cells scope.names [])) t3.heap.objs.size X.env := ⟨_, rfl⟩
  have cL : ce.locals = t3.heap.objs.size := by rw [hce]; rfl
  have cf : ce.frame = X.env.frame := by rw [hce]; rfl
  have pg : ∀ H3, PG (blkE X E t3 H3 scope ce fp) tg g := fun H3 => by rw [hce]; exact hg _ _ _ _ _
  have pt : ∀ H3, PTs (blkE X E t3 H3 scope ce fp) ifs tt := fun H3 => by rw [hce]; exact ht _ _ _ _ _
  have pk : ∀ H3, PE (blkE X E t3 H3 scope ce fp) kx tk := fun H3 => by rw [hce]; exact hk _ _ _ _ _
  have pv : ∀ H3, PE (blkE X E t3 H3 scope ce fp) vx tv := fun H3 => by rw [hce]; exact hv _ _ _ _ _
  show codeAny _ _ (.compStart (.DictComp kx vx [⟨tg, iter, ifs, 0⟩] scope pos) 0 (.ref it) (.ref D) (compEnvC scope (cellsFrom (t3.heap.objs.size + 1) scope.names (cloFrom X.env.cells scope.names [])) t3.heap.objs.size X.env))
    (endX (model X.prog X.w) X.A X.xe use Qf (.ref D) (compEnvC scope (cellsFrom (t3.heap.objs.size + 1) scope.names (cloFrom X.env.cells scope.names [])) t3.heap.objs.size X.env)) { t3 with heap := pushCells (t3.heap.push { cls := .type "dict", data := .dict #[] }) scope.names }
  rw [← hce] at I4 ⊢
  have nfp : ∀ b ∈ fp, (upd H2 D (.dK [])) b = none := fun b hb => (f3 b hb).1.1
  generalize upd H2 D (.dK []) = H3 at I3 I4 w0 nfp f3
  obtain ⟨t4, ht4⟩ : ∃ t4 : Shared, t4 = { t3 with heap := pushCells (t3.heap.push { cls := .type "dict", data := .dict #[] }) scope.names } := ⟨_, rfl⟩
  rw [← ht4] at I4 ⊢
  have st4 : tn 0 t4.heap := T.keep _ _ _ st3 fun b _ o z => by rw [ht4]; exact pushCells_keeps _ _ _ _ (Heap.get?_push_of_some _ z)
  have hfp : ∀ b ∈ fp, (b ∈ X.ex ∨ X.s_0.heap.objs.size ≤ b) ∧ b ≠ X.env.locals ∧ (∀ x c, X.env.cells.lookup x = some c → c ≠ b) ∧ ∀ p ∈ X.pn ++ pins, p.1 ≠ b := fun b hb => ⟨(f3 b hb).1.2.2.2.1, (f3 b hb).1.2.1, (f3 b hb).1.2.2.2.2.1, (f3 b hb).1.2.2.2.2.2⟩
  have err : ∀ {v : Value} {t : Shared}, xeB X E (X.blk t3 H3 scope ce fp) v t → notedBy (model X.prog X.w) X.A ce (fun e t' => endX (model X.prog X.w) X.A X.xe use Qf (.ref D) ce (.error e) t') v t := fun x => err_out hs hf tk0 hW I3 hfp cf cL x
  have go : ∀ {α : Type} {m : Sem α} {P1 P2 : α → Shared → Prop} {t : Shared}, wpAny (model X.prog X.w) X.A m P1 (xeB X E (X.blk t3 H3 scope ce fp)) t → (∀ a t, P1 a t → P2 a t) → wpAny (model X.prog X.w) X.A m P2 (notedBy (model X.prog X.w) X.A ce (fun e t' => endX (model X.prog X.w) X.A X.xe use Qf (.ref D) ce (.error e) t')) t := fun k f => wpAny_mono k f fun _ _ z => err z
  have stat : ∀ {σ' : L2.St} {H' : Hp} {t : Shared}, L2.Inv (X.blk t3 H3 scope ce fp) [] σ' H' t → (∀ b ∈ fp, H' b = none) → ∀ b ∈ fp, FpOk (X.blk t3 H3 scope ce fp) [] H' b := fun {σ' H' t} K hn b hb =>
    ⟨hn b hb, (K.ok.exf b hb).1, K.ok.exfs b hb, .inl hb, fun x c z => (K.ok.exf b hb).2 x c z, fun p hp => by simp at hp⟩
  have loop : codeAny (model X.prog X.w) X.A (.compLoop (.DictComp kx vx [⟨tg, iter, ifs, 0⟩] scope pos) 0 (.ref it) (.ref D) ce) (endX (model X.prog X.w) X.A X.xe use Qf (.ref D) ce) t4 := by
    refine compLoop_anyD (fun n t => ∃ i H', L2.Inv (X.blk t3 H3 scope ce fp) [] (wipe σ (own.map (·.2))) H' t ∧ tn i t.heap ∧ (∀ b ∈ fp, H' b = none) ∧ Wn i n H') ?_ m0 ⟨0, H3, I4, st4, nfp, w0⟩
    rintro n t5 ⟨i, H5, I5, st5, n5, w5⟩
    rcases turn i n H5 w5 with ⟨stop, fin⟩ | ⟨on, Nx, hNx, step⟩
    · refine thnF (T.done (X.blk t3 H3 scope ce fp) rfl rfl rfl hc i [] t5 _ H5 (fun _ _ => False) I5 (stat I5 n5) st5 stop) fun r t6 ⟨hr, I6⟩ => ?_
      subst hr
      have I7 : L2.Inv X pins σ H5 t6 := I3.call' (ch := fp) I6.os I6.base I6.hok I6.bare hfp
      have nC : H5 t3.heap.objs.size = none := by
        rw [← cL]
        exact I6.free
      obtain ⟨m, hn, _⟩ := I6.loc
      have hn : t6.heap.Ns ce.locals m := hn
      have z := hRR D t3.heap.objs.size t6 m H5 I7 fin (by rw [← cL]; exact hn) (I3.fpOk (Nat.le_refl _) nC)
      rw [← cL] at z
      exact z
    · refine thnF (T.item (X.blk t3 H3 scope ce fp) rfl rfl rfl hc i [] t5 _ H5 (fun _ _ => False) I5 (stat I5 n5) st5 on) fun r t6 ⟨u, hr, k6⟩ => ?_
      subst hr
      refine thnF k6 fun _ t7 ⟨x, H7, I7, r7, y7, st7, n7⟩ => ?_
      have I7' := (I7.pinned (stat I7 n7) (T.obj _ _ st7)).wish (xeB X E (X.blk t3 H3 scope ce fp))
      refine go ((pg H3).run _ t7 _ H7 x u _ I7' r7 (step x H7 y7)) fun _ t8 ⟨σ8, H8, I8, hw8, q8⟩ => ?_
      refine go ((pt H3).run _ t8 σ8 H8 _ I8 q8) fun b t9 ⟨H9, I9, q9⟩ => ?_
      have next : ∀ {t : Shared} {H' : Hp}, L2.Inv (X.blk t3 H3 scope ce fp) ([] ++ pinsAt fp t7.heap) σ8 H' t → Nx H' → ∃ m, m < n ∧ ∃ i H', L2.Inv (X.blk t3 H3 scope ce fp) [] (wipe σ (own.map (·.2))) H' t ∧ tn i t.heap ∧ (∀ b ∈ fp, H' b = none) ∧ Wn i m H' := fun {t H'} K nx => by
        obtain ⟨m', hm, w'⟩ := hNx H' nx
        have pin : ∀ b ∈ fp, ∀ o, t7.heap.get? b = some o → t.heap.get? b = some o ∧ H' b = none := fun b hb o z => by
          have y := K.pin (b, o) (List.mem_append_right _ (List.mem_append_right _ (mem_pinsAt hb z)))
          exact ⟨y.1, y.2.1⟩
        have hl : (wipe σ (own.map (·.2))).length = σ8.length := by rw [← hw8, wipe_length]
        refine ⟨m', hm, i + 1, H', (K.unpinned (pins := [])).weak hl (fun j v z => ?_), T.keep _ _ _ st7 fun b hb o z => (pin b hb o z).1, fun b hb => ?_, w'⟩
        · rw [← hw8] at z
          exact (wipe_some z).1
        · obtain ⟨o, z, _⟩ := T.obj _ _ st7 b hb
          exact (pin b hb o z).2
      cases b with
      | false => exact next I9.unwish q9
      | true =>
        refine go ((pk H3).run _ t9 σ8 H9 _ I9 q9) fun z1 t10 ⟨yk, H10, I10, r10, q10⟩ => ?_
        refine go ((pv H3).run _ t10 σ8 H10 _ I10 q10) fun z2 t11 ⟨yv, H11, I11, r11, H12, dp, nx⟩ => ?_
        exact dput_of (X := X.blk t3 H3 scope ce fp) hu I11.unwish dp r10 r11 fun t12 I12 => next I12 nx
  exact codeAny_compStart_dict loop (T.self X.A 0 _ _ _ st4 loop)
/-- {k: v for ..}, where v may let an error out: it is then W's -/
def tDcE (W : WX) (wi : TI) (g : TG) (tt : XK → TT) (tk tv : XK → TE) (vs : List Nat) : TE := fun σ H Q => ∃ E : XK, (∀ cls d H', E cls d H' → W cls d σ H') ∧ tDcG (.dK []) wi g (tt E) (tk E) (tv E) vs σ H Q
theorem pe_dcE {W : WX} {kx vx tg iter : Expr} {ifs : List Expr} {scope : Scope} {own : List (Str × Nat)} {pos : Pos} {wi : TI} {g : TG} {tt : XK → TT} {tk tv : XK → TE} (hu : X.A.units + 1 < cLine) (hc : X.calm = true) (hs : X.stack = X.env :: X.outer) (hf : X.env.frame = some X.env.locals) (tk0 : Takes X W) (hN : X.N.Nodup)
    (hi : PI X tg iter wi) (ok : BlkOk X.N X.env.scope scope own) (hg : ∀ (E : XK) (s : Shared) (H : Hp) (C : Addr) (cl : List (Str × Addr)) (fp : List Addr), PG (blkE X E s H scope (compEnvC scope cl C X.env) fp) tg g)
    (ht : ∀ (E : XK) (s : Shared) (H : Hp) (C : Addr) (cl : List (Str × Addr)) (fp : List Addr), PTs (blkE X E s H scope (compEnvC scope cl C X.env) fp) ifs (tt E)) (hk : ∀ (E : XK) (s : Shared) (H : Hp) (C : Addr) (cl : List (Str × Addr)) (fp : List Addr), PE (blkE X E s H scope (compEnvC scope cl C X.env) fp) kx (tk E))
    (hv : ∀ (E : XK) (s : Shared) (H : Hp) (C : Addr) (cl : List (Str × Addr)) (fp : List Addr), PE (blkE X E s H scope (compEnvC scope cl C X.env) fp) vx (tv E))
    (hfs : ∀ x, foldedSetIterable iter X.env x = pure x := by intro _; rfl) : PE X (.DictComp kx vx [⟨tg, iter, ifs, 0⟩] scope pos) (tDcE W wi g tt tk tv (own.map (·.2))) := by
  refine ⟨fun pins s σ H Q I h => ?_⟩
  obtain ⟨E, hE, h⟩ := h
  rw [arm_eval_DictComp]
  refine dc_errs (Nat.lt_of_succ_lt hu) hc hs hf tk0 hE hN I hi ok (hg E) (ht E) (hk E) (hv E) hfs h fun D C t m H' I' q hn f => ⟨m, hn, fun h2 sb => ?_⟩
  exact ⟨.ref D, H', I'.turned (t' := t.toks) (fun b o hb z => (sb.2 b hb).trans z) f.1 f.2.1 f.2.2.2.1 f.2.2.2.2.1 f.2.2.2.2.2, rfl, q⟩
end
end KA
/-! == of two dicts whose keys are tuples and whose values are whole numbers, where they are the same -/
namespace DcT
open PySem PySem.Spec PyProof.Rows
section
variable {prog : Program} {w : World} {K : Type} [DecidableEq K] {knd : HeapKind prog w K} {A : Around} {E : Value → Shared → Prop} {s : Shared}
theorem pairs_heap {nm : String} {a b : Addr} {xs ys : List (K × Addr × Value)} {Q : Bool → Shared → Prop} (na : (a == sysModules) = false) (nb : (b == sysModules) = false) (hu : knd.room A)
    (da : s.heap.DictOfH knd a xs) (db : s.heap.DictOfH knd b ys) (hl : xs.length = ys.length) (hits : ∀ x ∈ xs, ∃ p, atKey ys x.1 = some p ∧ SeqAt.EqAt A s x.2.2 p.2 true) (h : Q true s) :
    wpAny (model prog w) A (Builtin.Dict.samePairs nm a b) Q E s := by
  obtain ⟨o1, e1, p1, g1, _, d1, z1, i1, u1⟩ := da
  obtain ⟨o2, e2, p2, g2, _, d2, z2, i2, u2⟩ := db
  have l1 := size_of_entries z1
  have l2 := size_of_entries z2
  unfold Builtin.Dict.samePairs Builtin.Dict.showsAll
  rw [if_neg (by rw [na]; exact Bool.false_ne_true), if_neg (by rw [nb]; exact Bool.false_ne_true)]
  refine wpAny_bind (wpAny_pure (wpAny_bind (wpAny_pure (wpAny_bind (wpAny_dictEntries g1 d1 ?_)))))
  dsimp only
  refine wpAny_bind (wpAny_dictEntries g2 d2 ?_)
  rw [if_neg (by rw [l1, l2, hl]; simp)]
  refine wpAny_bind (wpAny_dictEpoch g1 d1 (wpAny_bind ?_))
  rw [Std.Legacy.Range.forIn_eq_forIn_range']
  simp only [Std.Legacy.Range.size, Nat.sub_zero, Nat.add_sub_cancel, Nat.div_one]
  refine wpAny_forIn_list _ (fun rest q t => t = s ∧ q = (none, ()) ∧ ∃ i, rest = List.range' i (e1.size - i) ∧ i ≤ e1.size) _ ?_ ?_ _ _ ⟨rfl, rfl, 0, by simp, Nat.zero_le _⟩
  · rintro j rest q t ⟨rfl, rfl, i, hr, hi⟩
    obtain ⟨rfl, hrest, lt⟩ : j = i ∧ rest = List.range' (i + 1) (e1.size - (i + 1)) ∧ i < e1.size := by
      by_cases c : i < e1.size
      · rw [show e1.size - i = (e1.size - (i + 1)) + 1 by omega, List.range'_succ] at hr
        injection hr with r1 r2
        exact ⟨r1, r2, c⟩
      · rw [show e1.size - i = 0 by omega] at hr
        cases hr
    have lt' : j < xs.length := by rw [← l1]; exact lt
    refine wpAny_bind (wpAny_dictEntries g1 d1 ?_)
    have ej : e1[j]? = some (entryOfKey knd xs[j]) := by rw [entry_at z1, List.getElem?_eq_getElem lt']; rfl
    rw [ej]
    obtain ⟨p, hp, heq⟩ := hits xs[j] (List.getElem_mem lt')
    have ik := i1 xs[j] (List.getElem_mem lt')
    generalize xs[j] = x at ik hp heq
    show wpAny _ _ (holding [Value.ref x.2.1, x.2.2] _ >>= _) _ _ _
    refine wpAny_bind (wpAny_holding (wpAny_bind (wpAny_dictFind_heap hu ik g2 d2 z2 i2 u2 (fun no => ?_) fun k pk hk => ?_)))
    · rw [atKey_none_of_get no] at hp
      cases hp
    · have ep := atKey_of_get u2 hk
      rw [hp] at ep
      cases ep
      refine wpAny_bind (wpAny_dictEntries g2 d2 ?_)
      rw [entry_at z2, hk]
      refine wpAny_holding (heq prog w _ _ ?_)
      show wpAny _ _ (if (!true) = true then _ else _) _ _ _
      rw [if_neg (by decide)]
      refine wpAny_bind (wpAny_dictEpoch g1 d1 ?_)
      rw [if_neg (by simp)]
      exact wpAny_pure ⟨rfl, rfl, j + 1, hrest, lt⟩
  · rintro q t ⟨rfl, rfl, _⟩
    exact wpAny_pure h
theorem eq_heap {a b : Addr} {xs ys : List (K × Addr × Value)} {Q : Value → Shared → Prop} (na : (a == sysModules) = false) (nb : (b == sysModules) = false) (hu : A.units < cLine) (hk : knd.room A.in1)
    (da : s.heap.DictOfH knd a xs) (db : s.heap.DictOfH knd b ys) (hl : xs.length = ys.length) (hits : ∀ x ∈ xs, ∃ p, atKey ys x.1 = some p ∧ SeqAt.EqAt A.in1 s x.2.2 p.2 true) (h : Q (.bool true) s) :
    wpAny (model prog w) A (compareOp .Eq (.ref a) (.ref b)) Q E s := by
  refine wpAny_richCompare_same_room (op := .Eq) da.typeIs db.typeIs PySem.F.slot_dict_eq (wpAny_call_entry PySem.F.slot_dict_eq da.typeIs PySem.F.entry_dict_eq ?_ (PySem.F.args_dict_eq_2 _ _)) hu
  show wpAny _ _ (Builtin.Dict.dictSlotArgs "__eq__" ⟨[.ref a, .ref b], []⟩ >>= _) _ _ s
  refine wpAny_bind ?_
  unfold Builtin.Dict.dictSlotArgs
  refine wpAny_bind (wpAny_notOrdered_dict da.typeIs ?_)
  show wpAny _ _ (pure (Value.ref a, Value.ref b)) _ _ s
  refine wpAny_pure (wpAny_bind (wpAny_isInstance (T := "dict") db.typeIs PySem.F.sub_dict_dict ?_))
  simp only [Bool.not_true, Bool.false_eq_true, if_false]
  refine wpAny_bind (wpAny_pure (wpAny_bind (wpAny_pure (wpAny_bind (pairs_heap na nb hk da db hl hits (wpAny_pure ⟨_, rfl, ?_, ?_⟩))))))
  · exact fun z => nomatch z
  · simpa using h
end
end DcT
namespace KA
open PySem PySem.Spec PyProof.Rows L2
/-- two dicts that hold the same whole numbers at the same tuples -/
def BDicT : BEq2 := fun x y b H => b = true ∧ ∃ (p q : Addr) (ks ls : List (List Key × V)), x = .ref p ∧ y = .ref q ∧ H p = some (.dT ks) ∧ H q = some (.dT ls) ∧ ks.length = ls.length ∧ ∀ z ∈ ks, ∃ n : Int, z.2 = .int n ∧ valV ls z.1 = some (.int n)
section
variable {X : Cx}
theorem hits_t {H : Hp} {ks ls : List (List Key × V)} {xs ys : List (List Key × Addr × Value)} {A : Around} {s : Shared} (ra : KT H ks xs) (rb : KT H ls ys) (h : ∀ z ∈ ks, ∃ n : Int, z.2 = .int n ∧ valV ls z.1 = some (.int n)) :
    ∀ x ∈ xs, ∃ p, atKey ys x.1 = some p ∧ SeqAt.EqAt A s x.2.2 p.2 true := by
  intro x hx
  obtain ⟨i, hi⟩ := List.getElem?_of_mem hx
  obtain ⟨z, hz, e1, _, e3⟩ : ∃ z, ks[i]? = some z ∧ z.1 = x.1 ∧ True ∧ RelV z.2 x.2.2 := by
    clear hx h rb
    induction ra generalizing i with
    | nil => simp at hi
    | @cons p q ps qs hq t ih =>
      cases i with
      | zero =>
        cases hi
        exact ⟨p, rfl, hq.1, trivial, hq.2.2⟩
      | succ i => exact ih i hi
  obtain ⟨n, e4, e5⟩ := h z (List.mem_of_getElem? hz)
  rw [e4] at e3
  obtain ⟨t, e6⟩ : ∃ t, x.2.2 = Value.int n t := e3
  obtain ⟨v, e7, e8⟩ := RelO.some_of (v := .int n) (o := (atKey ys z.1).map (·.2)) (by rw [← e5]; exact rb.val z.1)
  obtain ⟨p, e9, e10⟩ := Option.map_eq_some_iff.mp e7
  obtain ⟨t2, e11⟩ : ∃ t, v = Value.int n t := e8
  refine ⟨p, by rw [← e1]; exact e9, ?_⟩
  rw [e6, e10, e11]
  have := SeqAt.EqAt.int_int (A := A) (s := s) n t n t2
  simpa using this
theorem monB_dicT : MonB BDicT := fun x y b H H' e d => by
  obtain ⟨h0, p, q, ks, ls, h1, h2, h3, h4, h5, h6⟩ := d
  exact ⟨h0, p, q, ks, ls, h1, h2, e _ _ h3, e _ _ h4, h5, h6⟩
theorem eqB_dicT : EqB X 2 BDicT := by
  intro A pins s σ H x y u v b sb I rx ry d
  obtain ⟨rfl, p, q, ks, ls, rfl, rfl, hp, hq, hl, hk⟩ := d
  cases rx
  cases ry
  by_cases hpq : p = q
  · subst hpq
    exact SeqAt.EqAt.same (A := A) (s := s) _ X.prog X.w X.xe _ ⟨rfl, H, I, Ext.rfl'⟩
  refine eqBool_by (.inl ⟨_, rfl⟩) (beq_eq_false_iff_ne.mpr fun e => hpq (by injection e)) ?_
  obtain ⟨_, n1, xs, ra, da⟩ := dt_of I.hok hp
  obtain ⟨_, n2, ys, rb, db⟩ := dt_of I.hok hq
  have hu : A.units + 1 < cLine := by
    have := sb.room.units
    omega
  refine DcT.eq_heap n1 n2 (by omega) (show (tupleKind (mixKind X.prog X.w)).room A.in1 from tupleKind_room_in1 hu) da db ?_ (hits_t ra rb hk) ⟨true, rfl, rfl, H, I, Ext.rfl'⟩
  rw [← Paired.length ra, ← Paired.length rb]
  exact hl
end
end KA
/-! d.values() as a thing, list of it; calls with keywords within a try -/
namespace KA
open PySem PySem.Spec PyProof.Rows L2
/-- the view d.values() at p -/
def vwO (p d : Addr) : HO := .ext fun h => h.IsValuesView p d
section
variable {X : Cx}
def rValsK : V → List V → Hp → VK → Prop := fun x xs H Q => ∃ (a : Addr) (kvs : List (Key × V)), x = .ref a ∧ xs = [] ∧ H a = some (.dK kvs) ∧ ∀ p, H p = none → Q (.ref p) (upd H p (vwO p a))
theorem mt_valsK : MtR X "dict.values" rValsK := by
  intro pins s σ H x xs v us Q I rx rxs h
  obtain ⟨a, kvs, rfl, rfl, ha, q⟩ := h
  cases rx
  cases rxs
  obtain ⟨_, ns, vs, rl, dd⟩ := dk_of I.hok ha
  refine call_meetsIn PySem.F.slot_dict_values dd.typeIs PySem.F.entry_dict_values (PySem.F.args_dict_values_1 _) (meets_dict_values (mixKind X.prog X.w) a ns) ⟨⟨vs, dd⟩, ?_⟩
  have e : (s.heap.push { cls := .type "dict_values", data := .fields #[.ref a] }).get? s.heap.objs.size = some { cls := .type "dict_values", data := .fields #[.ref a] } := Heap.get?_push_size _ rfl
  exact ⟨.ref s.heap.objs.size, upd H s.heap.objs.size (vwO s.heap.objs.size a), I.laid (t' := s.toks) (fun b u e => Heap.get?_push_of_some _ e) (Nat.le_refl _) ⟨⟨_, e, rfl, rfl⟩, ⟨_, e⟩, fun h1 h2 x k => let ⟨o, ho, r⟩ := x; ⟨o, k o ho, r⟩⟩, rfl, q _ (I.hok.fresh (Nat.le_refl _))⟩
/-- list(d.values()) -/
theorem call_listVals (hc : X.calm = true) : CallR X (.type "list") (fun xs H Q => ∃ p a kvs, xs = [V.ref p] ∧ H p = some (vwO p a) ∧ H a = some (.dK kvs) ∧ ∀ q, H q = none → Q (.ref q) (upd H q (.lst (kvs.map (·.2))))) := by
  intro pins s σ H xs us Q I r h
  obtain ⟨p, a, kvs, rfl, hp, ha, q⟩ := h
  obtain ⟨u, rfl, rx⟩ := vals1 r
  obtain rfl : u = Value.ref p := rx
  obtain ⟨hv, _⟩ := (show ObjOk X.prog X.w H s.heap p (vwO p a) from I.hok p _ hp)
  obtain ⟨z, ns, vs, rl, dd⟩ := dk_of I.hok ha
  obtain ⟨ep, hat⟩ := dd.dictAt
  have hl : kvs.length = vs.length := Paired.length rl
  refine PySem.W.kdl_call (PySem.W.kdl_values (knd := mixKind X.prog X.w) (kvs := vs) (ep := ep) (d := a)) (I.ok.hd hc) ⟨hv, hat⟩ (by rw [← hl]; exact z) fun h' tk acc c kp hS hacc => ?_
  refine ⟨.ref s.heap.objs.size, upd H s.heap.objs.size (.lst (kvs.map (·.2))), I.laid kp (Nat.le_refl _) (show ObjOk X.prog X.w _ _ _ (.lst (kvs.map (·.2))) from ⟨by rw [List.length_map]; exact z, acc.toList, c, ?_, by rw [Array.toArray_toList]; exact hS⟩), rfl, q _ (I.hok.fresh (Nat.le_refl _))⟩
  refine vals_of_at (by rw [List.length_map, show acc.toList.length = acc.size by simp, hacc.1, hl]) fun j x w h1 h2 => ?_
  obtain ⟨k, hk⟩ := hacc.2 j w (by rw [← Array.getElem?_toList]; exact h2)
  rw [List.getElem?_map] at h1
  have : ∀ {ps : List (Key × V)} {qs : List (Key × Value)}, KV ps qs → ∀ {j : Nat} {k : Key} {w : Value} {x : V}, qs[j]? = some (k, w) → (ps[j]?).map (·.2) = some x → RelV x w := by
    intro ps qs r
    induction r with
    | nil => intro j k w x e; simp at e
    | cons r t ih =>
      intro j k w x e1 e2
      cases j with
      | zero =>
        cases e1
        cases e2
        exact r.2
      | succ j => exact ih e1 e2
  exact this rl hk h1
end
/-! calls with keywords within a try -/
def tCallNT (n m : Nat) (sp : Sp) (gV : List V → List V → List V) (E : L2.St → XK) (t tk : TA) : TE := fun σ H Q => L2.tCallN n m sp gV (E σ) t tk σ H Q
section
variable {X : Cx} {CX : CXT} {k n : Nat} {f : Addr} {fd : FuncData} {ps ks : List Str} {sp : Sp} {E : L2.St → XK} {x : Str} {p pos : Pos} {e : Expr} {es : List Expr} {kws : List Keyword} {t tk : TA} {g : List Value → List Value → List Value} {gV : List V → List V → List V}
theorem run_fnT {pins : List (Addr × Obj)} {σ : L2.St} {H : Hp} {s : Shared} {Q : VK} {us ws : List Value} {vs zs : List V} (F : FnOk X.prog X.w X.K X.mg X.base CX k f fd ps sp) (hr : Room k X.A) (hb : KBn X.K fd ps n ks g gV) (hx : PassesAt CX X σ (E σ))
    (I : L2.Inv X pins σ H s) (r : Vals vs us) (rz : Vals zs ws) (l1 : vs.length = n) (l2 : zs.length = ks.length) (h : sp (gV vs zs) H Q (E σ)) : wpAny (model X.prog X.w) X.A (call (.ref f) us (ks.zip ws)) (EP X pins σ Q) X.xe s := by
  refine wpAny_call (codeAny_mono (F.run X.A X.stack s H ⟨us, ks.zip ws⟩ (g us ws) (gV vs zs) Q (E σ) hr I.env0 (hb.to s us ws I.kIn (r.length.symm.trans l1) (rz.length.symm.trans l2)) (hb.rel r rz) h) fun r s' hq => ?_)
  match r, hq with
  | .error e, hq => exact hx pins H s e s' I hq
  | .ok (.ret u), hq => exact I.after hq
theorem pe_callNT (F : FnOk X.prog X.w X.K X.mg X.base CX k f fd ps sp) (hr : Room k X.A) (hg : Gl X x) (hm : X.mg x = some (.ref f)) (hk : PySem.W.keepIn X.K (.ref f) = true) (hb : KBn X.K fd ps n ks g gV) (hx : ∀ σ, PassesAt CX X σ (E σ))
    (ha : PA X (e :: es) t) (hkw : PK X kws tk) (hall : (backToKw pos (keywordEach kws X.env)).all (·.1.isSome) = true := by rfl) (hks : (backToKw pos (keywordEach kws X.env)).filterMap (·.1) = ks := by rfl)
    (hdb : (x == ("__debug__" : Str)) = false := by decide) (he : starEach (e :: es) X.env = (false, eval e X.env) :: starEach es X.env := by rfl)
    (hpl : ((backTo pos (starEach (e :: es) X.env)).any (·.1) || (backToKw pos (keywordEach kws X.env)).any (·.1.isNone)) = false := by rfl) :
    PE X (.Call (.Name x p) (e :: es) kws pos) (tCallNT n ks.length sp gV E t tk) := by
  refine ⟨fun pins s σ H Q I h => ?_⟩
  refine wpAny_Call_Name_kw (ld_glob I hg hm ?_ hdb)
  refine PySem.W.callWith_KW (h₀ := X.base) I.ok.mod.kin hk hall (thn (ha.run pos pins s σ H _ I h) fun us s1 ⟨vs, H1, I1, r, q⟩ => ?_) hpl he
  refine thn (hkw.run pos pins s1 σ H1 _ I1 q) fun ws s2 ⟨zs, H2, I2, rz, l1, l2, q2⟩ => ⟨I2.kIn, ?_⟩
  rw [hks]
  exact run_fnT F hr hb (hx σ) I2 r rz l1 l2 q2
theorem pe_callNT0 (F : FnOk X.prog X.w X.K X.mg X.base CX k f fd ps sp) (hr : Room k X.A) (hg : Gl X x) (hm : X.mg x = some (.ref f)) (hk : PySem.W.keepIn X.K (.ref f) = true) (hb : KBn X.K fd ps 0 ks g gV) (hx : ∀ σ, PassesAt CX X σ (E σ)) (hkw : PK X kws tk)
    (hall : (backToKw pos (keywordEach kws X.env)).all (·.1.isSome) = true := by rfl) (hks : (backToKw pos (keywordEach kws X.env)).filterMap (·.1) = ks := by rfl) (hdb : (x == ("__debug__" : Str)) = false := by decide)
    (hpl : ((backTo pos (starEach [] X.env)).any (·.1) || (backToKw pos (keywordEach kws X.env)).any (·.1.isNone)) = false := by rfl) :
    PE X (.Call (.Name x p) [] kws pos) (tCallNT 0 ks.length sp gV E tNil tk) := by
  refine ⟨fun pins s σ H Q I h => ?_⟩
  refine wpAny_Call_Name_kw (ld_glob I hg hm ?_ hdb)
  refine PySem.W.callWith_KW0 (h₀ := X.base) I.ok.mod.kin hk hall ?_ hpl
  refine thn (hkw.run pos pins s σ H _ I h) fun ws s2 ⟨zs, H2, I2, rz, l1, l2, q2⟩ => ⟨I2.kIn, ?_⟩
  rw [hks]
  exact run_fnT (us := []) (vs := []) F hr hb (hx σ) I2 .nil rz rfl l2 q2
end
end KA
/-! the keys of a dict walked, under a lock: comprehensions that leave keys out; enumerate within a comprehension -/
namespace KA
open PySem PySem.Spec PyProof.Rows L2
theorem pi_enumK {X : Cx} {K' : PySem.W.Frag} {e : Expr} {ta : TA} {p pos tpos : Pos} {elts : List Expr} {kk : Nat} (hK : X.K = K') (hg : Gl X "enumerate") (hm : X.mg "enumerate" = none) (ha : PA X [e] ta)
    (hs : starEach [e] X.env = [(false, eval e X.env)] := by rfl) : PI X (.Tuple elts kk tpos) (.Call (.Name "enumerate" p) [e] [] pos) (iEnum K' ta) := hK ▸ pi_enum hg hm ha hs
theorem cr_anyK {X : Cx} {K' : PySem.W.Frag} (hK : X.K = K') (hc : X.calm = true) : CallR X (.builtin "any") (rAny K') := hK ▸ cr_any hc
theorem unlock {H H' : Hp} {d : Addr} {u : HO} {od : Obj} (e : H d = some u) (s : Same (upd H d (.frz od u)) H') : Same H (upd H' d u) := fun b o h => by
  by_cases c : b = d
  · rw [c, upd_same, ← h, c, e]
  · rw [upd_ne c]
    exact s b o (by rw [upd_ne c]; exact h)
theorem locked {H : Hp} {d : Addr} {u : HO} {od : Obj} {c : Addr} {o : HO} (h : H c = some o) (n : c ≠ d) : (upd H d (.frz od u)) c = some o := by rw [upd_ne n]; exact h
theorem locked_none {H : Hp} {d : Addr} {u : HO} {od : Obj} (e : H d = some u) {c : Addr} (h : (upd H d (.frz od u)) c = none) : H c = none ∧ c ≠ d := by
  by_cases z : c = d
  · rw [z, upd_same] at h
    cases h
  · rw [upd_ne z] at h
    exact ⟨h, z⟩
/-- keys of a locked dict, some left out -/
theorem lc_keysF {d D : Addr} {od : Obj} {kvs : List (Key × V)} {H : Hp} (hd : H d = some (.frz od (.dK kvs))) (hD : H D = none) (hl : kvs.length ≤ 10000) (p : Key × V → Bool)
    {g : TG} {tt : TT} {te : TE} {vs : List Nat} {σ : L2.St} {Qd : Hp → Prop}
    (turn : ∀ (i : Nat) (kv : Key × V) (H2 : Hp) (R : V → Hp → Prop) (C : Hp → Prop), kvs[i]? = some kv → Same H H2 → (p kv = true → ∀ H3, Same H2 H3 → R (kV kv.1) H3) → (p kv = false → ∀ H3, Same H2 H3 → C H3) → g (kV kv.1) (wipe σ vs) H2 fun σ2 H2 => wipe σ2 vs = wipe σ vs ∧ tt σ2 H2 fun b H3 => if b = true then te σ2 H3 R else C H3)
    (fin : ∀ H', Same H H' → H' D = some (.lst ((kvs.filter p).map fun kv => kV kv.1)) → Qd H') :
    ∃ W : Nat → Nat → Hp → Prop, (∃ m, W 0 m (upd H D (.lst []))) ∧ ∀ i m H, W i m H →
      ((Itk d od kvs).stop i H ∧ Qd H) ∨ ((Itk d od kvs).go i H ∧ ∃ Nx : Hp → Prop, (∀ H', Nx H' → ∃ m', m' < m ∧ W (i + 1) m' H') ∧ ∀ x H', (Itk d od kvs).yld i H x H' → g x (wipe σ vs) H' fun σ2 H2 => wipe σ2 vs = wipe σ vs ∧ tt σ2 H2 fun b H3 =>
        if b = true then te σ2 H3 fun y H4 => ∃ acc, H4 D = some (.lst acc) ∧ acc.length < sizeLine ∧ Nx (upd H4 D (.lst (acc ++ [y]))) else Nx H3) := by
  refine lc_it (walk_keys (d := d) (o := od) (kvs := kvs)) (fun i H' => Same H H' ∧ H' D = some (.lst (((kvs.take i).filter p).map fun kv => kV kv.1))) ⟨same_upd hD, upd_same⟩ (fun i H' _ h => h.1 _ _ hd) ?_ ?_
  · rintro i x H1 H2 hi ⟨s1, e1⟩ ⟨rfl, k, v, hkv, rfl⟩
    have tk : (kvs.take (i + 1)).filter p = (kvs.take i).filter p ++ [(k, v)].filter p := by
      rw [List.take_add_one, hkv, List.filter_append]
      rfl
    refine turn i (k, v) _ _ _ hkv s1 (fun hp H3 s3 => ?_) (fun hp H3 s3 => ?_)
    · refine ⟨_, s3 _ _ e1, ?_, fun b o h => ?_, ?_⟩
      · rw [List.length_map]
        refine Nat.lt_of_le_of_lt (List.length_filter_le _ _) ?_
        rw [List.length_take]
        exact Nat.lt_of_le_of_lt (show min i kvs.length ≤ 10000 by omega) (by decide)
      · rw [upd_ne (ne_of_none h hD)]
        exact s3 _ _ (s1 _ _ h)
      · rw [upd_same, tk, List.filter_cons_of_pos hp, List.map_append]
        rfl
    · refine ⟨s1.trans s3, ?_⟩
      rw [s3 _ _ e1, tk, List.filter_cons_of_neg (by rw [hp]; exact Bool.false_ne_true)]
      show _ = some (HO.lst ((_ ++ []).map _))
      rw [List.append_nil]
  · rintro H' ⟨s, e⟩
    refine fin H' s ?_
    rw [e, List.take_length]
/-- a list, some left out -/
theorem lc_listF {K : PySem.W.Frag} {a D : Addr} {xs : List V} {H : Hp} (hD : H D = none) (hS : SqL K H a xs) (hl : xs.length ≤ 10000) (p : V → Bool)
    {g : TG} {tt : TT} {te : TE} {vs : List Nat} {σ : L2.St} {Qd : Hp → Prop}
    (turn : ∀ (i : Nat) (x : V) (H2 : Hp) (R : V → Hp → Prop) (C : Hp → Prop), xs[i]? = some x → Same H H2 → (p x = true → ∀ H3, Same H2 H3 → R x H3) → (p x = false → ∀ H3, Same H2 H3 → C H3) → g x (wipe σ vs) H2 fun σ2 H2 => wipe σ2 vs = wipe σ vs ∧ tt σ2 H2 fun b H3 => if b = true then te σ2 H3 R else C H3)
    (fin : ∀ H', Same H H' → H' D = some (.lst (xs.filter p)) → Qd H') :
    ∃ W : Nat → Nat → Hp → Prop, (∃ m, W 0 m (upd H D (.lst []))) ∧ ∀ i m H, W i m H →
      ((Itl K a).stop i H ∧ Qd H) ∨ ((Itl K a).go i H ∧ ∃ Nx : Hp → Prop, (∀ H', Nx H' → ∃ m', m' < m ∧ W (i + 1) m' H') ∧ ∀ x H', (Itl K a).yld i H x H' → g x (wipe σ vs) H' fun σ2 H2 => wipe σ2 vs = wipe σ vs ∧ tt σ2 H2 fun b H3 =>
        if b = true then te σ2 H3 fun y H4 => ∃ acc, H4 D = some (.lst acc) ∧ acc.length < sizeLine ∧ Nx (upd H4 D (.lst (acc ++ [y]))) else Nx H3) := by
  refine lc_it (walk_list (K := K) (a := a) (xs := xs)) (fun i H' => Same H H' ∧ H' D = some (.lst ((xs.take i).filter p))) ⟨same_upd hD, upd_same⟩ (fun i H' _ h => h.1.seq hS) ?_ ?_
  · rintro i x H1 H2 hi ⟨s1, e1⟩ ⟨rfl, hx⟩
    have tk : (xs.take (i + 1)).filter p = (xs.take i).filter p ++ [x].filter p := by
      rw [List.take_add_one, hx, List.filter_append]
      rfl
    refine turn i x _ _ _ hx s1 (fun hp H3 s3 => ?_) (fun hp H3 s3 => ?_)
    · refine ⟨_, s3 _ _ e1, ?_, fun b o h => ?_, ?_⟩
      · refine Nat.lt_of_le_of_lt (List.length_filter_le _ _) ?_
        rw [List.length_take]
        exact Nat.lt_of_le_of_lt (show min i xs.length ≤ 10000 by omega) (by decide)
      · rw [upd_ne (ne_of_none h hD)]
        exact s3 _ _ (s1 _ _ h)
      · rw [upd_same, tk, List.filter_cons_of_pos hp]
        rfl
    · refine ⟨s1.trans s3, ?_⟩
      rw [s3 _ _ e1, tk, List.filter_cons_of_neg (by rw [hp]; exact Bool.false_ne_true)]
      show _ = some (HO.lst (_ ++ []))
      rw [List.append_nil]
  · rintro H' ⟨s, e⟩
    refine fin H' s ?_
    rw [e, List.take_length]
/-- a list, some left out, of the others something told -/
theorem lc_listM {K : PySem.W.Frag} {a D : Addr} {xs : List V} {H : Hp} (hD : H D = none) (hS : SqL K H a xs) (hl : xs.length ≤ 10000) (p : V → Bool) (f : V → V)
    {g : TG} {tt : TT} {te : TE} {vs : List Nat} {σ : L2.St} {Qd : Hp → Prop}
    (turn : ∀ (i : Nat) (x : V) (H2 : Hp) (R : V → Hp → Prop) (C : Hp → Prop), xs[i]? = some x → Same H H2 → (p x = true → ∀ H3, Same H2 H3 → R (f x) H3) → (p x = false → ∀ H3, Same H2 H3 → C H3) → g x (wipe σ vs) H2 fun σ2 H2 => wipe σ2 vs = wipe σ vs ∧ tt σ2 H2 fun b H3 => if b = true then te σ2 H3 R else C H3)
    (fin : ∀ H', Same H H' → H' D = some (.lst ((xs.filter p).map f)) → Qd H') :
    ∃ W : Nat → Nat → Hp → Prop, (∃ m, W 0 m (upd H D (.lst []))) ∧ ∀ i m H, W i m H →
      ((Itl K a).stop i H ∧ Qd H) ∨ ((Itl K a).go i H ∧ ∃ Nx : Hp → Prop, (∀ H', Nx H' → ∃ m', m' < m ∧ W (i + 1) m' H') ∧ ∀ x H', (Itl K a).yld i H x H' → g x (wipe σ vs) H' fun σ2 H2 => wipe σ2 vs = wipe σ vs ∧ tt σ2 H2 fun b H3 =>
        if b = true then te σ2 H3 fun y H4 => ∃ acc, H4 D = some (.lst acc) ∧ acc.length < sizeLine ∧ Nx (upd H4 D (.lst (acc ++ [y]))) else Nx H3) := by
  refine lc_it (walk_list (K := K) (a := a) (xs := xs)) (fun i H' => Same H H' ∧ H' D = some (.lst (((xs.take i).filter p).map f))) ⟨same_upd hD, upd_same⟩ (fun i H' _ h => h.1.seq hS) ?_ ?_
  · rintro i x H1 H2 hi ⟨s1, e1⟩ ⟨rfl, hx⟩
    have tk : (xs.take (i + 1)).filter p = (xs.take i).filter p ++ [x].filter p := by
      rw [List.take_add_one, hx, List.filter_append]
      rfl
    refine turn i x _ _ _ hx s1 (fun hp H3 s3 => ?_) (fun hp H3 s3 => ?_)
    · refine ⟨_, s3 _ _ e1, ?_, fun b o h => ?_, ?_⟩
      · rw [List.length_map]
        refine Nat.lt_of_le_of_lt (List.length_filter_le _ _) ?_
        rw [List.length_take]
        exact Nat.lt_of_le_of_lt (show min i xs.length ≤ 10000 by omega) (by decide)
      · rw [upd_ne (ne_of_none h hD)]
        exact s3 _ _ (s1 _ _ h)
      · rw [upd_same, tk, List.filter_cons_of_pos hp, List.map_append]
        rfl
    · refine ⟨s1.trans s3, ?_⟩
      rw [s3 _ _ e1, tk, List.filter_cons_of_neg (by rw [hp]; exact Bool.false_ne_true)]
      show _ = some (HO.lst ((_ ++ []).map _))
      rw [List.append_nil]
  · rintro H' ⟨s, e⟩
    refine fin H' s ?_
    rw [e, List.take_length]
theorem lc_genRD {n : Nat} {H : Hp} {D : Addr} (hD : H D = none) (hl : n ≤ 10000) (G : Nat → V → Hp → Prop) (hG : ∀ j v H1 H2, But D H1 H2 → G j v H1 → G j v H2)
    {g : TG} {tt : TT} {te : TE} {vs : List Nat} {σ : L2.St} {Qd : Hp → Prop}
    (turn : ∀ (i : Nat) (H2 : Hp) (R : V → Hp → Prop) (C : Hp → Prop), i < n → Same H H2 → (∃ acc, H2 D = some (.lst acc)) → (∀ v H3, Same H2 H3 → G i v H3 → R v H3) → g (.int (0 + i)) (wipe σ vs) H2 fun σ2 H2 => wipe σ2 vs = wipe σ vs ∧ tt σ2 H2 fun b H3 => if b = true then te σ2 H3 R else C H3)
    (fin : ∀ H' acc, Same H H' → H' D = some (.lst acc) → acc.length = n → (∀ j v, acc[j]? = some v → G j v H') → Qd H') :
    ∃ W : Nat → Nat → Hp → Prop, (∃ m, W 0 m (upd H D (.lst []))) ∧ ∀ i m H, W i m H →
      ((Itr 0 n).stop i H ∧ Qd H) ∨ ((Itr 0 n).go i H ∧ ∃ Nx : Hp → Prop, (∀ H', Nx H' → ∃ m', m' < m ∧ W (i + 1) m' H') ∧ ∀ x H', (Itr 0 n).yld i H x H' → g x (wipe σ vs) H' fun σ2 H2 => wipe σ2 vs = wipe σ vs ∧ tt σ2 H2 fun b H3 =>
        if b = true then te σ2 H3 fun y H4 => ∃ acc, H4 D = some (.lst acc) ∧ acc.length < sizeLine ∧ Nx (upd H4 D (.lst (acc ++ [y]))) else Nx H3) := by
  refine lc_range (lo := 0) (n := n) (fun i H' => Same H H' ∧ ∃ acc, H' D = some (.lst acc) ∧ acc.length = i ∧ ∀ j v, acc[j]? = some v → G j v H') ⟨same_upd hD, [], upd_same, rfl, fun j v h => by simp at h⟩ ?_ ?_
  · rintro i H2 hi ⟨s2, acc, e2, l2, g2⟩
    refine turn i H2 _ _ hi s2 ⟨acc, e2⟩ fun v H3 s3 hv => ?_
    have e3 := s3 _ _ e2
    refine ⟨acc, e3, ?_, fun b o h => ?_, acc ++ [v], upd_same, ?_, fun j w hj => ?_⟩
    · rw [l2]
      exact Nat.lt_of_lt_of_le (show i < 10000 by omega) (by decide)
    · rw [upd_ne (ne_of_none h hD)]
      exact s3 _ _ (s2 _ _ h)
    · rw [List.length_append, l2]
      rfl
    · refine hG j w H3 _ But.at_ ?_
      by_cases h : j < acc.length
      · rw [List.getElem?_append_left h] at hj
        exact hG j w H2 H3 (But.of s3) (g2 j w hj)
      · rw [List.getElem?_append_right (by omega)] at hj
        have : j = i := by
          have := (List.getElem?_eq_some_iff.mp hj).1
          rw [List.length_singleton] at this
          omega
        subst this
        rw [l2, Nat.sub_self] at hj
        have : v = w := Option.some.inj hj
        subst this
        exact hv
  · rintro H' ⟨s, acc, e, l, g⟩
    exact fin H' acc s e l g
/-- a loop of any body over the keys of a locked dict -/
theorem itk_loop {d : Addr} {od : Obj} {kvs : List (Key × V)} {H1 : Hp} {B : V → Hp → (Hp → Prop) → Prop} {Qd : Hp → Prop} (Pv : Nat → Hp → Prop) (h0 : Pv 0 H1) (hl : ∀ i H, i ≤ kvs.length → Pv i H → H d = some (.frz od (.dK kvs)))
    (hs : ∀ i kv H, kvs[i]? = some kv → Pv i H → B (kV kv.1) H (Pv (i + 1))) (hd : ∀ H, Pv kvs.length H → Qd H) :
    ∃ W : Nat → Nat → Hp → Prop, (∃ m, W 0 m H1) ∧ ∀ i m H, W i m H →
      ((Itk d od kvs).stop i H ∧ Qd H) ∨ ((Itk d od kvs).go i H ∧ ∃ Nx : Hp → Prop, (∀ H', Nx H' → ∃ m', m' < m ∧ W (i + 1) m' H') ∧ ∀ x H', (Itk d od kvs).yld i H x H' → B x H' Nx) := by
  have w := walk_keys (d := d) (o := od) (kvs := kvs)
  refine ⟨fun i m H => m = kvs.length - i ∧ i ≤ kvs.length ∧ Pv i H, ⟨kvs.length, by simp, Nat.zero_le _, h0⟩, ?_⟩
  rintro i m H ⟨rfl, hi, p⟩
  have q := hl i H hi p
  by_cases hlt : i < kvs.length
  · refine .inr ⟨w.goes i H hlt q, Pv (i + 1), fun H' p' => ⟨kvs.length - (i + 1), by omega, rfl, hlt, p'⟩, fun x H' y => ?_⟩
    obtain ⟨rfl, k, v, hkv, rfl⟩ := w.yields i H x H' hlt q y
    exact hs i (k, v) _ hkv p
  · have e : i = kvs.length := by omega
    subst e
    exact .inl ⟨w.stops H q, hd H p⟩
/-- a dict made key by key, all keys unlike -/
theorem dc_walk {J : It} {n : Nat} {G : Hp → Prop} {Y : Nat → Hp → V → Hp → Prop} (w : Walk J n G Y) {H : Hp} {D : Addr} (hD : H D = none) (X : Nat → V → Prop) (hY : ∀ i H x H', Y i H x H' → H' = H ∧ X i x) (hG : ∀ H', Same H H' → G H')
    (ks : List Key) (nk : ks.Nodup) (lk : ks.length = n) (hn : n ≤ 1000) (Pz : Nat → V → Hp → Prop) (mono : ∀ j v H1 H2, (∀ c o, (∀ kvs, o ≠ HO.dK kvs) → H1 c = some o → H2 c = some o) → Pz j v H1 → Pz j v H2)
    {g : TG} {tt : TT} {tk tv : TE} {vs : List Nat} {σ : L2.St} {Qd : Hp → Prop}
    (turn : ∀ (i : Nat) (x : V) (k : Key) (H2 : Hp) (R : V → V → Hp → Prop) (C : Hp → Prop), X i x → ks[i]? = some k → Same H H2 → (∀ H3 v, Same H2 H3 → Pz i v H3 → R (kV k) v H3) → g x (wipe σ vs) H2 fun σ2 H2 => wipe σ2 vs = wipe σ vs ∧ tt σ2 H2 fun b H3 => if b = true then tk σ2 H3 fun y H4 => tv σ2 H4 fun z H5 => R y z H5 else C H3)
    (fin : ∀ H' kvs, Same H H' → H' D = some (.dK kvs) → kvs.map Prod.fst = ks → (∀ (j : Nat) (v : V), (kvs.map Prod.snd)[j]? = some v → Pz j v H') → Qd H') :
    ∃ W : Nat → Nat → Hp → Prop, (∃ m, W 0 m (upd H D (.dK []))) ∧ ∀ i m H, W i m H →
      (J.stop i H ∧ Qd H) ∨ (J.go i H ∧ ∃ Nx : Hp → Prop, (∀ H', Nx H' → ∃ m', m' < m ∧ W (i + 1) m' H') ∧ ∀ x H', J.yld i H x H' → g x (wipe σ vs) H' fun σ2 H2 => wipe σ2 vs = wipe σ vs ∧ tt σ2 H2 fun b H3 =>
        if b = true then tk σ2 H3 fun y H4 => tv σ2 H4 fun z H5 => ∃ kvs k, y = kV k ∧ H5 D = some (.dK kvs) ∧ kvs.length < sizeLine ∧ Nx (upd H5 D (.dK (putK kvs k z))) else Nx H3) := by
  refine ⟨fun i m H' => m = n - i ∧ i ≤ n ∧ Same H H' ∧ ∃ kvs, H' D = some (.dK kvs) ∧ kvs.map Prod.fst = ks.take i ∧ ∀ (j : Nat) (v : V), (kvs.map Prod.snd)[j]? = some v → Pz j v H', ⟨n, by simp, Nat.zero_le _, same_upd hD, [], upd_same, rfl, fun j v h => by simp at h⟩, ?_⟩
  rintro i m H1 ⟨rfl, hi, s1, kvs, e1, k1, p1⟩
  by_cases hlt : i < n
  · refine .inr ⟨w.goes i H1 hlt (hG H1 s1), fun H' => Same H H' ∧ ∃ kvs, H' D = some (.dK kvs) ∧ kvs.map Prod.fst = ks.take (i + 1) ∧ ∀ (j : Nat) (v : V), (kvs.map Prod.snd)[j]? = some v → Pz j v H', fun H' h => ⟨n - (i + 1), by omega, rfl, hlt, h⟩, fun x H' y => ?_⟩
    obtain ⟨rfl, hx⟩ := hY i H1 x H' (w.yields i H1 x H' hlt (hG H1 s1) y)
    have hk : ks[i]? = some ks[i] := List.getElem?_eq_getElem (by omega)
    generalize ks[i] = k at hk
    have lkv : kvs.length = i := by
      have := congrArg List.length k1
      rw [List.length_map, List.length_take] at this
      omega
    refine turn i x k H' _ _ hx hk s1 fun H3 v s3 pv => ?_
    have e3 := s3 _ _ e1
    have new : valV kvs k = none := by
      have h0 : (valV kvs k).isSome = false := by
        rw [← valV_any]
        refine Bool.eq_false_iff.mpr fun z => ?_
        obtain ⟨q, hq, e⟩ := List.any_eq_true.mp z
        have hm : k ∈ ks.take i := by
          rw [← k1, ← of_decide_eq_true e]
          exact List.mem_map_of_mem hq
        obtain ⟨j, hj, ej⟩ := List.mem_iff_getElem.mp hm
        rw [List.length_take] at hj
        rw [List.getElem_take] at ej
        obtain ⟨hi', ei⟩ := List.getElem?_eq_some_iff.mp hk
        have := (List.getElem_inj (h₀ := by omega) (h₁ := hi') nk).mp (ej.trans ei.symm)
        omega
      exact Option.isNone_iff_eq_none.mp (by rw [Option.isNone_iff_eq_none]; cases h : valV kvs k with | none => rfl | some _ => rw [h] at h0; cases h0)
    have sD : Same H (upd H3 D (.dK (putK kvs k v))) := fun b o e => by
      rw [upd_ne (ne_of_none e hD)]
      exact s3 _ _ (s1 _ _ e)
    have kd : ∀ c o, (∀ kvs, o ≠ HO.dK kvs) → H3 c = some o → (upd H3 D (.dK (putK kvs k v))) c = some o := fun c o n e => by
      rw [upd_ne (fun z => by
        rw [z, e3] at e
        exact n _ (Option.some.inj e).symm)]
      exact e
    refine ⟨kvs, k, rfl, e3, Nat.lt_of_le_of_lt (show kvs.length ≤ 1000 by omega) (by decide), sD, _, upd_same, ?_, fun j u hu => ?_⟩
    · rw [putK_new _ new, List.map_append, k1, List.take_add_one, hk]
      rfl
    · rw [putK_new _ new, List.map_append] at hu
      by_cases c : j < kvs.length
      · rw [List.getElem?_append_left (by rw [List.length_map]; exact c)] at hu
        exact mono j u _ _ kd (mono j u _ _ (fun c o _ e => s3 c o e) (p1 j u hu))
      · rw [List.getElem?_append_right (by rw [List.length_map]; omega), List.length_map] at hu
        have hj := (List.getElem?_eq_some_iff.mp hu).1
        simp at hj
        have ej : j = i := by omega
        subst ej
        rw [lkv, Nat.sub_self] at hu
        cases hu
        exact mono j v _ _ kd pv
  · have ei : i = n := by omega
    subst ei
    refine .inl ⟨w.stops H1 (hG H1 s1), fin H1 kvs s1 e1 (by rw [k1, List.take_of_length_le (by omega)]) p1⟩
/-- [x for x in xs if a draw ..] -/
theorem lc_drawF {K : PySem.W.Frag} {P : Int → Prop} {a d D : Addr} {m : Nat} {xs : List V} {H1 : Hp} (hD : H1 D = none) (dr : Dr P d m H1) (nad : a ≠ d) (hS : H1 a = some (.lst xs)) (hl : xs.length ≤ 1000) {g : TG} {tt : TT} {te : TE} {vs : List Nat} {σ : L2.St} {Qd : Hp → Prop}
    (turn : ∀ (i : Nat) (x : V) (H2 : Hp) (R : V → Hp → Prop) (C : Hp → Prop), xs[i]? = some x → Dr P d (m + i) H2 → (∀ H3, But d H2 H3 → Dr P d (m + i + 1) H3 → R x H3 ∧ C H3) → g x (wipe σ vs) H2 fun σ2 H2 => wipe σ2 vs = wipe σ vs ∧ tt σ2 H2 fun b H3 => if b = true then te σ2 H3 R else C H3)
    (fin : ∀ H' (ys : List V), ys.Sublist xs → But d H1 H' → Dr P d (m + xs.length) H' → H' D = some (.lst ys) → Qd H') :
    ∃ W : Nat → Nat → Hp → Prop, (∃ m, W 0 m (upd H1 D (.lst []))) ∧ ∀ i m H, W i m H →
      ((Itl K a).stop i H ∧ Qd H) ∨ ((Itl K a).go i H ∧ ∃ Nx : Hp → Prop, (∀ H', Nx H' → ∃ m', m' < m ∧ W (i + 1) m' H') ∧ ∀ x H', (Itl K a).yld i H x H' → g x (wipe σ vs) H' fun σ2 H2 => wipe σ2 vs = wipe σ vs ∧ tt σ2 H2 fun b H3 =>
        if b = true then te σ2 H3 fun y H4 => ∃ acc, H4 D = some (.lst acc) ∧ acc.length < sizeLine ∧ Nx (upd H4 D (.lst (acc ++ [y]))) else Nx H3) := by
  have nD : D ≠ d := dr.ne hD
  have naD : a ≠ D := ne_of_none hS hD
  refine lc_it (walk_list (K := K) (a := a) (xs := xs)) (fun i H' => ∃ ys : List V, ys.Sublist (xs.take i) ∧ But d H1 H' ∧ Dr P d (m + i) H' ∧ H' D = some (.lst ys) ∧ H' a = some (.lst xs)) ⟨[], List.nil_sublist _, But.new hD, dr.upd nD, upd_same, by rw [upd_ne naD]; exact hS⟩ (fun i H' _ h => ?_) ?_ ?_
  · obtain ⟨_, _, _, _, _, e⟩ := h
    exact SqL.of e
  · rintro i x H H2 hi ⟨ys, hy, b2, dr2, e2, a2⟩ ⟨rfl, hx⟩
    have tk : xs.take (i + 1) = xs.take i ++ [x] := by
      rw [List.take_add_one, hx]
      rfl
    have ly : ys.length ≤ i := by
      have := hy.length_le
      rw [List.length_take] at this
      omega
    refine turn i x H2 _ _ hx dr2 fun H3 b3 dr3 => ⟨?_, ys, ?_, b2.trans b3, dr3, b3 _ _ nD e2, b3 _ _ nad a2⟩
    · refine ⟨_, b3 _ _ nD e2, Nat.lt_of_le_of_lt (show ys.length ≤ 1000 by omega) (by decide), ys ++ [x], ?_, ?_, dr3.upd nD, upd_same, by rw [upd_ne naD]; exact b3 _ _ nad a2⟩
      · rw [tk]
        exact hy.append (List.Sublist.refl _)
      · exact (b2.trans b3).mut hD
    · rw [tk]
      exact hy.trans (List.sublist_append_left _ _)
  · rintro H' ⟨ys, hy, b, dr', e, _⟩
    rw [List.take_length] at hy
    exact fin H' ys hy b dr' e
end KA
/-! dict comprehensions by DPut, key by key: whole numbers (with what the earlier turns told), tuples -/
namespace KA
open PySem PySem.Spec PyProof.Rows L2
theorem val_new {κ : Type} [DecidableEq κ] {kvs : List (κ × V)} {ks : List κ} {i : Nat} {k : κ} (nk : ks.Nodup) (hk : ks[i]? = some k) (k1 : kvs.map Prod.fst = ks.take i) : valV kvs k = none := by
  have h0 : (valV kvs k).isSome = false := by
    rw [← valV_any]
    refine Bool.eq_false_iff.mpr fun z => ?_
    obtain ⟨q, hq, e⟩ := List.any_eq_true.mp z
    have hm : k ∈ ks.take i := by
      rw [← k1, ← of_decide_eq_true e]
      exact List.mem_map_of_mem hq
    obtain ⟨j, hj, ej⟩ := List.mem_iff_getElem.mp hm
    rw [List.length_take] at hj
    rw [List.getElem_take] at ej
    obtain ⟨hi', ei⟩ := List.getElem?_eq_some_iff.mp hk
    have := (List.getElem_inj (h₀ := by omega) (h₁ := hi') nk).mp (ej.trans ei.symm)
    omega
  cases h : valV kvs k with
  | none => rfl
  | some _ => rw [h] at h0; cases h0
/-- keys whole numbers (or texts); what the earlier turns told is known -/
theorem dcg_walkK {J : It} {n : Nat} {G : Hp → Prop} {Y : Nat → Hp → V → Hp → Prop} (w : Walk J n G Y) {H : Hp} {D : Addr} (hD : H D = none) (X : Nat → V → Prop) (hY : ∀ i H x H', Y i H x H' → H' = H ∧ X i x) (hG : ∀ H', Same H H' → G H')
    (ks : List Key) (nk : ks.Nodup) (lk : ks.length = n) (hn : n ≤ 1000) (Pz : Nat → V → Hp → Prop) (mono : ∀ j v H1 H2, (∀ c o, (∀ kvs, o ≠ HO.dK kvs) → H1 c = some o → H2 c = some o) → Pz j v H1 → Pz j v H2) (PP : Nat → Prop) (hPP : ∀ j v H, Pz j v H → PP j)
    {g : TG} {tt : TT} {tk tv : TE} {vs : List Nat} {σ : L2.St} {Qd : Hp → Prop}
    (turn : ∀ (i : Nat) (x : V) (k : Key) (H2 : Hp) (R : V → V → Hp → Prop) (C : Hp → Prop), X i x → ks[i]? = some k → Same H H2 → (∀ j, j < i → PP j) → (∀ H3 v, Same H2 H3 → Pz i v H3 → R (kV k) v H3) → g x (wipe σ vs) H2 fun σ2 H2 => wipe σ2 vs = wipe σ vs ∧ tt σ2 H2 fun b H3 => if b = true then tk σ2 H3 fun y H4 => tv σ2 H4 fun z H5 => R y z H5 else C H3)
    (fin : ∀ H' kvs, Same H H' → H' D = some (.dK kvs) → kvs.map Prod.fst = ks → (∀ (j : Nat) (v : V), (kvs.map Prod.snd)[j]? = some v → Pz j v H') → Qd H') :
    ∃ Wn : Nat → Nat → Hp → Prop, (∃ m, Wn 0 m (upd H D (.dK []))) ∧ ∀ i m H2, Wn i m H2 →
      (J.stop i H2 ∧ Qd H2) ∨ (J.go i H2 ∧ ∃ Nx : Hp → Prop, (∀ H', Nx H' → ∃ m', m' < m ∧ Wn (i + 1) m' H') ∧ ∀ x H', J.yld i H2 x H' → g x (wipe σ vs) H' fun σ2 H3 => wipe σ2 vs = wipe σ vs ∧ tt σ2 H3 fun b H4 =>
        if b = true then tk σ2 H4 fun y H5 => tv σ2 H5 fun z H6 => ∃ H7, DPut H6 D y z H7 ∧ Nx H7 else Nx H4) := by
  refine ⟨fun i m H' => m = n - i ∧ i ≤ n ∧ Same H H' ∧ ∃ kvs, H' D = some (.dK kvs) ∧ kvs.map Prod.fst = ks.take i ∧ ∀ (j : Nat) (v : V), (kvs.map Prod.snd)[j]? = some v → Pz j v H', ⟨n, by simp, Nat.zero_le _, same_upd hD, [], upd_same, rfl, fun j v h => by simp at h⟩, ?_⟩
  rintro i m H1 ⟨rfl, hi, s1, kvs, e1, k1, p1⟩
  have lkv : kvs.length = i := by
    have := congrArg List.length k1
    rw [List.length_map, List.length_take] at this
    omega
  by_cases hlt : i < n
  · refine .inr ⟨w.goes i H1 hlt (hG H1 s1), fun H' => Same H H' ∧ ∃ kvs, H' D = some (.dK kvs) ∧ kvs.map Prod.fst = ks.take (i + 1) ∧ ∀ (j : Nat) (v : V), (kvs.map Prod.snd)[j]? = some v → Pz j v H', fun H' h => ⟨n - (i + 1), by omega, rfl, hlt, h⟩, fun x H' y => ?_⟩
    obtain ⟨rfl, hx⟩ := hY i H1 x H' (w.yields i H1 x H' hlt (hG H1 s1) y)
    have hk : ks[i]? = some ks[i] := List.getElem?_eq_getElem (by omega)
    generalize ks[i] = k at hk
    refine turn i x k H' _ _ hx hk s1 (fun j hj => ?_) fun H3 v s3 pv => ?_
    · have hj2 : j < (kvs.map Prod.snd).length := by rw [List.length_map]; omega
      exact hPP j _ H' (p1 j _ (List.getElem?_eq_getElem hj2))
    have e3 := s3 _ _ e1
    have new : valV kvs k = none := val_new nk hk k1
    have kd : ∀ c o, (∀ kvs, o ≠ HO.dK kvs) → H3 c = some o → (upd H3 D (.dK (putK kvs k v))) c = some o := fun c o n e => by
      rw [upd_ne (fun z => by
        rw [z, e3] at e
        exact n _ (Option.some.inj e).symm)]
      exact e
    refine ⟨_, DPut.k e3 (Nat.lt_of_le_of_lt (show kvs.length ≤ 1000 by omega) (by decide)), fun b o e => ?_, _, upd_same, ?_, fun j u hu => ?_⟩
    · rw [upd_ne (ne_of_none e hD)]
      exact s3 _ _ (s1 _ _ e)
    · rw [putK_new _ new, List.map_append, k1, List.take_add_one, hk]
      rfl
    · rw [putK_new _ new, List.map_append] at hu
      by_cases c : j < kvs.length
      · rw [List.getElem?_append_left (by rw [List.length_map]; exact c)] at hu
        exact mono j u _ _ kd (mono j u _ _ (fun c o _ e => s3 c o e) (p1 j u hu))
      · rw [List.getElem?_append_right (by rw [List.length_map]; omega), List.length_map] at hu
        have hj := (List.getElem?_eq_some_iff.mp hu).1
        simp at hj
        have ej : j = i := by omega
        subst ej
        rw [lkv, Nat.sub_self] at hu
        cases hu
        exact mono j v _ _ kd pv
  · have ei : i = n := by omega
    subst ei
    refine .inl ⟨w.stops H1 (hG H1 s1), fin H1 kvs s1 e1 (by rw [k1, List.take_of_length_le (by omega)]) p1⟩
/-- keys tuples -/
theorem dcg_walkT {J : It} {n : Nat} {G : Hp → Prop} {Y : Nat → Hp → V → Hp → Prop} (w : Walk J n G Y) {H : Hp} {D : Addr} (hD : H D = none) (X : Nat → Hp → V → Prop) (hY : ∀ i H x H', Y i H x H' → H' = H ∧ X i H x) (hG : ∀ H', Same H H' → G H')
    (ks : List (List Key)) (nk : ks.Nodup) (lk : ks.length = n) (hn : n ≤ 10000) (Pz : Nat → V → Hp → Prop) (mono : ∀ j v H1 H2, (∀ c o, (∀ kvs, o ≠ HO.dT kvs) → H1 c = some o → H2 c = some o) → Pz j v H1 → Pz j v H2)
    {g : TG} {tt : TT} {tk tv : TE} {vs : List Nat} {σ : L2.St} {Qd : Hp → Prop}
    (turn : ∀ (i : Nat) (x : V) (k : List Key) (H2 : Hp) (R : V → V → Hp → Prop) (C : Hp → Prop), X i H2 x → ks[i]? = some k → Same H H2 → (∀ H3 t v, Same H2 H3 → H3 t = some (.tup (k.map kV)) → Pz i v H3 → R (.ref t) v H3) → g x (wipe σ vs) H2 fun σ2 H2 => wipe σ2 vs = wipe σ vs ∧ tt σ2 H2 fun b H3 => if b = true then tk σ2 H3 fun y H4 => tv σ2 H4 fun z H5 => R y z H5 else C H3)
    (fin : ∀ H' kvs, Same H H' → H' D = some (.dT kvs) → kvs.map Prod.fst = ks → (∀ (j : Nat) (v : V), (kvs.map Prod.snd)[j]? = some v → Pz j v H') → Qd H') :
    ∃ Wn : Nat → Nat → Hp → Prop, (∃ m, Wn 0 m (upd H D (.dT []))) ∧ ∀ i m H2, Wn i m H2 →
      (J.stop i H2 ∧ Qd H2) ∨ (J.go i H2 ∧ ∃ Nx : Hp → Prop, (∀ H', Nx H' → ∃ m', m' < m ∧ Wn (i + 1) m' H') ∧ ∀ x H', J.yld i H2 x H' → g x (wipe σ vs) H' fun σ2 H3 => wipe σ2 vs = wipe σ vs ∧ tt σ2 H3 fun b H4 =>
        if b = true then tk σ2 H4 fun y H5 => tv σ2 H5 fun z H6 => ∃ H7, DPut H6 D y z H7 ∧ Nx H7 else Nx H4) := by
  refine ⟨fun i m H' => m = n - i ∧ i ≤ n ∧ Same H H' ∧ ∃ kvs, H' D = some (.dT kvs) ∧ kvs.map Prod.fst = ks.take i ∧ ∀ (j : Nat) (v : V), (kvs.map Prod.snd)[j]? = some v → Pz j v H', ⟨n, by simp, Nat.zero_le _, same_upd hD, [], upd_same, rfl, fun j v h => by simp at h⟩, ?_⟩
  rintro i m H1 ⟨rfl, hi, s1, kvs, e1, k1, p1⟩
  have lkv : kvs.length = i := by
    have := congrArg List.length k1
    rw [List.length_map, List.length_take] at this
    omega
  by_cases hlt : i < n
  · refine .inr ⟨w.goes i H1 hlt (hG H1 s1), fun H' => Same H H' ∧ ∃ kvs, H' D = some (.dT kvs) ∧ kvs.map Prod.fst = ks.take (i + 1) ∧ ∀ (j : Nat) (v : V), (kvs.map Prod.snd)[j]? = some v → Pz j v H', fun H' h => ⟨n - (i + 1), by omega, rfl, hlt, h⟩, fun x H' y => ?_⟩
    obtain ⟨rfl, hx⟩ := hY i H1 x H' (w.yields i H1 x H' hlt (hG H1 s1) y)
    have hk : ks[i]? = some ks[i] := List.getElem?_eq_getElem (by omega)
    generalize ks[i] = k at hk
    refine turn i x k H' _ _ hx hk s1 fun H3 t v s3 et pv => ?_
    have e3 := s3 _ _ e1
    have new : valV kvs k = none := val_new nk hk k1
    have kd : ∀ c o, (∀ kvs, o ≠ HO.dT kvs) → H3 c = some o → (upd H3 D (.dT (putK kvs k v))) c = some o := fun c o n e => by
      rw [upd_ne (fun z => by
        rw [z, e3] at e
        exact n _ (Option.some.inj e).symm)]
      exact e
    refine ⟨_, DPut.t e3 et (Nat.lt_of_le_of_lt (show kvs.length ≤ 10000 by omega) (by decide)), fun b o e => ?_, _, upd_same, ?_, fun j u hu => ?_⟩
    · rw [upd_ne (ne_of_none e hD)]
      exact s3 _ _ (s1 _ _ e)
    · rw [putK_new _ new, List.map_append, k1, List.take_add_one, hk]
      rfl
    · rw [putK_new _ new, List.map_append] at hu
      by_cases c : j < kvs.length
      · rw [List.getElem?_append_left (by rw [List.length_map]; exact c)] at hu
        exact mono j u _ _ kd (mono j u _ _ (fun c o _ e => s3 c o e) (p1 j u hu))
      · rw [List.getElem?_append_right (by rw [List.length_map]; omega), List.length_map] at hu
        have hj := (List.getElem?_eq_some_iff.mp hu).1
        simp at hj
        have ej : j = i := by omega
        subst ej
        rw [lkv, Nat.sub_self] at hu
        cases hu
        exact mono j v _ _ kd pv
  · have ei : i = n := by omega
    subst ei
    refine .inl ⟨w.stops H1 (hG H1 s1), fin H1 kvs s1 e1 (by rw [k1, List.take_of_length_le (by omega)]) p1⟩
/-- what a dict made so holds -/
theorem made_get {κ : Type} [DecidableEq κ] {kvs : List (κ × V)} {ks : List κ} (nk : ks.Nodup) (hks : kvs.map Prod.fst = ks) {P : Nat → V → Prop} (hP : ∀ (j : Nat) (v : V), (kvs.map Prod.snd)[j]? = some v → P j v) {i : Nat} {k : κ} (hk : ks[i]? = some k) : ∃ v, valV kvs k = some v ∧ P i v := by
  have hl : kvs.length = ks.length := by rw [← hks, List.length_map]
  have hi := (List.getElem?_eq_some_iff.mp hk).1
  have hv : (kvs.map Prod.snd)[i]? = some kvs[i].2 := by
    rw [List.getElem?_map, List.getElem?_eq_getElem (by omega)]
    rfl
  refine ⟨_, ?_, hP i _ hv⟩
  have hkey : kvs[i].1 = k := by
    have e1 : (kvs.map Prod.fst)[i]? = some kvs[i].1 := by
      rw [List.getElem?_map, List.getElem?_eq_getElem (by omega)]
      rfl
    rw [hks, hk] at e1
    exact (Option.some.inj e1).symm
  have mem : (k, kvs[i].2) ∈ kvs := by
    rw [← hkey]
    exact List.getElem_mem _
  clear hv hkey hk
  have go : ∀ {l : List (κ × V)}, (l.map Prod.fst).Nodup → (k, kvs[i].2) ∈ l → valV l k = some kvs[i].2 := by
    intro l
    induction l with
    | nil => exact fun _ h => nomatch h
    | cons p l ih =>
      intro nd h
      rw [List.map_cons, List.nodup_cons] at nd
      rcases List.mem_cons.mp h with e | h
      · rw [← e]
        exact valV_pos (p := (k, kvs[i].2)) rfl
      · rw [valV_neg (fun z => nd.1 (by rw [z]; exact List.mem_map_of_mem (f := Prod.fst) h))]
        exact ih nd.2 h
  exact go (by rw [hks]; exact nk) mem
/-- side by side -/
inductive FF {α β : Type} (R : α → β → Prop) : List α → List β → Prop
  | nil : FF R [] []
  | cons {a : α} {b : β} {xs : List α} {ys : List β} : R a b → FF R xs ys → FF R (a :: xs) (b :: ys)
theorem FF.len {α β : Type} {R : α → β → Prop} : ∀ {xs : List α} {ys : List β}, FF R xs ys → xs.length = ys.length
  | _, _, .nil => rfl
  | _, _, .cons _ t => congrArg Nat.succ t.len
theorem FF.snoc {α β : Type} {R : α → β → Prop} {a : α} {b : β} (h : R a b) : ∀ {xs : List α} {ys : List β}, FF R xs ys → FF R (xs ++ [a]) (ys ++ [b])
  | _, _, .nil => .cons h .nil
  | _, _, .cons h' t => .cons h' (FF.snoc h t)
theorem FF.mono {α β : Type} {R S : α → β → Prop} (k : ∀ a b, R a b → S a b) : ∀ {xs : List α} {ys : List β}, FF R xs ys → FF S xs ys
  | _, _, .nil => .nil
  | _, _, .cons h t => .cons (k _ _ h) (t.mono k)
theorem FF.get {α β : Type} {R : α → β → Prop} : ∀ {xs : List α} {ys : List β}, FF R xs ys → ∀ {i : Nat} {x : α}, xs[i]? = some x → ∃ y, ys[i]? = some y ∧ R x y
  | _, _, .cons h t, 0, x, e => by
    cases e
    exact ⟨_, rfl, h⟩
  | _, _, .cons h t, i + 1, x, e => t.get (i := i) e
theorem FF.at_ {α β : Type} {R : α → β → Prop} : ∀ {xs : List α} {ys : List β}, FF R xs ys → ∀ {i : Nat} {y : β}, ys[i]? = some y → ∃ x, xs[i]? = some x ∧ R x y
  | _, _, .cons h t, 0, x, e => by
    cases e
    exact ⟨_, rfl, h⟩
  | _, _, .cons h t, i + 1, x, e => t.at_ (i := i) e
theorem FF.app {α β : Type} {R : α → β → Prop} : ∀ {xs ys : List α} {as bs : List β}, FF R xs as → FF R ys bs → FF R (xs ++ ys) (as ++ bs)
  | _, _, _, _, .nil, h => h
  | _, _, _, _, .cons h t, k => .cons h (FF.app t k)
theorem FF.eq {α β : Type} {f : β → α} : ∀ {xs : List α} {ys : List β}, FF (fun x y => x = f y) xs ys → xs = ys.map f
  | _, _, .nil => rfl
  | _, _, .cons h t => by rw [List.map_cons, h, t.eq]
theorem FF.mem {α β : Type} {R : α → β → Prop} : ∀ {xs : List α} {ys : List β}, FF R xs ys → ∀ x ∈ xs, ∃ y ∈ ys, R x y
  | _, _, .cons h t, x, hx => by
    rcases List.mem_cons.mp hx with rfl | hx
    · exact ⟨_, List.mem_cons_self .., h⟩
    · obtain ⟨y, h1, h2⟩ := t.mem x hx
      exact ⟨y, List.mem_cons_of_mem _ h1, h2⟩
theorem FF.of {α β : Type} {R : α → β → Prop} : ∀ {xs : List α} {ys : List β}, xs.length = ys.length → (∀ (i : Nat) x y, xs[i]? = some x → ys[i]? = some y → R x y) → FF R xs ys
  | [], [], _, _ => .nil
  | x :: xs, y :: ys, hl, h => .cons (h 0 x y rfl rfl) (FF.of (by simpa using hl) fun i a b ha hb => h (i + 1) a b ha hb)
  | [], _ :: _, hl, _ => by simp at hl
  | _ :: _, [], hl, _ => by simp at hl
/-- a list that stands for ts, some left out, of the others something told -/
theorem lc_listR {τ : Type} {K : PySem.W.Frag} {a D : Addr} {xs : List V} {ts : List τ} {H : Hp} (hD : H D = none) (hS : SqL K H a xs) (hlen : xs.length = ts.length) (hl : ts.length ≤ 10000) (p : τ → Bool) (Rr : V → τ → Hp → Prop) (mono : ∀ v t H1 H2, NL H1 H2 → Rr v t H1 → Rr v t H2)
    {g : TG} {tt : TT} {te : TE} {vs : List Nat} {σ : L2.St} {Qd : Hp → Prop}
    (turn : ∀ (i : Nat) (x : V) (t : τ) (H2 : Hp) (R : V → Hp → Prop) (C : Hp → Prop), xs[i]? = some x → ts[i]? = some t → Same H H2 → (p t = true → ∀ H3 v, Same H2 H3 → Rr v t H3 → R v H3) → (p t = false → ∀ H3, Same H2 H3 → C H3) → g x (wipe σ vs) H2 fun σ2 H2 => wipe σ2 vs = wipe σ vs ∧ tt σ2 H2 fun b H3 => if b = true then te σ2 H3 R else C H3)
    (fin : ∀ H' acc, Same H H' → H' D = some (.lst acc) → FF (fun v t => Rr v t H') acc (ts.filter p) → Qd H') :
    ∃ W : Nat → Nat → Hp → Prop, (∃ m, W 0 m (upd H D (.lst []))) ∧ ∀ i m H, W i m H →
      ((Itl K a).stop i H ∧ Qd H) ∨ ((Itl K a).go i H ∧ ∃ Nx : Hp → Prop, (∀ H', Nx H' → ∃ m', m' < m ∧ W (i + 1) m' H') ∧ ∀ x H', (Itl K a).yld i H x H' → g x (wipe σ vs) H' fun σ2 H2 => wipe σ2 vs = wipe σ vs ∧ tt σ2 H2 fun b H3 =>
        if b = true then te σ2 H3 fun y H4 => ∃ acc, H4 D = some (.lst acc) ∧ acc.length < sizeLine ∧ Nx (upd H4 D (.lst (acc ++ [y]))) else Nx H3) := by
  refine lc_it (walk_list (K := K) (a := a) (xs := xs)) (fun i H' => Same H H' ∧ ∃ acc, H' D = some (.lst acc) ∧ FF (fun v t => Rr v t H') acc ((ts.take i).filter p)) ⟨same_upd hD, [], upd_same, .nil⟩ (fun i H' _ h => h.1.seq hS) ?_ ?_
  · rintro i x H1 H2 hi ⟨s1, acc, e1, f1⟩ ⟨rfl, hx⟩
    have hit : ts[i]? = some ts[i] := List.getElem?_eq_getElem (by omega)
    generalize ts[i] = t at hit
    have tk : (ts.take (i + 1)).filter p = (ts.take i).filter p ++ [t].filter p := by
      rw [List.take_add_one, hit, List.filter_append]
      rfl
    refine turn i x t _ _ _ hx hit s1 (fun hp H3 v s3 hv => ?_) (fun hp H3 s3 => ?_)
    · have la : acc.length ≤ 10000 := by
        rw [f1.len]
        refine Nat.le_trans (List.length_filter_le _ _) ?_
        rw [List.length_take]
        omega
      have e3 := s3 _ _ e1
      have nz := NL.at_ e3 (o := .lst (acc ++ [v]))
      refine ⟨acc, e3, Nat.lt_of_le_of_lt la (by decide), fun b o h => ?_, acc ++ [v], upd_same, ?_⟩
      · rw [upd_ne (ne_of_none h hD)]
        exact s3 _ _ (s1 _ _ h)
      · rw [tk, List.filter_cons_of_pos hp]
        have f2 : FF (fun v' t' => Rr v' t' (upd H3 D (.lst (acc ++ [v])))) acc ((ts.take i).filter p) := FF.mono (fun v' t' h => mono v' t' _ _ ((NL.of s3).trans nz) h) f1
        have h2 : (fun v' t' => Rr v' t' (upd H3 D (.lst (acc ++ [v])))) v t := mono _ _ _ _ nz hv
        exact @FF.snoc V τ (fun v' t' => Rr v' t' (upd H3 D (.lst (acc ++ [v])))) v t h2 acc ((ts.take i).filter p) f2
    · refine ⟨s1.trans s3, acc, s3 _ _ e1, ?_⟩
      rw [tk, List.filter_cons_of_neg (by rw [hp]; exact Bool.false_ne_true)]
      show FF _ acc (_ ++ [])
      rw [List.append_nil]
      exact f1.mono fun v t h => mono v t _ _ (NL.of s3) h
  · rintro H' ⟨s, acc, e, f⟩
    rw [hlen, List.take_length] at f
    exact fin H' acc s e f
end KA
/-! loops and comprehensions over any walk; a range walked backwards -/
namespace KA
open PySem PySem.Spec PyProof.Rows L2
/-- a loop over a walk -/
theorem for_walk {J : It} {n : Nat} {G : Hp → Prop} {Y : Nat → Hp → V → Hp → Prop} (w : Walk J n G Y) {g : TG} {tb : TS} {D : Ends} {σ : L2.St} {H : Hp} (Pv : Nat → L2.St → Hp → Prop) (h0 : Pv 0 σ H) (hG : ∀ i σ H, i ≤ n → Pv i σ H → G H)
    (hs : ∀ i x σ H H', i < n → Pv i σ H → Y i H x H' → g x σ H' fun σ2 H2 => tb { D with nx := Pv (i + 1), ct := Pv (i + 1), bk := D.nx } σ2 H2) (hd : ∀ σ H, Pv n σ H → D.nx σ H) :
    ∃ W : Nat → Nat → L2.St → Hp → Prop, (∃ m, W 0 m σ H) ∧ ∀ i m σ H, W i m σ H →
      (J.stop i H ∧ D.nx σ H) ∨ (J.go i H ∧ ∃ N : L2.St → Hp → Prop, (∀ σ' H', N σ' H' → ∃ m', m' < m ∧ W (i + 1) m' σ' H') ∧ ∀ x H', J.yld i H x H' → g x σ H' fun σ2 H2 => tb { D with nx := N, ct := N, bk := D.nx } σ2 H2) := by
  refine ⟨fun i m σ H => m = n - i ∧ i ≤ n ∧ Pv i σ H, ⟨n, by simp, Nat.zero_le _, h0⟩, ?_⟩
  rintro i m σ H ⟨rfl, hi, p⟩
  have q := hG i σ H hi p
  by_cases hlt : i < n
  · exact .inr ⟨w.goes i H hlt q, Pv (i + 1), fun σ' H' p' => ⟨n - (i + 1), by omega, rfl, hlt, p'⟩, fun x H' y => hs i x σ H H' hlt p (w.yields i H x H' hlt q y)⟩
  · have e : i = n := by omega
    subst e
    exact .inl ⟨w.stops H q, hd σ H p⟩
/-- a comprehension over a walk whose turns leave the heap alone; what it gives stands for ks, some left out -/
theorem lc_walkR {κ : Type} {J : It} {n : Nat} {G : Hp → Prop} {Y : Nat → Hp → V → Hp → Prop} (w : Walk J n G Y) {H : Hp} {D : Addr} (hD : H D = none) (hY : ∀ i H x H', Y i H x H' → H' = H) (hG : ∀ H', Same H H' → G H') {ks : List κ} (lk : ks.length = n) (hn : n ≤ 10000)
    (p : κ → Bool) (Rr : V → κ → Hp → Prop) (mono : ∀ v t H1 H2, NL H1 H2 → Rr v t H1 → Rr v t H2) {g : TG} {tt : TT} {te : TE} {vs : List Nat} {σ : L2.St} {Qd : Hp → Prop}
    (turn : ∀ (i : Nat) (x : V) (t : κ) (H2 : Hp) (R : V → Hp → Prop) (C : Hp → Prop), Y i H2 x H2 → ks[i]? = some t → Same H H2 → (p t = true → ∀ H3 v, Same H2 H3 → Rr v t H3 → R v H3) → (p t = false → ∀ H3, Same H2 H3 → C H3) → g x (wipe σ vs) H2 fun σ2 H2 => wipe σ2 vs = wipe σ vs ∧ tt σ2 H2 fun b H3 => if b = true then te σ2 H3 R else C H3)
    (fin : ∀ H' acc, Same H H' → H' D = some (.lst acc) → FF (fun v t => Rr v t H') acc (ks.filter p) → Qd H') :
    ∃ W : Nat → Nat → Hp → Prop, (∃ m, W 0 m (upd H D (.lst []))) ∧ ∀ i m H, W i m H →
      (J.stop i H ∧ Qd H) ∨ (J.go i H ∧ ∃ Nx : Hp → Prop, (∀ H', Nx H' → ∃ m', m' < m ∧ W (i + 1) m' H') ∧ ∀ x H', J.yld i H x H' → g x (wipe σ vs) H' fun σ2 H2 => wipe σ2 vs = wipe σ vs ∧ tt σ2 H2 fun b H3 =>
        if b = true then te σ2 H3 fun y H4 => ∃ acc, H4 D = some (.lst acc) ∧ acc.length < sizeLine ∧ Nx (upd H4 D (.lst (acc ++ [y]))) else Nx H3) := by
  refine lc_it w (fun i H' => Same H H' ∧ ∃ acc, H' D = some (.lst acc) ∧ FF (fun v t => Rr v t H') acc ((ks.take i).filter p)) ⟨same_upd hD, [], upd_same, .nil⟩ (fun i H' _ h => hG H' h.1) ?_ ?_
  · rintro i x H1 H2 hi ⟨s1, acc, e1, f1⟩ y
    obtain rfl := hY _ _ _ _ y
    have hit : ks[i]? = some ks[i] := List.getElem?_eq_getElem (by omega)
    generalize ks[i] = t at hit
    have tk : (ks.take (i + 1)).filter p = (ks.take i).filter p ++ [t].filter p := by
      rw [List.take_add_one, hit, List.filter_append]
      rfl
    refine turn i x t _ _ _ y hit s1 (fun hp H3 v s3 hv => ?_) (fun hp H3 s3 => ?_)
    · have la : acc.length ≤ 10000 := by
        rw [f1.len]
        refine Nat.le_trans (List.length_filter_le _ _) ?_
        rw [List.length_take]
        omega
      have e3 := s3 _ _ e1
      have nz := NL.at_ e3 (o := .lst (acc ++ [v]))
      refine ⟨acc, e3, Nat.lt_of_le_of_lt la (by decide), fun b o h => ?_, acc ++ [v], upd_same, ?_⟩
      · rw [upd_ne (ne_of_none h hD)]
        exact s3 _ _ (s1 _ _ h)
      · rw [tk, List.filter_cons_of_pos hp]
        have f2 : FF (fun v' t' => Rr v' t' (upd H3 D (.lst (acc ++ [v])))) acc ((ks.take i).filter p) := FF.mono (fun v' t' h => mono v' t' _ _ ((NL.of s3).trans nz) h) f1
        have h2 : (fun v' t' => Rr v' t' (upd H3 D (.lst (acc ++ [v])))) v t := mono _ _ _ _ nz hv
        exact @FF.snoc V κ (fun v' t' => Rr v' t' (upd H3 D (.lst (acc ++ [v])))) v t h2 acc ((ks.take i).filter p) f2
    · refine ⟨s1.trans s3, acc, s3 _ _ e1, ?_⟩
      rw [tk, List.filter_cons_of_neg (by rw [hp]; exact Bool.false_ne_true)]
      show FF _ acc (_ ++ [])
      rw [List.append_nil]
      exact f1.mono fun v t h => mono v t _ _ (NL.of s3) h
  · rintro H' ⟨s, acc, e, f⟩
    rw [← lk, List.take_length] at f
    exact fin H' acc s e f
theorem FF.map {α β γ : Type} {R : α → γ → Prop} {f : β → γ} : ∀ {xs : List α} {ys : List β}, FF (fun a b => R a (f b)) xs ys → FF R xs (ys.map f)
  | _, _, .nil => .nil
  | _, _, .cons h t => .cons h (FF.map t)
theorem FF.split {α β γ : Type} {R : α → β → Prop} {S : β → γ → Prop} : ∀ {xs : List α} {zs : List γ}, FF (fun a c => ∃ b, R a b ∧ S b c) xs zs → ∃ ys, FF R xs ys ∧ FF S ys zs
  | _, _, .nil => ⟨[], .nil, .nil⟩
  | _, _, .cons ⟨b, h1, h2⟩ t => by
    obtain ⟨ys, k1, k2⟩ := FF.split t
    exact ⟨b :: ys, .cons h1 k1, .cons h2 k2⟩
end KA
/-! a loop of any body over a walk -/
namespace KA
open PySem PySem.Spec PyProof.Rows L2
/-- a loop of any body over a walk -/
theorem walk_loop {J : It} {n : Nat} {G : Hp → Prop} {Y : Nat → Hp → V → Hp → Prop} (w : Walk J n G Y) {H1 : Hp} {B : V → Hp → (Hp → Prop) → Prop} {Qd : Hp → Prop} (Pv : Nat → Hp → Prop) (h0 : Pv 0 H1) (hG : ∀ i H, i ≤ n → Pv i H → G H)
    (hs : ∀ i x H H', i < n → Pv i H → Y i H x H' → B x H' (Pv (i + 1))) (hd : ∀ H, Pv n H → Qd H) :
    ∃ W : Nat → Nat → Hp → Prop, (∃ m, W 0 m H1) ∧ ∀ i m H, W i m H →
      (J.stop i H ∧ Qd H) ∨ (J.go i H ∧ ∃ Nx : Hp → Prop, (∀ H', Nx H' → ∃ m', m' < m ∧ W (i + 1) m' H') ∧ ∀ x H', J.yld i H x H' → B x H' Nx) := by
  refine ⟨fun i m H => m = n - i ∧ i ≤ n ∧ Pv i H, ⟨n, by simp, Nat.zero_le _, h0⟩, ?_⟩
  rintro i m H ⟨rfl, hi, p⟩
  have q := hG i H hi p
  by_cases hlt : i < n
  · exact .inr ⟨w.goes i H hlt q, Pv (i + 1), fun H' p' => ⟨n - (i + 1), by omega, rfl, hlt, p'⟩, fun x H' y => hs i x H H' hlt p (w.yields i H x H' hlt q y)⟩
  · have e : i = n := by omega
    subst e
    exact .inl ⟨w.stops H q, hd H p⟩
end KA
/-! d.values() walked, the keys tuples -/
namespace KA
open PySem PySem.Spec PyProof.Rows L2
def ItdT (d : Addr) (o : Obj) (kvs : List (List Key × V)) : It :=
  ⟨fun i H => H d = some (.frz o (.dT kvs)) ∧ i < kvs.length, fun i H x H' => H' = H ∧ ∃ k, kvs[i]? = some (k, x), fun i H => H d = some (.frz o (.dT kvs)) ∧ kvs.length ≤ i⟩
section
variable {X : Cx} {pins : List (Addr × Obj)} {σ : L2.St} {H : Hp} {s : Shared} {d : Addr} {o : Obj}
theorem frzTv {kvs : List (List Key × V)} (I : Inv X pins σ H s) (h : H d = some (.frz o (.dT kvs))) :
    (d == sysModules) = false ∧ s.heap.get? d = some o ∧ o.ExactDict ∧ ∃ (es : Array DictEntry) (ep : Nat), o.data = .dict es ep ∧ es.size = kvs.length ∧ s.heap.DictRaw d es ep ∧
      ∀ (i : Nat) (k : List Key) (v : V), kvs[i]? = some (k, v) → ∃ en : DictEntry, es[i]? = some en ∧ RelV v en.val := by
  obtain ⟨hd, z, hs, xs, pr, o', es, ep, ho, hx, hdt, he, _⟩ := I.hok d _ h
  rw [hd] at ho
  cases ho
  refine ⟨hs, hd, hx, es, ep, hdt, ?_, ⟨o, hd, hx, hdt⟩, fun i k v e => ?_⟩
  · have l1 : es.size = xs.length := size_of_entries he
    have l2 : kvs.length = xs.length := Paired.length pr
    omega
  · obtain ⟨b, hb, e1, e2, e3⟩ := paired_get pr e
    have := entry_at he i
    rw [hb] at this
    exact ⟨_, this, e3⟩
end
section
variable {P : Program} {w : World} {K : PySem.W.Frag} {tg : Expr} {d : Addr} {o : Obj} {es : Array DictEntry} {ep : Nat}
theorem turn_valsT {kvs : List (List Key × V)} (it : Addr) (hod : o.data = .dict es ep) : Turn P w K tg (ItdT d o kvs) [it] it (fun i h => h.IsValIter it d i es.size ep) where
  mem := by simp
  obj := fun i h st b hb => by
    have e : b = it := by simpa using hb
    subst e
    obtain ⟨oi, e, c, dd⟩ := st
    exact ⟨oi, e, fun v z => by rw [dd] at z; cases z⟩
  keep := fun i h h' st k => st.at fun oi e => k it (by simp) oi e
  item := by
    intro X hP hw hK hc i pins s σ H E I hf st hg
    subst hP hw hK
    obtain ⟨hd, hi⟩ := hg
    obtain ⟨f0, f1, f2, f3, f4, f5⟩ := hf it (by simp)
    obtain ⟨hs, hgd, hx, es', ep', hdt, hsz, hm, ent⟩ := frzTv I hd
    obtain ⟨rfl, rfl⟩ := dict_ep hod hdt
    obtain ⟨⟨k, v⟩, hkv⟩ : ∃ p, kvs[i]? = some p := ⟨kvs[i], List.getElem?_eq_getElem hi⟩
    obtain ⟨en, hen, rv⟩ := ent i k v hkv
    obtain ⟨hlt, een⟩ := Array.getElem?_eq_some_iff.mp hen
    refine wpAny_pyNext_values_item_raw st hm hlt fun h' st' sb => ?_
    have I1 : Inv X pins σ H { s with heap := h' } := I.turned (t' := s.toks) (fun b ob hb e => (sb.2 b hb).trans e) f0 f1 f3 f4 f5
    obtain ⟨oi, e, c, dd⟩ := id st'
    exact ⟨_, rfl, go_of (s := { s with heap := h' }) e c dd (by decide) ⟨v, H, I1, by rw [een]; exact rv, ⟨rfl, k, hkv⟩, st', fun b hb => (hf b hb).1⟩⟩
  done := by
    intro X hP hw hK hc i pins s σ H E I hf st hg
    subst hP hw hK
    obtain ⟨hd, hi⟩ := hg
    obtain ⟨f0, f1, f2, f3, f4, f5⟩ := hf it (by simp)
    obtain ⟨hs, hgd, hx, es', ep', hdt, hsz, hm, ent⟩ := frzTv I hd
    obtain ⟨rfl, rfl⟩ := dict_ep hod hdt
    exact wpAny_pyNext_values_end_raw (I.ok.hd hc) st hm (by omega) fun h' eb => ⟨rfl, I.turned (t' := s.toks) (fun b ob hb e => eb b ob hb e) f0 f1 f3 f4 f5⟩
  self := fun A i s Q E st h => wpAny_pyIter_valiter st h
end
/-- the dict is locked -/
def iValsT (td : TE) : TI := fun σ H R => td σ H fun x H1 => ∃ d o kvs, x = .ref d ∧ H1 d = some (.frz o (.dT kvs)) ∧ R (ItdT d o kvs) H1
section
variable {X : Cx} {tg e : Expr} {td : TE} {apos cpos : Pos}
theorem pi_valuesT (he : PE X e td) (hbase : attributeBase e "values" X.env (eval e X.env) = eval e X.env := by rfl) (hline : (apos.endLine == cpos.line) = true := by rfl) : PI X tg (.Call (.Attribute e "values" apos) [] [] cpos) (iValsT td) := by
  refine ⟨fun pins s σ H R I h => ?_⟩
  refine wpAny_Call_method (T := "dict") (id := "dict.values") hbase rfl hline F.plainAttrs_dict F.slot_dict_values F.type_dict_values (thn (he.run pins s σ H _ I h) fun u s1 ⟨x, H1, I1, rx, d, o, kvs, ex, hd, q⟩ => ?_)
  subst ex
  obtain rfl : u = Value.ref d := rx
  obtain ⟨hs, hgd, hx, es, ep, hdt, hsz, hm, ent⟩ := frzTv I1 hd
  refine ⟨hm.typeIs, ?_, ?_⟩
  · intro a ea
    cases ea
    exact ⟨o, hgd, hx.2.1⟩
  have I2 : Inv X pins σ H1 { s1 with heap := s1.heap.push { cls := .type "dict_values", data := .fields #[.ref d] } } := I1.kept (t' := s1.toks) fun b ob q => Heap.get?_push_of_some _ q
  have fin : wpAny (model X.prog X.w) X.A (pyIter (.ref s1.heap.objs.size)) (PIE X pins σ tg R) X.xe { s1 with heap := s1.heap.push { cls := .type "dict_values", data := .fields #[.ref d] } } := by
    refine wpAny_pyIter_values_raw (d := d) ⟨_, Heap.get?_push_size _ rfl, rfl, rfl⟩ (hm.at fun ob e => Heap.get?_push_of_some _ e) (pi_one (tk := s1.toks) I2 _ (turn_valsT _ hdt) ⟨_, Heap.get?_push_size _ rfl, rfl, rfl⟩ q)
  show wpAny _ _ (callWith cpos (.builtin "dict.values") [.ref d] [] []) _ X.xe s1
  exact method_meetsIn F.slot_dict_values F.entry_dict_values rfl (PySem.evalArgs_none ⟨rfl, hm.typeIs, F.args_dict_values_1 _, _, meets_dict_values_raw d hs, ⟨es, ep, hm⟩, fin⟩)
end
theorem walk_valuesT {d : Addr} {o : Obj} {kvs : List (List Key × V)} : Walk (ItdT d o kvs) kvs.length (fun H => H d = some (.frz o (.dT kvs))) (fun i H x H' => H' = H ∧ ∃ k, kvs[i]? = some (k, x)) :=
  ⟨fun _ _ hi q => ⟨q, hi⟩, fun _ q => ⟨q, Nat.le_refl _⟩, fun _ _ _ _ _ _ y => y⟩
end KA
namespace KB
open PySem PySem.Spec PyProof.Rows L2 KA
def topS (i : Nat) : Stmt := PySem.Challenge.pw_pearlrise_k33_whole_best_papers_reckoned.main.body.getD i (.Pass ⟨0, 0, 0, 0⟩)
abbrev s__wall : Stmt := topS 0
theorem sc__wall : FnScope ["k"] ["k"] (defScope s__wall) := ⟨rfl, rfl, rfl, by decide +kernel, rfl, by decide +kernel, by decide +kernel⟩
abbrev s_PearlError_init : Stmt := inClass (topS 2) 0
theorem sc_PearlError_init : FnScope ["self", "why"] ["self", "why"] (defScope s_PearlError_init) := ⟨rfl, rfl, rfl, by decide +kernel, rfl, by decide +kernel, by decide +kernel⟩
abbrev s_NoSuch_init : Stmt := inClass (topS 5) 0
theorem sc_NoSuch_init : FnScope ["self", "kind", "name"] ["self", "kind", "name"] (defScope s_NoSuch_init) := ⟨rfl, rfl, rfl, by decide +kernel, rfl, by decide +kernel, by decide +kernel⟩
abbrev s_NoShare_init : Stmt := inClass (topS 6) 0
theorem sc_NoShare_init : FnScope ["self", "num"] ["self", "num"] (defScope s_NoShare_init) := ⟨rfl, rfl, rfl, by decide +kernel, rfl, by decide +kernel, by decide +kernel⟩
abbrev s_is_int : Stmt := topS 12
theorem sc_is_int : FnScope ["thing"] ["thing"] (defScope s_is_int) := ⟨rfl, rfl, rfl, by decide +kernel, rfl, by decide +kernel, by decide +kernel⟩
abbrev s_is_whole : Stmt := topS 13
theorem sc_is_whole : FnScope ["thing", "least", "most"] ["thing", "least", "most"] (defScope s_is_whole) := ⟨rfl, rfl, rfl, by decide +kernel, rfl, by decide +kernel, by decide +kernel⟩
abbrev s_is_from_nought : Stmt := topS 14
theorem sc_is_from_nought : FnScope ["thing"] ["thing"] (defScope s_is_from_nought) := ⟨rfl, rfl, rfl, by decide +kernel, rfl, by decide +kernel, by decide +kernel⟩
abbrev s_is_name : Stmt := topS 15
theorem sc_is_name : FnScope ["thing", "sign"] ["thing"] (defScope s_is_name) := ⟨rfl, rfl, rfl, by decide +kernel, rfl, by decide +kernel, by decide +kernel⟩
abbrev s_is_number : Stmt := topS 16
theorem sc_is_number : FnScope ["thing"] ["thing"] (defScope s_is_number) := ⟨rfl, rfl, rfl, by decide +kernel, rfl, by decide +kernel, by decide +kernel⟩
abbrev s_figures : Stmt := topS 17
theorem sc_figures : FnScope ["number", "groups", "rest", "group"] ["number"] (defScope s_figures) := ⟨rfl, rfl, rfl, by decide +kernel, rfl, by decide +kernel, by decide +kernel⟩
abbrev s_Rule_init : Stmt := inClass (topS 19) 0
theorem sc_Rule_init : FnScope ["self", "least", "most", "match", "shades"] ["self", "least", "most", "match", "shades"] (defScope s_Rule_init) := ⟨rfl, rfl, rfl, by decide +kernel, rfl, by decide +kernel, by decide +kernel⟩
abbrev s_Rule_eq : Stmt := inClass (topS 19) 1
theorem sc_Rule_eq : FnScope ["self", "other"] ["self", "other"] (defScope s_Rule_eq) := ⟨rfl, rfl, rfl, by decide +kernel, rfl, by decide +kernel, by decide +kernel⟩
abbrev s_Rule_repr : Stmt := inClass (topS 19) 2
theorem sc_Rule_repr : FnScope ["self", "parts"] ["self"] (defScope s_Rule_repr) := ⟨rfl, rfl, rfl, by decide +kernel, rfl, by decide +kernel, by decide +kernel⟩
abbrev s_same_look : Stmt := topS 20
theorem sc_same_look : FnScope ["bead", "other"] ["bead", "other"] (defScope s_same_look) := ⟨rfl, rfl, rfl, by decide +kernel, rfl, by decide +kernel, by decide +kernel⟩
abbrev s_common_part : Stmt := topS 22
theorem sc_common_part : FnScope ["one", "other"] ["one", "other"] (defScope s_common_part) := ⟨rfl, rfl, rfl, by decide +kernel, rfl, by decide +kernel, by decide +kernel⟩
abbrev s_Share_init : Stmt := inClass (topS 23) 0
theorem sc_Share_init : FnScope ["self", "num", "over", "part"] ["self", "num", "over"] (defScope s_Share_init) := ⟨rfl, rfl, rfl, by decide +kernel, rfl, by decide +kernel, by decide +kernel⟩
abbrev s_Share_plus : Stmt := inClass (topS 23) 1
theorem sc_Share_plus : FnScope ["self", "other"] ["self", "other"] (defScope s_Share_plus) := ⟨rfl, rfl, rfl, by decide +kernel, rfl, by decide +kernel, by decide +kernel⟩
abbrev s_Share_minus : Stmt := inClass (topS 23) 2
theorem sc_Share_minus : FnScope ["self", "other"] ["self", "other"] (defScope s_Share_minus) := ⟨rfl, rfl, rfl, by decide +kernel, rfl, by decide +kernel, by decide +kernel⟩
abbrev s_Share_times : Stmt := inClass (topS 23) 3
theorem sc_Share_times : FnScope ["self", "other"] ["self", "other"] (defScope s_Share_times) := ⟨rfl, rfl, rfl, by decide +kernel, rfl, by decide +kernel, by decide +kernel⟩
abbrev s_Share_is_below : Stmt := inClass (topS 23) 4
theorem sc_Share_is_below : FnScope ["self", "other"] ["self", "other"] (defScope s_Share_is_below) := ⟨rfl, rfl, rfl, by decide +kernel, rfl, by decide +kernel, by decide +kernel⟩
abbrev s_Share_eq : Stmt := inClass (topS 23) 5
theorem sc_Share_eq : FnScope ["self", "other"] ["self", "other"] (defScope s_Share_eq) := ⟨rfl, rfl, rfl, by decide +kernel, rfl, by decide +kernel, by decide +kernel⟩
abbrev s_Share_repr : Stmt := inClass (topS 23) 6
theorem sc_Share_repr : FnScope ["self"] ["self"] (defScope s_Share_repr) := ⟨rfl, rfl, rfl, by decide +kernel, rfl, by decide +kernel, by decide +kernel⟩
abbrev s_Share_str : Stmt := inClass (topS 23) 7
theorem sc_Share_str : FnScope ["self"] ["self"] (defScope s_Share_str) := ⟨rfl, rfl, rfl, by decide +kernel, rfl, by decide +kernel, by decide +kernel⟩
abbrev s_worth : Stmt := topS 25
theorem sc_worth : FnScope ["bead", "rates", "base", "drilled", "pair", "num"] ["bead", "rates", "base", "drilled"] (defScope s_worth) := ⟨rfl, rfl, rfl, by decide +kernel, rfl, by decide +kernel, by decide +kernel⟩
abbrev s_check_rule : Stmt := topS 28
theorem sc_check_rule : FnScope ["rule"] ["rule"] (defScope s_check_rule) := ⟨rfl, rfl, rfl, by decide +kernel, rfl, by decide +kernel, by decide +kernel⟩
abbrev s_may_be_partners : Stmt := topS 29
theorem sc_may_be_partners : FnScope ["left", "right", "rule"] ["left", "right", "rule"] (defScope s_may_be_partners) := ⟨rfl, rfl, rfl, by decide +kernel, rfl, by decide +kernel, by decide +kernel⟩
abbrev s_may_stand_next : Stmt := topS 30
theorem sc_may_stand_next : FnScope ["bead", "outer", "rule"] ["bead", "outer", "rule"] (defScope s_may_stand_next) := ⟨rfl, rfl, rfl, by decide +kernel, rfl, by decide +kernel, by decide +kernel⟩
abbrev s_pairs_of : Stmt := topS 31
theorem sc_pairs_of : FnScope ["beads", "rule", "found", "left", "right"] ["beads", "rule"] (defScope s_pairs_of) := ⟨rfl, rfl, rfl, by decide +kernel, rfl, by decide +kernel, by decide +kernel⟩
abbrev s_Asked_init : Stmt := inClass (topS 32) 0
theorem sc_Asked_init : FnScope ["self", "beads", "rule", "long", "worths", "inner", "found", "bead", "left", "right", "other", "pair", "number"] ["self", "beads", "rule", "long", "worths"] (defScope s_Asked_init) := ⟨rfl, rfl, rfl, by decide +kernel, rfl, by decide +kernel, by decide +kernel⟩
abbrev s_Asked_worth_with : Stmt := inClass (topS 32) 1
theorem sc_Asked_worth_with : FnScope ["self", "pair", "share"] ["self", "pair", "share"] (defScope s_Asked_worth_with) := ⟨rfl, rfl, rfl, by decide +kernel, rfl, by decide +kernel, by decide +kernel⟩
abbrev s_Asked_goes_on_by : Stmt := inClass (topS 32) 2
theorem sc_Asked_goes_on_by : FnScope ["self", "pair", "out", "inner", "other", "number"] ["self", "pair", "out", "inner"] (defScope s_Asked_goes_on_by) := ⟨rfl, rfl, rfl, by decide +kernel, rfl, by decide +kernel, by decide +kernel⟩
abbrev s_asked_with : Stmt := topS 33
theorem sc_asked_with : FnScope ["beads", "rule", "long", "rates", "base", "drilled", "bead"] ["beads", "rule", "long", "rates", "base", "drilled"] (defScope s_asked_with) := ⟨rfl, rfl, rfl, by decide +kernel, rfl, by decide +kernel, by decide +kernel⟩
abbrev s_greatest : Stmt := topS 34
theorem sc_greatest : FnScope ["shares", "found", "share"] ["shares"] (defScope s_greatest) := ⟨rfl, rfl, rfl, by decide +kernel, rfl, by decide +kernel, by decide +kernel⟩
abbrev s_rows_of : Stmt := topS 35
theorem sc_rows_of : FnScope ["asked", "told", "inner", "out", "here", "pair", "shares", "left", "right"] ["asked"] (defScope s_rows_of) := ⟨rfl, rfl, rfl, by decide +kernel, rfl, by decide +kernel, by decide +kernel⟩
abbrev s_best_paper : Stmt := topS 36
theorem sc_best_paper : FnScope ["beads", "rule", "long", "rates", "base", "drilled"] ["beads", "rule", "long", "rates", "base", "drilled"] (defScope s_best_paper) := ⟨rfl, rfl, rfl, by decide +kernel, rfl, by decide +kernel, by decide +kernel⟩
abbrev s_is_row : Stmt := topS 37
theorem sc_is_row : FnScope ["asked", "row", "left", "right", "out", "share"] ["asked", "row"] (defScope s_is_row) := ⟨rfl, rfl, rfl, by decide +kernel, rfl, by decide +kernel, by decide +kernel⟩
abbrev s_shares_by_out : Stmt := topS 38
theorem sc_shares_by_out : FnScope ["asked", "paper", "told", "row", "left", "right", "out", "share"] ["asked", "paper"] (defScope s_shares_by_out) := ⟨rfl, rfl, rfl, by decide +kernel, rfl, by decide +kernel, by decide +kernel⟩
abbrev s_has_all : Stmt := topS 39
theorem sc_has_all : FnScope ["asked", "out", "here", "inner", "pair", "shares"] ["asked", "out", "here", "inner"] (defScope s_has_all) := ⟨rfl, rfl, rfl, by decide +kernel, rfl, by decide +kernel, by decide +kernel⟩
abbrev s_none_above : Stmt := topS 40
theorem sc_none_above : FnScope ["shares", "most", "share"] ["shares", "most"] (defScope s_none_above) := ⟨rfl, rfl, rfl, by decide +kernel, rfl, by decide +kernel, by decide +kernel⟩
abbrev s_bars_better : Stmt := topS 41
theorem sc_bars_better : FnScope ["beads", "rule", "long", "rates", "most", "paper", "base", "drilled", "asked", "told", "behind", "out", "here", "share"] ["beads", "rule", "long", "rates", "most", "paper", "base", "drilled"] (defScope s_bars_better) := ⟨rfl, rfl, rfl, by decide +kernel, rfl, by decide +kernel, by decide +kernel⟩
abbrev s_is_measure : Stmt := topS 44
theorem sc_is_measure : FnScope ["thing"] ["thing"] (defScope s_is_measure) := ⟨rfl, rfl, rfl, by decide +kernel, rfl, by decide +kernel, by decide +kernel⟩
abbrev s_Bead_init : Stmt := inClass (topS 45) 0
theorem sc_Bead_init : FnScope ["self", "number", "across", "weight", "shade", "form", "drilled"] ["self", "number", "across", "weight", "shade", "form", "drilled"] (defScope s_Bead_init) := ⟨rfl, rfl, rfl, by decide +kernel, rfl, by decide +kernel, by decide +kernel⟩
abbrev s_Bead_row : Stmt := inClass (topS 45) 1
theorem sc_Bead_row : FnScope ["self"] ["self"] (defScope s_Bead_row) := ⟨rfl, rfl, rfl, by decide +kernel, rfl, by decide +kernel, by decide +kernel⟩
abbrev s_Bead_key : Stmt := inClass (topS 45) 2
theorem sc_Bead_key : FnScope ["self"] ["self"] (defScope s_Bead_key) := ⟨rfl, rfl, rfl, by decide +kernel, rfl, by decide +kernel, by decide +kernel⟩
abbrev s_Bead_eq : Stmt := inClass (topS 45) 3
theorem sc_Bead_eq : FnScope ["self", "other"] ["self", "other"] (defScope s_Bead_eq) := ⟨rfl, rfl, rfl, by decide +kernel, rfl, by decide +kernel, by decide +kernel⟩
abbrev s_Bead_repr : Stmt := inClass (topS 45) 4
theorem sc_Bead_repr : FnScope ["self", "parts"] ["self"] (defScope s_Bead_repr) := ⟨rfl, rfl, rfl, by decide +kernel, rfl, by decide +kernel, by decide +kernel⟩
abbrev s_Bead_str : Stmt := inClass (topS 45) 5
theorem sc_Bead_str : FnScope ["self"] ["self"] (defScope s_Bead_str) := ⟨rfl, rfl, rfl, by decide +kernel, rfl, by decide +kernel, by decide +kernel⟩
abbrev s_cell_at : Stmt := topS 47
theorem sc_cell_at : FnScope ["_law_script", "_law_k"] ["_law_script", "_law_k"] (defScope s_cell_at) := ⟨rfl, rfl, rfl, by decide +kernel, rfl, by decide +kernel, by decide +kernel⟩
abbrev s_well : Stmt := topS 48
theorem sc_well : FnScope ["_law_cell"] ["_law_cell"] (defScope s_well) := ⟨rfl, rfl, rfl, by decide +kernel, rfl, by decide +kernel, by decide +kernel⟩
abbrev s_draw : Stmt := topS 49
theorem sc_draw : FnScope ["_law_well_here", "_law_many", "_law_found", "_law_salt", "_law_number"] ["_law_well_here", "_law_many"] (defScope s_draw) := ⟨rfl, rfl, rfl, by decide +kernel, rfl, by decide +kernel, by decide +kernel⟩
abbrev s_one : Stmt := topS 50
theorem sc_one : FnScope ["_law_well_here", "_law_some"] ["_law_well_here", "_law_some"] (defScope s_one) := ⟨rfl, rfl, rfl, by decide +kernel, rfl, by decide +kernel, by decide +kernel⟩
abbrev s_four : Stmt := topS 51
theorem sc_four : FnScope ["_law_well_here", "_law_low", "_law_top_here", "_law_far"] ["_law_well_here"] (defScope s_four) := ⟨rfl, rfl, rfl, by decide +kernel, rfl, by decide +kernel, by decide +kernel⟩
abbrev s_rows : Stmt := topS 52
theorem sc_rows : FnScope ["_law_well_here", "_law_four_here", "_law_many", "_law_looks", "_law_start", "_law_found", "_law_k", "_law_step", "_law_across", "_law_look", "_law_number"] ["_law_well_here", "_law_four_here", "_law_many"] (defScope s_rows) := ⟨rfl, rfl, rfl, by decide +kernel, rfl, by decide +kernel, by decide +kernel⟩
abbrev s_rates : Stmt := topS 53
theorem sc_rates : FnScope ["_law_well_here", "_law_found", "_law_key", "_law_near"] ["_law_well_here"] (defScope s_rates) := ⟨rfl, rfl, rfl, by decide +kernel, rfl, by decide +kernel, by decide +kernel⟩
abbrev s_beads : Stmt := topS 54
theorem sc_beads : FnScope ["_law_rows_here", "_law_row"] ["_law_rows_here"] (defScope s_beads) := ⟨rfl, rfl, rfl, by decide +kernel, rfl, by decide +kernel, by decide +kernel⟩
abbrev s_Lworth : Stmt := topS 55
theorem sc_Lworth : FnScope ["_law_row", "_law_rates_here", "_law_unit", "_law_over", "_law_whole", "_law_parts"] ["_law_row", "_law_rates_here", "_law_unit", "_law_over"] (defScope s_Lworth) := ⟨rfl, rfl, rfl, by decide +kernel, rfl, by decide +kernel, by decide +kernel⟩
abbrev s_plus : Stmt := topS 56
theorem sc_plus : FnScope ["_law_one_here", "_law_other"] ["_law_one_here", "_law_other"] (defScope s_plus) := ⟨rfl, rfl, rfl, by decide +kernel, rfl, by decide +kernel, by decide +kernel⟩
abbrev s_less : Stmt := topS 57
theorem sc_less : FnScope ["_law_one_here", "_law_other"] ["_law_one_here", "_law_other"] (defScope s_less) := ⟨rfl, rfl, rfl, by decide +kernel, rfl, by decide +kernel, by decide +kernel⟩
abbrev s_is : Stmt := topS 58
theorem sc_is : FnScope ["_law_share", "_law_pair"] ["_law_share", "_law_pair"] (defScope s_is) := ⟨rfl, rfl, rfl, by decide +kernel, rfl, by decide +kernel, by decide +kernel⟩
abbrev s_next_in : Stmt := topS 59
theorem sc_next_in : FnScope ["_law_outer", "_law_inner_here", "_law_four_here"] ["_law_outer", "_law_inner_here", "_law_four_here"] (defScope s_next_in) := ⟨rfl, rfl, rfl, by decide +kernel, rfl, by decide +kernel, by decide +kernel⟩
abbrev s_pairs : Stmt := topS 60
theorem sc_pairs : FnScope ["_law_rows_here", "_law_four_here", "_law_found", "_law_left", "_law_right", "_law_alike"] ["_law_rows_here", "_law_four_here"] (defScope s_pairs) := ⟨rfl, rfl, rfl, by decide +kernel, rfl, by decide +kernel, by decide +kernel⟩
abbrev s_inner : Stmt := topS 61
theorem sc_inner : FnScope ["_law_pair", "_law_rows_here", "_law_pairs_here", "_law_out", "_law_four_here", "_law_long", "_law_row", "_law_one_here"] ["_law_pair", "_law_rows_here", "_law_pairs_here", "_law_out", "_law_four_here", "_law_long"] (defScope s_inner) := ⟨rfl, rfl, rfl, by decide +kernel, rfl, by decide +kernel, by decide +kernel⟩
abbrev s_most : Stmt := topS 62
theorem sc_most : FnScope ["_law_rows_here", "_law_pairs_here", "_law_four_here", "_law_long", "_law_worths", "_law_found", "_law_out", "_law_left", "_law_right", "_law_own", "_law_one_here", "_law_more", "_law_key", "_law_whole"] ["_law_rows_here", "_law_pairs_here", "_law_four_here", "_law_long", "_law_worths"] (defScope s_most) := ⟨rfl, rfl, rfl, by decide +kernel, rfl, by decide +kernel, by decide +kernel⟩
abbrev s_top : Stmt := topS 63
theorem sc_top : FnScope ["_law_rows_here", "_law_pairs_here", "_law_four_here", "_law_long", "_law_worths", "_law_found", "_law_some", "_law_best_one", "_law_one_here", "_law_key", "_law_row"] ["_law_rows_here", "_law_pairs_here", "_law_four_here", "_law_long", "_law_worths"] (defScope s_top) := ⟨rfl, rfl, rfl, by decide +kernel, rfl, by decide +kernel, by decide +kernel⟩
abbrev s_case : Stmt := topS 64
theorem sc_case : FnScope ["_law_well_here", "_law_most_here", "_law_four_here", "_law_rows_here", "_law_unit", "_law_long"] ["_law_well_here", "_law_most_here"] (defScope s_case) := ⟨rfl, rfl, rfl, by decide +kernel, rfl, by decide +kernel, by decide +kernel⟩
abbrev s_shares : Stmt := topS 65
theorem sc_shares : FnScope ["_law_top_here", "_law_more", "_law_most_here"] ["_law_top_here", "_law_more"] (defScope s_shares) := ⟨rfl, rfl, rfl, by decide +kernel, rfl, by decide +kernel, by decide +kernel⟩
abbrev s_by_defaults : Stmt := topS 66
theorem sc_by_defaults : FnScope ["_law_beads_here", "_law_rule", "_law_long", "_law_rates_here", "_law_four_here", "_law_rows_here", "_law_worths", "_law_top_here", "_law_paper", "_law_other", "_law_share", "_law_is_due", "_law_row"] ["_law_beads_here", "_law_rule", "_law_long", "_law_rates_here", "_law_four_here", "_law_rows_here"] (defScope s_by_defaults) := ⟨rfl, rfl, rfl, by decide +kernel, rfl, by decide +kernel, by decide +kernel⟩
abbrev s_law : Stmt := topS 67
theorem sc_law : FnScope ["_law_script", "_law_cell", "_law_well_here", "_law_four_here", "_law_rows_here", "_law_long", "_law_rates_here", "_law_unit", "_law_over", "_law_rule", "_law_worths", "_law_pairs_here", "_law_due", "_law_keys", "_law_beads_here", "_law_paper", "_law_left", "_law_right", "_law_out", "_law_share", "_law_top_here", "_law_more", "_law_is_due", "_law_kept", "_law_row", "_law_key"] ["_law_script"] (defScope s_law) := ⟨rfl, rfl, rfl, by decide +kernel, rfl, by decide +kernel, by decide +kernel⟩
structure Tx (K : PySem.W.Frag) (mg : Str → Option Value) : Type where
  C_Share : Addr
  cl_Share : Cls K C_Share
  g_Share : mg "Share" = some (.ref C_Share)
  n_Share_num : NoAttr K C_Share "num"
  n_Share_over : NoAttr K C_Share "over"
  C_Bead : Addr
  cl_Bead : Cls K C_Bead
  g_Bead : mg "Bead" = some (.ref C_Bead)
  n_Bead_number : NoAttr K C_Bead "number"
  n_Bead_across : NoAttr K C_Bead "across"
  n_Bead_weight : NoAttr K C_Bead "weight"
  n_Bead_shade : NoAttr K C_Bead "shade"
  n_Bead_form : NoAttr K C_Bead "form"
  n_Bead_drilled : NoAttr K C_Bead "drilled"
  C_Rule : Addr
  cl_Rule : Cls K C_Rule
  g_Rule : mg "Rule" = some (.ref C_Rule)
  n_Rule_least : NoAttr K C_Rule "least"
  n_Rule_most : NoAttr K C_Rule "most"
  n_Rule_match : NoAttr K C_Rule "match"
  n_Rule_shades : NoAttr K C_Rule "shades"
  C_Asked : Addr
  cl_Asked : Cls K C_Asked
  g_Asked : mg "Asked" = some (.ref C_Asked)
  n_Asked_worths : NoAttr K C_Asked "worths"
  n_Asked_halves : NoAttr K C_Asked "halves"
  n_Asked_is_odd : NoAttr K C_Asked "is_odd"
  n_Asked_within : NoAttr K C_Asked "within"
  n_Asked_middles : NoAttr K C_Asked "middles"
  A_PearlError_init : Addr
  fd_PearlError_init : FuncData
  F_PearlError_init : FunD K "__init__" "PearlError.__init__" (defArgs s_PearlError_init) (defBody s_PearlError_init) (defScope s_PearlError_init) [.str ""] [] A_PearlError_init fd_PearlError_init
  b_PearlError_init : Binds K fd_PearlError_init ["self", "why"] []
  A_NoSuch_init : Addr
  fd_NoSuch_init : FuncData
  F_NoSuch_init : Fun K "__init__" "NoSuch.__init__" s_NoSuch_init A_NoSuch_init fd_NoSuch_init
  b_NoSuch_init : Binds K fd_NoSuch_init ["self", "kind", "name"] []
  A_NoShare_init : Addr
  fd_NoShare_init : FuncData
  F_NoShare_init : Fun K "__init__" "NoShare.__init__" s_NoShare_init A_NoShare_init fd_NoShare_init
  b_NoShare_init : Binds K fd_NoShare_init ["self", "num"] []
  A_is_int : Addr
  fd_is_int : FuncData
  F_is_int : Fun K "is_int" "is_int" s_is_int A_is_int fd_is_int
  g_is_int : mg "is_int" = some (.ref A_is_int)
  b_is_int : Binds K fd_is_int ["thing"] []
  A_is_whole : Addr
  fd_is_whole : FuncData
  F_is_whole : Fun K "is_whole" "is_whole" s_is_whole A_is_whole fd_is_whole
  g_is_whole : mg "is_whole" = some (.ref A_is_whole)
  b_is_whole : Binds K fd_is_whole ["thing", "least", "most"] []
  A_is_from_nought : Addr
  fd_is_from_nought : FuncData
  F_is_from_nought : Fun K "is_from_nought" "is_from_nought" s_is_from_nought A_is_from_nought fd_is_from_nought
  g_is_from_nought : mg "is_from_nought" = some (.ref A_is_from_nought)
  b_is_from_nought : Binds K fd_is_from_nought ["thing"] []
  A_is_name : Addr
  fd_is_name : FuncData
  F_is_name : Fun K "is_name" "is_name" s_is_name A_is_name fd_is_name
  g_is_name : mg "is_name" = some (.ref A_is_name)
  b_is_name : Binds K fd_is_name ["thing"] []
  A_is_number : Addr
  fd_is_number : FuncData
  F_is_number : Fun K "is_number" "is_number" s_is_number A_is_number fd_is_number
  g_is_number : mg "is_number" = some (.ref A_is_number)
  b_is_number : Binds K fd_is_number ["thing"] []
  A_Rule_init : Addr
  fd_Rule_init : FuncData
  F_Rule_init : FunD K "__init__" "Rule.__init__" (defArgs s_Rule_init) (defBody s_Rule_init) (defScope s_Rule_init) [.int 0, .int 10, .int 0, .bl true] [] A_Rule_init fd_Rule_init
  mk_Rule : Mk K C_Rule A_Rule_init
  b_Rule_init : Binds K fd_Rule_init ["self", "least", "most", "match", "shades"] []
  A_same_look : Addr
  fd_same_look : FuncData
  F_same_look : Fun K "same_look" "same_look" s_same_look A_same_look fd_same_look
  g_same_look : mg "same_look" = some (.ref A_same_look)
  b_same_look : Binds K fd_same_look ["bead", "other"] []
  A_common_part : Addr
  fd_common_part : FuncData
  F_common_part : Fun K "common_part" "common_part" s_common_part A_common_part fd_common_part
  g_common_part : mg "common_part" = some (.ref A_common_part)
  b_common_part : Binds K fd_common_part ["one", "other"] []
  A_Share_init : Addr
  fd_Share_init : FuncData
  F_Share_init : FunD K "__init__" "Share.__init__" (defArgs s_Share_init) (defBody s_Share_init) (defScope s_Share_init) [.int 1] [] A_Share_init fd_Share_init
  mk_Share : Mk K C_Share A_Share_init
  b_Share_init : Binds K fd_Share_init ["self", "num", "over"] []
  A_Share_plus : Addr
  fd_Share_plus : FuncData
  F_Share_plus : Fun K "plus" "Share.plus" s_Share_plus A_Share_plus fd_Share_plus
  m_Share_plus : Meth K C_Share "plus" A_Share_plus
  b_Share_plus : Binds K fd_Share_plus ["self", "other"] []
  A_Share_minus : Addr
  fd_Share_minus : FuncData
  F_Share_minus : Fun K "minus" "Share.minus" s_Share_minus A_Share_minus fd_Share_minus
  m_Share_minus : Meth K C_Share "minus" A_Share_minus
  b_Share_minus : Binds K fd_Share_minus ["self", "other"] []
  A_Share_is_below : Addr
  fd_Share_is_below : FuncData
  F_Share_is_below : Fun K "is_below" "Share.is_below" s_Share_is_below A_Share_is_below fd_Share_is_below
  m_Share_is_below : Meth K C_Share "is_below" A_Share_is_below
  b_Share_is_below : Binds K fd_Share_is_below ["self", "other"] []
  A_Share_eq : Addr
  fd_Share_eq : FuncData
  F_Share_eq : Fun K "__eq__" "Share.__eq__" s_Share_eq A_Share_eq fd_Share_eq
  m_Share_eq : Meth K C_Share "__eq__" A_Share_eq
  b_Share_eq : Binds K fd_Share_eq ["self", "other"] []
  A_worth : Addr
  fd_worth : FuncData
  F_worth : FunD K "worth" "worth" (defArgs s_worth) (defBody s_worth) (defScope s_worth) [.int 1, .int 2] [] A_worth fd_worth
  g_worth : mg "worth" = some (.ref A_worth)
  b_worth : Binds K fd_worth ["bead", "rates", "base", "drilled"] []
  A_check_rule : Addr
  fd_check_rule : FuncData
  F_check_rule : Fun K "check_rule" "check_rule" s_check_rule A_check_rule fd_check_rule
  g_check_rule : mg "check_rule" = some (.ref A_check_rule)
  b_check_rule : Binds K fd_check_rule ["rule"] []
  A_may_be_partners : Addr
  fd_may_be_partners : FuncData
  F_may_be_partners : Fun K "may_be_partners" "may_be_partners" s_may_be_partners A_may_be_partners fd_may_be_partners
  g_may_be_partners : mg "may_be_partners" = some (.ref A_may_be_partners)
  b_may_be_partners : Binds K fd_may_be_partners ["left", "right", "rule"] []
  A_may_stand_next : Addr
  fd_may_stand_next : FuncData
  F_may_stand_next : Fun K "may_stand_next" "may_stand_next" s_may_stand_next A_may_stand_next fd_may_stand_next
  g_may_stand_next : mg "may_stand_next" = some (.ref A_may_stand_next)
  b_may_stand_next : Binds K fd_may_stand_next ["bead", "outer", "rule"] []
  A_pairs_of : Addr
  fd_pairs_of : FuncData
  F_pairs_of : Fun K "pairs_of" "pairs_of" s_pairs_of A_pairs_of fd_pairs_of
  g_pairs_of : mg "pairs_of" = some (.ref A_pairs_of)
  b_pairs_of : Binds K fd_pairs_of ["beads", "rule"] []
  A_Asked_init : Addr
  fd_Asked_init : FuncData
  F_Asked_init : Fun K "__init__" "Asked.__init__" s_Asked_init A_Asked_init fd_Asked_init
  mk_Asked : Mk K C_Asked A_Asked_init
  b_Asked_init : Binds K fd_Asked_init ["self", "beads", "rule", "long", "worths"] []
  A_Asked_worth_with : Addr
  fd_Asked_worth_with : FuncData
  F_Asked_worth_with : Fun K "worth_with" "Asked.worth_with" s_Asked_worth_with A_Asked_worth_with fd_Asked_worth_with
  m_Asked_worth_with : Meth K C_Asked "worth_with" A_Asked_worth_with
  b_Asked_worth_with : Binds K fd_Asked_worth_with ["self", "pair", "share"] []
  A_Asked_goes_on_by : Addr
  fd_Asked_goes_on_by : FuncData
  F_Asked_goes_on_by : Fun K "goes_on_by" "Asked.goes_on_by" s_Asked_goes_on_by A_Asked_goes_on_by fd_Asked_goes_on_by
  m_Asked_goes_on_by : Meth K C_Asked "goes_on_by" A_Asked_goes_on_by
  b_Asked_goes_on_by : Binds K fd_Asked_goes_on_by ["self", "pair", "out", "inner"] []
  A_asked_with : Addr
  fd_asked_with : FuncData
  F_asked_with : Fun K "asked_with" "asked_with" s_asked_with A_asked_with fd_asked_with
  g_asked_with : mg "asked_with" = some (.ref A_asked_with)
  b_asked_with : Binds K fd_asked_with ["beads", "rule", "long", "rates", "base", "drilled"] []
  A_greatest : Addr
  fd_greatest : FuncData
  F_greatest : Fun K "greatest" "greatest" s_greatest A_greatest fd_greatest
  g_greatest : mg "greatest" = some (.ref A_greatest)
  b_greatest : Binds K fd_greatest ["shares"] []
  A_rows_of : Addr
  fd_rows_of : FuncData
  F_rows_of : Fun K "rows_of" "rows_of" s_rows_of A_rows_of fd_rows_of
  g_rows_of : mg "rows_of" = some (.ref A_rows_of)
  b_rows_of : Binds K fd_rows_of ["asked"] []
  A_best_paper : Addr
  fd_best_paper : FuncData
  F_best_paper : FunD K "best_paper" "best_paper" (defArgs s_best_paper) (defBody s_best_paper) (defScope s_best_paper) [.int 1, .int 2] [] A_best_paper fd_best_paper
  g_best_paper : mg "best_paper" = some (.ref A_best_paper)
  b_best_paper : Binds K fd_best_paper ["beads", "rule", "long", "rates", "base", "drilled"] []
  A_is_row : Addr
  fd_is_row : FuncData
  F_is_row : Fun K "is_row" "is_row" s_is_row A_is_row fd_is_row
  g_is_row : mg "is_row" = some (.ref A_is_row)
  b_is_row : Binds K fd_is_row ["asked", "row"] []
  A_shares_by_out : Addr
  fd_shares_by_out : FuncData
  F_shares_by_out : Fun K "shares_by_out" "shares_by_out" s_shares_by_out A_shares_by_out fd_shares_by_out
  g_shares_by_out : mg "shares_by_out" = some (.ref A_shares_by_out)
  b_shares_by_out : Binds K fd_shares_by_out ["asked", "paper"] []
  A_has_all : Addr
  fd_has_all : FuncData
  F_has_all : Fun K "has_all" "has_all" s_has_all A_has_all fd_has_all
  g_has_all : mg "has_all" = some (.ref A_has_all)
  b_has_all : Binds K fd_has_all ["asked", "out", "here", "inner"] []
  A_none_above : Addr
  fd_none_above : FuncData
  F_none_above : Fun K "none_above" "none_above" s_none_above A_none_above fd_none_above
  g_none_above : mg "none_above" = some (.ref A_none_above)
  b_none_above : Binds K fd_none_above ["shares", "most"] []
  A_bars_better : Addr
  fd_bars_better : FuncData
  F_bars_better : FunD K "bars_better" "bars_better" (defArgs s_bars_better) (defBody s_bars_better) (defScope s_bars_better) [.int 1, .int 2] [] A_bars_better fd_bars_better
  g_bars_better : mg "bars_better" = some (.ref A_bars_better)
  b_bars_better : Binds K fd_bars_better ["beads", "rule", "long", "rates", "most", "paper", "base", "drilled"] []
  A_is_measure : Addr
  fd_is_measure : FuncData
  F_is_measure : Fun K "is_measure" "is_measure" s_is_measure A_is_measure fd_is_measure
  g_is_measure : mg "is_measure" = some (.ref A_is_measure)
  b_is_measure : Binds K fd_is_measure ["thing"] []
  A_Bead_init : Addr
  fd_Bead_init : FuncData
  F_Bead_init : FunD K "__init__" "Bead.__init__" (defArgs s_Bead_init) (defBody s_Bead_init) (defScope s_Bead_init) [.str "round", .bl false] [] A_Bead_init fd_Bead_init
  mk_Bead : Mk K C_Bead A_Bead_init
  b_Bead_init : Binds K fd_Bead_init ["self", "number", "across", "weight", "shade", "form", "drilled"] []
  A_Bead_row : Addr
  fd_Bead_row : FuncData
  F_Bead_row : Fun K "row" "Bead.row" s_Bead_row A_Bead_row fd_Bead_row
  m_Bead_row : Meth K C_Bead "row" A_Bead_row
  b_Bead_row : Binds K fd_Bead_row ["self"] []
  A_cell_at : Addr
  fd_cell_at : FuncData
  F_cell_at : Fun K "_law_cell_at" "_law_cell_at" s_cell_at A_cell_at fd_cell_at
  g_cell_at : mg "_law_cell_at" = some (.ref A_cell_at)
  b_cell_at : Binds K fd_cell_at ["_law_script", "_law_k"] []
  A_well : Addr
  fd_well : FuncData
  F_well : Fun K "_law_well" "_law_well" s_well A_well fd_well
  g_well : mg "_law_well" = some (.ref A_well)
  b_well : Binds K fd_well ["_law_cell"] []
  A_draw : Addr
  fd_draw : FuncData
  F_draw : Fun K "_law_draw" "_law_draw" s_draw A_draw fd_draw
  g_draw : mg "_law_draw" = some (.ref A_draw)
  b_draw : Binds K fd_draw ["_law_well_here", "_law_many"] []
  A_one : Addr
  fd_one : FuncData
  F_one : Fun K "_law_one" "_law_one" s_one A_one fd_one
  g_one : mg "_law_one" = some (.ref A_one)
  b_one : Binds K fd_one ["_law_well_here", "_law_some"] []
  A_four : Addr
  fd_four : FuncData
  F_four : Fun K "_law_four" "_law_four" s_four A_four fd_four
  g_four : mg "_law_four" = some (.ref A_four)
  b_four : Binds K fd_four ["_law_well_here"] []
  A_rows : Addr
  fd_rows : FuncData
  F_rows : Fun K "_law_rows" "_law_rows" s_rows A_rows fd_rows
  g_rows : mg "_law_rows" = some (.ref A_rows)
  b_rows : Binds K fd_rows ["_law_well_here", "_law_four_here", "_law_many"] []
  A_rates : Addr
  fd_rates : FuncData
  F_rates : Fun K "_law_rates" "_law_rates" s_rates A_rates fd_rates
  g_rates : mg "_law_rates" = some (.ref A_rates)
  b_rates : Binds K fd_rates ["_law_well_here"] []
  A_beads : Addr
  fd_beads : FuncData
  F_beads : Fun K "_law_beads" "_law_beads" s_beads A_beads fd_beads
  g_beads : mg "_law_beads" = some (.ref A_beads)
  b_beads : Binds K fd_beads ["_law_rows_here"] []
  A_Lworth : Addr
  fd_Lworth : FuncData
  F_Lworth : Fun K "_law_worth" "_law_worth" s_Lworth A_Lworth fd_Lworth
  g_Lworth : mg "_law_worth" = some (.ref A_Lworth)
  b_Lworth : Binds K fd_Lworth ["_law_row", "_law_rates_here", "_law_unit", "_law_over"] []
  A_plus : Addr
  fd_plus : FuncData
  F_plus : Fun K "_law_plus" "_law_plus" s_plus A_plus fd_plus
  g_plus : mg "_law_plus" = some (.ref A_plus)
  b_plus : Binds K fd_plus ["_law_one_here", "_law_other"] []
  A_less : Addr
  fd_less : FuncData
  F_less : Fun K "_law_less" "_law_less" s_less A_less fd_less
  g_less : mg "_law_less" = some (.ref A_less)
  b_less : Binds K fd_less ["_law_one_here", "_law_other"] []
  A_is : Addr
  fd_is : FuncData
  F_is : Fun K "_law_is" "_law_is" s_is A_is fd_is
  g_is : mg "_law_is" = some (.ref A_is)
  b_is : Binds K fd_is ["_law_share", "_law_pair"] []
  A_next_in : Addr
  fd_next_in : FuncData
  F_next_in : Fun K "_law_next_in" "_law_next_in" s_next_in A_next_in fd_next_in
  g_next_in : mg "_law_next_in" = some (.ref A_next_in)
  b_next_in : Binds K fd_next_in ["_law_outer", "_law_inner_here", "_law_four_here"] []
  A_pairs : Addr
  fd_pairs : FuncData
  F_pairs : Fun K "_law_pairs" "_law_pairs" s_pairs A_pairs fd_pairs
  g_pairs : mg "_law_pairs" = some (.ref A_pairs)
  b_pairs : Binds K fd_pairs ["_law_rows_here", "_law_four_here"] []
  A_inner : Addr
  fd_inner : FuncData
  F_inner : Fun K "_law_inner" "_law_inner" s_inner A_inner fd_inner
  g_inner : mg "_law_inner" = some (.ref A_inner)
  b_inner : Binds K fd_inner ["_law_pair", "_law_rows_here", "_law_pairs_here", "_law_out", "_law_four_here", "_law_long"] []
  A_most : Addr
  fd_most : FuncData
  F_most : Fun K "_law_most" "_law_most" s_most A_most fd_most
  g_most : mg "_law_most" = some (.ref A_most)
  b_most : Binds K fd_most ["_law_rows_here", "_law_pairs_here", "_law_four_here", "_law_long", "_law_worths"] []
  A_top : Addr
  fd_top : FuncData
  F_top : Fun K "_law_top" "_law_top" s_top A_top fd_top
  g_top : mg "_law_top" = some (.ref A_top)
  b_top : Binds K fd_top ["_law_rows_here", "_law_pairs_here", "_law_four_here", "_law_long", "_law_worths"] []
  A_case : Addr
  fd_case : FuncData
  F_case : Fun K "_law_case" "_law_case" s_case A_case fd_case
  g_case : mg "_law_case" = some (.ref A_case)
  b_case : Binds K fd_case ["_law_well_here", "_law_most_here"] []
  A_shares : Addr
  fd_shares : FuncData
  F_shares : Fun K "_law_shares" "_law_shares" s_shares A_shares fd_shares
  g_shares : mg "_law_shares" = some (.ref A_shares)
  b_shares : Binds K fd_shares ["_law_top_here", "_law_more"] []
  A_by_defaults : Addr
  fd_by_defaults : FuncData
  F_by_defaults : Fun K "_law_by_defaults" "_law_by_defaults" s_by_defaults A_by_defaults fd_by_defaults
  g_by_defaults : mg "_law_by_defaults" = some (.ref A_by_defaults)
  b_by_defaults : Binds K fd_by_defaults ["_law_beads_here", "_law_rule", "_law_long", "_law_rates_here", "_law_four_here", "_law_rows_here"] []
  C_PearlError : Addr
  g_PearlError : mg "PearlError" = some (.ref C_PearlError)
  C_BadBead : Addr
  g_BadBead : mg "BadBead" = some (.ref C_BadBead)
  C_BadRule : Addr
  g_BadRule : mg "BadRule" = some (.ref C_BadRule)
  C_NoShare : Addr
  g_NoShare : mg "NoShare" = some (.ref C_NoShare)
  C_NoSuch : Addr
  g_NoSuch : mg "NoSuch" = some (.ref C_NoSuch)
  ox_BadRule : OexC K C_BadRule
  in_BadRule : PySem.W.findIn K (.ref C_BadRule) "__init__" = some (some (.ref A_PearlError_init))
  ti_BadRule : PySem.W.typeIn K (.ref A_PearlError_init) = some (.type "function")
  xc_BadRule : ExcC K C_BadRule
  nf_BadRule_why : PySem.W.findIn K (.ref C_BadRule) "why" = some none
  em_BadRule_PearlError : PySem.W.exmOne K (.ref C_BadRule) (.ref C_PearlError) = some true
  ox_NoShare : OexB "ZeroDivisionError.__new__" zdT K C_NoShare
  in_NoShare : PySem.W.findIn K (.ref C_NoShare) "__init__" = some (some (.ref A_NoShare_init))
  ti_NoShare : PySem.W.typeIn K (.ref A_NoShare_init) = some (.type "function")
  xc_NoShare : ExcC K C_NoShare
  nf_NoShare_num : PySem.W.findIn K (.ref C_NoShare) "num" = some none
  em_NoShare_NoShare : PySem.W.exmOne K (.ref C_NoShare) (.ref C_NoShare) = some true
  ox_NoSuch : OexB "LookupError.__new__" luT K C_NoSuch
  in_NoSuch : PySem.W.findIn K (.ref C_NoSuch) "__init__" = some (some (.ref A_NoSuch_init))
  ti_NoSuch : PySem.W.typeIn K (.ref A_NoSuch_init) = some (.type "function")
  xc_NoSuch : ExcC K C_NoSuch
  nf_NoSuch_kind : PySem.W.findIn K (.ref C_NoSuch) "kind" = some none
  nf_NoSuch_name : PySem.W.findIn K (.ref C_NoSuch) "name" = some none
  em_NoSuch_NoSuch : PySem.W.exmOne K (.ref C_NoSuch) (.ref C_NoSuch) = some true
  vV_LookupError : PySem.W.findCls K (.type "LookupError") (.type "type") "__init__" = some (.val (.builtin "LookupError.__init__"))
  vV_ZeroDivisionError : PySem.W.findCls K (.type "ZeroDivisionError") (.type "type") "__init__" = some (.val (.builtin "ZeroDivisionError.__init__"))
  vV : PySem.W.findCls K (.type "ValueError") (.type "type") "__init__" = some (.val (.builtin "ValueError.__init__"))
  its_kb_1 : List Value
  kb_1 : KBn K fd_best_paper ["beads", "rule", "long", "rates", "base", "drilled"] 4 ["drilled"] (fun us ws => kw [(0, 0), (0, 1), (0, 2), (0, 3), (1, 0), (2, 0)] us its_kb_1 ws) (fun vs zs => kw [(0, 0), (0, 1), (0, 2), (0, 3), (1, 0), (2, 0)] vs [.int 1, .int 2] zs)
  its_kb_2 : List Value
  kb_2 : KBn K fd_bars_better ["beads", "rule", "long", "rates", "most", "paper", "base", "drilled"] 6 ["base"] (fun us ws => kw [(0, 0), (0, 1), (0, 2), (0, 3), (0, 4), (0, 5), (2, 0), (1, 1)] us its_kb_2 ws) (fun vs zs => kw [(0, 0), (0, 1), (0, 2), (0, 3), (0, 4), (0, 5), (2, 0), (1, 1)] vs [.int 1, .int 2] zs)
  its_kb_3 : List Value
  kb_3 : KBn K fd_bars_better ["beads", "rule", "long", "rates", "most", "paper", "base", "drilled"] 7 ["drilled"] (fun us ws => kw [(0, 0), (0, 1), (0, 2), (0, 3), (0, 4), (0, 5), (0, 6), (2, 0)] us its_kb_3 ws) (fun vs zs => kw [(0, 0), (0, 1), (0, 2), (0, 3), (0, 4), (0, 5), (0, 6), (2, 0)] vs [.int 1, .int 2] zs)
  its_kb_4 : List Value
  kb_4 : KBn K fd_best_paper ["beads", "rule", "long", "rates", "base", "drilled"] 4 ["base", "drilled"] (fun us ws => kw [(0, 0), (0, 1), (0, 2), (0, 3), (2, 0), (2, 1)] us its_kb_4 ws) (fun vs zs => kw [(0, 0), (0, 1), (0, 2), (0, 3), (2, 0), (2, 1)] vs [.int 1, .int 2] zs)
  ds1_Share : List Value
  hd1_Share : Vals [.int 1] ds1_Share
  bd1_Share : Binds K fd_Share_init ["self", "num", "over"] ds1_Share
  i_Share : ICls K C_Share
  ds0_Rule : List Value
  hd0_Rule : Vals [.int 0, .int 10, .int 0, .bl true] ds0_Rule
  bd0_Rule : Binds K fd_Rule_init ["self", "least", "most", "match", "shades"] ds0_Rule
  ds4_best_paper : List Value
  hd4_best_paper : Vals [.int 1, .int 2] ds4_best_paper
  bd4_best_paper : Binds K fd_best_paper ["beads", "rule", "long", "rates", "base", "drilled"] ds4_best_paper
  ds5_best_paper : List Value
  hd5_best_paper : Vals [.int 2] ds5_best_paper
  bd5_best_paper : Binds K fd_best_paper ["beads", "rule", "long", "rates", "base", "drilled"] ds5_best_paper
  ds6_bars_better : List Value
  hd6_bars_better : Vals [.int 1, .int 2] ds6_bars_better
  bd6_bars_better : Binds K fd_bars_better ["beads", "rule", "long", "rates", "most", "paper", "base", "drilled"] ds6_bars_better
  t_LONGEST_NAME : Tok
  g_LONGEST_NAME : mg "LONGEST_NAME" = some (.int 8 t_LONGEST_NAME)
  t_GREATEST_NUMBER : Tok
  g_GREATEST_NUMBER : mg "GREATEST_NUMBER" = some (.int 1000000000 t_GREATEST_NUMBER)
  t_ROW_LENGTH : Tok
  g_ROW_LENGTH : mg "ROW_LENGTH" = some (.int 4 t_ROW_LENGTH)
  t_GREATEST_MEASURE : Tok
  g_GREATEST_MEASURE : mg "GREATEST_MEASURE" = some (.int 1000000 t_GREATEST_MEASURE)
  z_ValueError : mg "ValueError" = none
  z_LookupError : mg "LookupError" = none
  z_ZeroDivisionError : mg "ZeroDivisionError" = none
  z_bool : mg "bool" = none
  z_isinstance : mg "isinstance" = none
  z_int : mg "int" = none
  z_len : mg "len" = none
  z_str : mg "str" = none
  z_all : mg "all" = none
  z_abs : mg "abs" = none
  z_sorted : mg "sorted" = none
  z_range : mg "range" = none
  z_reversed : mg "reversed" = none
  z_tuple : mg "tuple" = none
  z_list : mg "list" = none
  z_any : mg "any" = none
  z_enumerate : mg "enumerate" = none
  z_min : mg "min" = none
  z_dict : mg "dict" = none
section
variable {P : Program} {w : World} {K : PySem.W.Frag} {mg : Str → Option Value} {base : Heap}
def whl (v : V) (lo hi : Int) : Bool := match v with
  | .int i => decide (lo ≤ i) && decide (i ≤ hi)
  | _ => false
def nm (v : V) : Bool := match v with
  | .str z => decide (1 ≤ z.length) && decide (z.length ≤ 8) && z.cps.toList.all lower
  | _ => false
def spIsInt (K : PySem.W.Frag) : Sp := fun vs H Q _ => ∃ v, vs = [v] ∧ Th K H v ∧ Q (.bl (isI v)) H
def spIsWhole (K : PySem.W.Frag) : Sp := fun vs H Q _ => ∃ v lo hi, vs = [v, .int lo, .int hi] ∧ Th K H v ∧ Q (.bl (whl v lo hi)) H
def spIsNumber (K : PySem.W.Frag) : Sp := fun vs H Q _ => ∃ v, vs = [v] ∧ Th K H v ∧ Q (.bl (whl v 1 1000000000)) H
def spIsName (K : PySem.W.Frag) : Sp := fun vs H Q _ => ∃ v, vs = [v] ∧ Th K H v ∧ (∀ z, v = .str z → z.length ≤ 100000) ∧ ∀ H', Same H H' → Q (.bl (nm v)) H'
theorem ok_is_int (T : Tx K mg) : FnOk P w K mg base CX0 1 T.A_is_int T.fd_is_int ["thing"] (spIsInt K) := by
  refine T.F_is_int.ok sc_is_int (fun vs H Q E h => ?_) (fun cdv A outer s H vs Q E hr h => ?_)
  · obtain ⟨v, rfl, th, q⟩ := h
    rfl
  obtain ⟨v, rfl, th, q⟩ := h
  refine ⟨_, (pss_one (ps_ret (pe_and (pe_callB call_isi (by rfl) T.z_isinstance (by decide +kernel) (pa_cons (pv 0) (pa_cons (pe_bltn (v := .ty "int") (by rfl) T.z_int (by decide +kernel) rfl) pa_nil))) (pe_one (pe_not (pe_callB call_isi (by rfl) T.z_isinstance (by decide +kernel) (pa_cons (pv 0) (pa_cons (pe_bltn (v := .ty "bool") (by rfl) T.z_bool (by decide +kernel) rfl) pa_nil)))))))), ?_⟩
  obtain ⟨t1, ty1, k1⟩ := isi_int th
  obtain ⟨t2, ty2, k2⟩ := isi_bool th
  refine ⟨_, rfl, v, _, t1, _, _, rfl, .ty _, ty1, k1, _, rfl, ?_⟩
  refine ite2 (fun e => ?_) (fun e => ?_)
  · refine ⟨_, rfl, v, _, t2, _, _, rfl, .ty _, ty2, k2, _, rfl, ?_⟩
    have : (!isB v) = isI v := by cases v <;> simp_all [isI, isB]
    rw [this]
    exact q
  · have : isI v = false := by cases v <;> simp_all [isI, isB]
    rw [this] at q
    exact q
theorem ok_is_whole (T : Tx K mg) : FnOk P w K mg base CX0 2 T.A_is_whole T.fd_is_whole ["thing", "least", "most"] (spIsWhole K) := by
  refine T.F_is_whole.ok sc_is_whole (fun vs H Q E h => ?_) (fun cdv A outer s H vs Q E hr h => ?_)
  · obtain ⟨v, lo, hi, rfl, th, q⟩ := h
    rfl
  obtain ⟨v, lo, hi, rfl, th, q⟩ := h
  refine ⟨_, (pss_one (ps_ret (pe_and (pe_call (ok_is_int T) (hr.mono (by decide)) (by rfl) T.g_is_int T.F_is_int.kp T.b_is_int .nil pass0 (pa_cons (pv 0) pa_nil)) (pe_one (pe_chain op_le op_le (pv 1) (pv 0) (pv 2)))))), ?_⟩
  refine ⟨_, rfl, v, rfl, th, _, rfl, ?_⟩
  cases v with
  | int i =>
    refine iteT ?_
    refine ⟨_, rfl, _, rfl, _, _, rfl, rfl, _, rfl, ?_⟩
    refine ite2 (fun e => ?_) (fun e => ?_)
    · refine ⟨_, rfl, _, _, rfl, rfl, ?_⟩
      have q : Q (.bl (decide (lo ≤ i) && decide (i ≤ hi))) H := q
      rw [e] at q
      exact q
    · have q : Q (.bl (decide (lo ≤ i) && decide (i ≤ hi))) H := q
      rw [Bool.not_eq_true] at e
      rw [e] at q
      exact q
  | _ => exact iteF q
theorem ok_is_number (T : Tx K mg) : FnOk P w K mg base CX0 3 T.A_is_number T.fd_is_number ["thing"] (spIsNumber K) := by
  refine T.F_is_number.ok sc_is_number (fun vs H Q E h => ?_) (fun cdv A outer s H vs Q E hr h => ?_)
  · obtain ⟨v, rfl, th, q⟩ := h
    rfl
  obtain ⟨v, rfl, th, q⟩ := h
  refine ⟨_, (pss_one (ps_ret (pe_call (ok_is_whole T) (hr.mono (by decide)) (by rfl) T.g_is_whole T.F_is_whole.kp T.b_is_whole .nil pass0 (pa_cons (pv 0) (pa_cons pe_int (pa_cons (pe_glob (v := .int 1000000000) (by rfl) T.g_GREATEST_NUMBER ⟨_, rfl⟩) pa_nil)))))), ?_⟩
  exact ⟨_, rfl, v, 1, 1000000000, rfl, th, q⟩
theorem nm_no {v : V} (h : isS v = false) : nm v = false := by cases v <;> simp_all [nm, isS]
theorem ok_is_name (T : Tx K mg) : FnOk P w K mg base CX0 1 T.A_is_name T.fd_is_name ["thing"] (spIsName K) := by
  refine T.F_is_name.ok sc_is_name (fun vs H Q E h => ?_) (fun cdv A outer s H vs Q E hr h => ?_)
  · obtain ⟨v, rfl, th, hz, q⟩ := h
    rfl
  obtain ⟨v, rfl, th, hz, q⟩ := h
  refine ⟨_, (pss_cons (ps_if (PW.pt (pw_or (pt_not (pt_val (pe_callB call_isi (by rfl) T.z_isinstance (by decide +kernel) (pa_cons (pv 0) (pa_cons (pe_bltn (v := .ty "str") (by rfl) T.z_str (by decide +kernel) rfl) pa_nil))))) (pw_or1 (pt_not (pt_chain op_le op_le pe_int (pe_callB call_len_str (by rfl) T.z_len PySem.boot_len (pa_cons (pv 0) pa_nil)) (pe_glob (v := .int 8) (by rfl) T.g_LONGEST_NAME ⟨_, rfl⟩)))))) (pss_one (ps_ret pe_bl)) pss_nil)
      (pss_one (ps_ret (pe_callB (cr_all rfl) (by rfl) T.z_all (by decide +kernel) (pa_cons (pe_lc (own := [("sign", 1)]) (g := gName 1) (tt := tYes) rfl sc_is_name.nd (pi_str (pv 0)) (blkOk_by (N := ["thing", "sign"]) (sc := defScope s_is_name) (by decide +kernel)) (fun _ _ _ _ _ => (pg_name (i := 1) sc_is_name.nd rfl (Or.inl rfl))) (fun _ _ _ _ _ => pts_nil) (fun _ _ _ _ _ => (pe_chain op_le_str op_le_str pe_str (pv 1) pe_str))) pa_nil))))), ?_⟩
  obtain ⟨t1, ty1, k1⟩ := isi_str th
  refine ⟨_, rfl, v, _, t1, _, _, rfl, .ty _, ty1, k1, _, rfl, ?_⟩
  by_cases hs : isS v = true
  · obtain ⟨z, rfl⟩ : ∃ z, v = .str z := by
      cases v with
      | str z => exact ⟨z, rfl⟩
      | _ => cases hs
    have hz := hz z rfl
    have hzl : z.length ≤ sizeLine := Nat.le_trans hz (by decide)
    have nmE : nm (.str z) = (decide (1 ≤ z.length) && decide (z.length ≤ 8) && z.cps.toList.all lower) := rfl
    rw [hs]
    refine iteF ?_
    refine ⟨_, rfl, z, rfl, hzl, _, _, rfl, rfl, _, rfl, ?_⟩
    by_cases h1 : 1 ≤ z.length
    · rw [decide_eq_true (show (1 : Int) ≤ (z.length : Int) by omega)]
      refine iteT ⟨_, _, rfl, rfl, _, rfl, ?_⟩
      by_cases h2 : z.length ≤ 8
      · rw [decide_eq_true (show (z.length : Int) ≤ 8 by omega)]
        refine iteF ?_
        refine ⟨_, rfl, z, rfl, fun D hD => lc_all hD hz lower ?_ ?_⟩
        · intro c H2 R C s2 r
          refine ⟨rfl, yesT ?_⟩
          refine ⟨_, rfl, _, _, rfl, rfl, _, rfl, ?_⟩
          rw [ge_a]
          refine ite2 (fun e => ?_) (fun e => ?_)
          · refine ⟨_, _, rfl, rfl, ?_⟩
            rw [le_z]
            have : lower c = decide (c ≤ 122) := by unfold lower; rw [e, Bool.true_and]
            rw [← this]
            exact r
          · rw [Bool.not_eq_true] at e
            have : lower c = false := by unfold lower; rw [e, Bool.false_and]
            rw [← this]
            exact r
        · intro H' s1 e1
          refine ⟨D, z.cps.toList.map lower, rfl, SqL.of e1, ?_⟩
          have q := q H' s1
          have : nm (.str z) = (z.cps.toList.map lower).all id := by
            rw [nmE, decide_eq_true h1, decide_eq_true h2, Bool.true_and, Bool.true_and, List.all_map]
            rfl
          rw [this] at q
          exact q
      · rw [decide_eq_false (show ¬ (z.length : Int) ≤ 8 by omega)]
        refine iteT ?_
        have q := q H (Same.refl H)
        rw [nmE, decide_eq_false h2, Bool.and_false, Bool.false_and] at q
        exact q
    · rw [decide_eq_false (show ¬ (1 : Int) ≤ (z.length : Int) by omega)]
      refine iteF ⟨_, rfl, ?_⟩
      refine iteT ?_
      have q := q H (Same.refl H)
      rw [nmE, decide_eq_false h1, Bool.false_and, Bool.false_and] at q
      exact q
  · rw [Bool.not_eq_true] at hs
    rw [hs]
    refine iteT (iteT ?_)
    have q := q H (Same.refl H)
    rw [nm_no hs] at q
    exact q
theorem ok_PearlError_init (T : Tx K mg) : FnOk P w K mg base CX0 1 T.A_PearlError_init T.fd_PearlError_init ["self", "why"] (spPearl K "why") := by
  refine okD T.F_PearlError_init sc_PearlError_init (fun vs H Q E h => ?_) (fun cdv A outer s H vs Q E hr h => ?_)
  · obtain ⟨a, C, v, rfl, T1, hno, ha, q⟩ := h
    rfl
  obtain ⟨a, C, v, rfl, T1, hno, ha, q⟩ := h
  refine ⟨_, (pss_cons (ps_expr (pe_veinit (by rfl) T.z_ValueError T.vV (pa_cons (pv 0) (pa_cons (pv 1) pa_nil))))
      (pss_one (ps_ost (pv 0) (pv 1)))), ?_⟩
  refine ⟨_, rfl, _, rfl, a, C, [v], rfl, (by show 1 ≤ 1000; decide), T1, ha, ?_⟩
  exact ⟨_, rfl, _, rfl, a, C, rfl, T1, hno, .inl ⟨ha, q⟩⟩
theorem ok_NoShare_init (T : Tx K mg) : FnOk P w K mg base CX0 1 T.A_NoShare_init T.fd_NoShare_init ["self", "num"] (spErr "ZeroDivisionError.__new__" zdT K "num") := by
  refine T.F_NoShare_init.ok sc_NoShare_init (fun vs H Q E h => ?_) (fun cdv A outer s H vs Q E hr h => ?_)
  · obtain ⟨a, C, v, rfl, T1, hno, ha, q⟩ := h
    rfl
  obtain ⟨a, C, v, rfl, T1, hno, ha, q⟩ := h
  refine ⟨_, (pss_cons (ps_expr (pe_binit PySem.F.excBase_ZeroDivisionError (by rfl) T.z_ZeroDivisionError (by decide +kernel) typ_ZD (by decide +kernel) (by decide +kernel) T.vV_ZeroDivisionError (pa_cons (pv 0) (pa_cons pe_str pa_nil))))
      (pss_one (ps_ostB (newId := "ZeroDivisionError.__new__") (bmB := zdT) PySem.F.store_ZeroDivisionError (pv 0) (pv 1)))), ?_⟩
  refine ⟨_, rfl, a, C, [.str "a share is over nought"], rfl, (by show 1 ≤ 1000; decide), T1, ha, ?_⟩
  exact ⟨_, rfl, _, rfl, a, C, rfl, T1, hno, .inl ⟨ha, q⟩⟩
/-- E(v1, v2), its fields f1 and f2 -/
def spErr2 (newId : String) (bmB : List Value) (K : PySem.W.Frag) (f1 f2 : Str) : Sp := fun vs H Q _ => ∃ (a C : Addr) (v1 v2 : V), vs = [.ref a, v1, v2] ∧ OexB newId bmB K C ∧ PySem.W.findIn K (.ref C) f1 = some none ∧ PySem.W.findIn K (.ref C) f2 = some none ∧ H a = some (exo a C none) ∧
  ∀ dx, H dx = none → dx ≠ a → Q .non (upd (upd (upd H dx (exd dx [(f1, v1)])) a (exo a C (some dx))) dx (exd dx [(f2, v2), (f1, v1)]))
theorem ok_NoSuch_init (T : Tx K mg) : FnOk P w K mg base CX0 1 T.A_NoSuch_init T.fd_NoSuch_init ["self", "kind", "name"] (spErr2 "LookupError.__new__" luT K "kind" "name") := by
  refine T.F_NoSuch_init.ok sc_NoSuch_init (fun vs H Q E h => ?_) (fun cdv A outer s H vs Q E hr h => ?_)
  · obtain ⟨a, C, v1, v2, rfl, T1, n1, n2, ha, q⟩ := h
    rfl
  obtain ⟨a, C, v1, v2, rfl, T1, n1, n2, ha, q⟩ := h
  refine ⟨_, (pss_cons (ps_expr (pe_binit PySem.F.excBase_LookupError (by rfl) T.z_LookupError (by decide +kernel) typ_LU (by decide +kernel) (by decide +kernel) T.vV_LookupError (pa_cons (pv 0) (pa_cons pe_str pa_nil))))
      (pss_cons (ps_ostB (newId := "LookupError.__new__") (bmB := luT) PySem.F.store_LookupError (pv 0) (pv 1))
      (pss_one (ps_ostB (newId := "LookupError.__new__") (bmB := luT) PySem.F.store_LookupError (pv 0) (pv 2))))), ?_⟩
  refine ⟨_, rfl, a, C, [.str "there is no such thing"], rfl, (by show 1 ≤ 1000; decide), T1, ha, ?_⟩
  refine ⟨_, rfl, _, rfl, a, C, rfl, T1, n1, .inl ⟨ha, fun dx hd hne => ?_⟩⟩
  refine ⟨_, rfl, _, rfl, a, C, rfl, T1, n2, .inr ⟨dx, [("kind", v1)], upd_same, ?_, (by show 1 ≤ 900; decide), q dx hd hne⟩⟩
  rw [upd_ne hne]
  exact upd_same
def sf (x : Int × Int) : List (Str × V) := putF "over" (.int x.2) (putF "num" (.int x.1) [])
theorem sf_num (x : Int × Int) : (sf x).lookup ("num" : Str) = some (.int x.1) := by
  unfold sf
  rw [lookup_putF, if_neg (by decide +kernel), lookup_putF, if_pos rfl]
theorem sf_over (x : Int × Int) : (sf x).lookup ("over" : Str) = some (.int x.2) := by
  unfold sf
  rw [lookup_putF, if_pos rfl]
theorem sf_no (x : Int × Int) {m : Str} (h1 : ¬ m = "over") (h2 : ¬ m = "num") : (sf x).lookup m = none := by
  unfold sf
  rw [lookup_putF, if_neg h1, lookup_putF, if_neg h2]
  rfl
def ShAt (C : Addr) (H : Hp) (p : Addr) (x : Int × Int) : Prop := ∃ dx, H p = some (.ins C dx (sf x))
theorem ShAt.same {C : Addr} {H H' : Hp} {p : Addr} {x : Int × Int} (s : NL H H') (h : ShAt C H p x) : ShAt C H' p x := by
  obtain ⟨dx, e⟩ := h
  exact ⟨dx, s _ _ (fun _ z => by cases z) e⟩
def Ok (k : Nat) (x : Int × Int) : Prop := 0 < x.2 ∧ Sz k x.1 ∧ Sz k x.2
def spCommon : Sp := fun vs H Q _ => ∃ a b : Nat, vs = [.int a, .int b] ∧ Q (.int (Nat.gcd a b : Nat)) H
theorem ok_common_part (T : Tx K mg) : FnOk P w K mg base CX0 1 T.A_common_part T.fd_common_part ["one", "other"] (spCommon) := by
  refine T.F_common_part.ok sc_common_part (fun vs H Q E h => ?_) (fun cdv A outer s H vs Q E hr h => ?_)
  · obtain ⟨a, b, rfl, q⟩ := h
    rfl
  obtain ⟨a, b, rfl, q⟩ := h
  refine ⟨_, (pss_cons (ps_while PassesOwn.never (pt_cmpR op_gt (pv 1) pe_int (nomark _)) (pss_one (ps_par (i := 0) (j := 1) (by rfl) sc_common_part.nd rfl rfl (by decide) rfl rfl (pa_cons (pv 1) (pa_cons (pe_op op_mod (pv 0) (pv 1)) pa_nil)) (by rfl))))
      (pss_one (ps_ret (pv 0)))), ?_⟩
  refine while_by (fun σ H' => ∃ x y : Nat, σ = [some (.int x), some (.int y)] ∧ Nat.gcd x y = Nat.gcd a b ∧ H' = H) (fun σ _ => match σ with | [_, some (.int y)] => y.toNat | _ => 0) ⟨a, b, rfl, rfl, rfl⟩ ?_ ?_
  · rintro σ H' ⟨x, y, rfl, hg, rfl⟩
    refine ⟨_, rfl, _, _, rfl, rfl, _, rfl, ite2 (fun e => ?_) (fun e => ?_)⟩
    · have hy : 0 < y := by
        have := of_decide_eq_true e
        omega
      refine ⟨_, rfl, _, rfl, _, rfl, _, _, rfl, rfl, (by show (0 : Int) < (y : Int); omega), _, _, rfl, ⟨y, x % y, ?_, ?_, rfl⟩, ?_⟩
      · show [some (V.int (y : Int)), some (V.int ((x : Int) % (y : Int)))] = _
        rw [← Int.natCast_emod]
      · rw [gcd_turn x y hy, hg]
      · show ((x : Int) % (y : Int)).toNat < ((y : Nat) : Int).toNat
        have := Int.emod_lt_of_pos (x : Int) (show (0 : Int) < (y : Int) by omega)
        omega
    · have hy : y = 0 := by
        have : ¬ (0 : Int) < (y : Int) := fun z => e (decide_eq_true z)
        omega
      subst hy
      rw [Nat.gcd_zero_right] at hg
      subst hg
      exact ⟨_, rfl, q⟩
  · rintro σ H' Q1 Q2 hQ ⟨v, h1, i, j, h2, h3, k, h4, z⟩
    exact ⟨v, h1, i, j, h2, h3, k, h4, hQ _ _ z⟩
def spShareX (C CB : Addr) : Sp := fun vs H Q E => ∃ (p dx : Addr) (n d : Int) (k : Nat), vs = [.ref p, .int n, .int d] ∧ H p = some (.ins C dx []) ∧ Sz k d ∧ k ≤ 8000 ∧
  (d ≠ 0 → ∀ H' : Hp, ShAt C H' p (shr n d) → (∀ b o, H b = some o → b ≠ p → H' b = some o) → Q .non H') ∧
  (d = 0 → ∀ (H' : Hp) (dd : Addr), Same H H' → H' dd = some (.xd [("num", .int n)]) → E (.ref CB) (some dd) H')
theorem ok_Share_init (T : Tx K mg) : FnOk P w K mg base (L2.CX P w) 3 T.A_Share_init T.fd_Share_init ["self", "num", "over"] (spShareX T.C_Share T.C_NoShare) := by
  refine T.F_Share_init.ok (CX := L2.CX P w) sc_Share_init (fun vs H Q E h => ?_) (fun cdv A outer s H vs Q E hr h => ?_)
  · obtain ⟨p, dx, n, d, k, rfl, hp, hs, hk, q, qn⟩ := h
    rfl
  obtain ⟨p, dx, n, d, k, rfl, hp, hs, hk, q, qn⟩ := h
  refine ⟨_, (pss_cons (ps_if (pt_cmpR op_eq (pv 2) pe_int (nomark _)) (pss_one (ps_raise rfl (takes_of rfl rfl rfl rfl) (pmk_gex PySem.F.excBase_ZeroDivisionError T.ox_NoShare T.in_NoShare T.ti_NoShare (ok_NoShare_init T) (hr.mono (by decide)) T.b_NoShare_init .nil pass0 (by rfl) T.g_NoShare (pa_cons (pv 1) pa_nil)))) pss_nil)
      (pss_cons (ps_set (i := 3) sc_Share_init.nd rfl (Or.inl rfl) (pe_call (ok_common_part T) (hr.mono (by decide)) (by rfl) T.g_common_part T.F_common_part.kp T.b_common_part .nil pass0 (pa_cons (pe_callB call_abs (by rfl) T.z_abs (by decide +kernel) (pa_cons (pv 1) pa_nil)) (pa_cons (pe_callB call_abs (by rfl) T.z_abs (by decide +kernel) (pa_cons (pv 2) pa_nil)) pa_nil))))
      (pss_cutJ (ps_if (pt_cmpR op_lt (pv 2) pe_int (nomark _)) (pss_one (ps_set (i := 3) sc_Share_init.nd rfl (Or.inl rfl) (pe_un un_neg (pv 3)))) pss_nil)
      (pss_cons (ps_fld (pv 0) (pe_op op_fdivX (pv 1) (pv 3)) rfl)
      (pss_one (ps_fld (pv 0) (pe_op op_fdivX (pv 2) (pv 3)) rfl)))))), ?_⟩
  by_cases hd : d = 0
  · subst hd
    refine ⟨_, rfl, rfl, _, rfl, iteT ⟨_, rfl, (by show 1 ≤ 1000; decide), fun x hx => ⟨x, T.C_NoShare, .int n, rfl, T.ox_NoShare, T.nf_NoShare_num, upd_same, fun dd hd hne => ⟨rfl, dd, [("num", .int n)], upd_same, ?_, ?_, ?_⟩⟩⟩⟩
    · rw [upd_ne hne]
      exact upd_same
    · rw [upd_ne hne] at hd
      exact hd
    · rw [upd_ne hne] at hd
      exact qn rfl _ dd (pearl_same hx hd) upd_same
  have q := q hd
  refine ⟨_, rfl, rfl, _, rfl, ?_⟩
  rw [decide_eq_false (show ¬ V.int d = V.int 0 from fun e => hd (by injection e))]
  refine iteF ⟨_, rfl, _, rfl, _, rfl, _, rfl, n.natAbs, d.natAbs, ?_, ?_⟩
  · show [V.int (if n < 0 then -n else n), V.int (if d < 0 then -d else d)] = _
    rw [abs_nat, abs_nat]
  refine ⟨fun σ' H' => σ' = [some (.ref p), some (.int n), some (.int d), some (.int (prt n d))] ∧ H = H', ?_, ?_⟩
  · refine ⟨_, rfl, _, _, rfl, rfl, _, rfl, ite2 (fun e => ?_) (fun e => ?_)⟩
    · refine ⟨_, rfl, _, rfl, ?_, rfl⟩
      have : prt n d = -(Int.gcd n d : Int) := if_pos (of_decide_eq_true e)
      rw [this]
      rfl
    · refine ⟨?_, rfl⟩
      have : prt n d = (Int.gcd n d : Int) := if_neg (fun z => e (decide_eq_true z))
      rw [this]
      rfl
  · rintro σ' _ ⟨rfl, rfl⟩
    refine ⟨_, rfl, _, rfl, _, _, rfl, rfl, ⟨prt_ne hd, prt_log hd hs hk⟩, _, rfl, p, _, dx, _, rfl, hp, T.cl_Share, T.n_Share_num, by decide, ?_⟩
    refine ⟨_, rfl, _, rfl, _, _, rfl, rfl, ⟨prt_ne hd, prt_log hd hs hk⟩, _, rfl, p, _, dx, _, rfl, upd_same, T.cl_Share, T.n_Share_over, Nat.lt_of_le_of_lt (length_putF _ _ _) (by decide), ?_⟩
    refine q _ ⟨dx, upd_same⟩ fun b o e hb => ?_
    rw [upd_ne hb, upd_ne hb]
    exact e
def spFromN (K : PySem.W.Frag) : Sp := fun vs H Q _ => ∃ v, vs = [v] ∧ Th K H v ∧ Q (.bl (match v with | .int i => decide (0 ≤ i) | _ => false)) H
theorem ok_is_from_nought (T : Tx K mg) : FnOk P w K mg base CX0 2 T.A_is_from_nought T.fd_is_from_nought ["thing"] (spFromN K) := by
  refine T.F_is_from_nought.ok sc_is_from_nought (fun vs H Q E h => ?_) (fun cdv A outer s H vs Q E hr h => ?_)
  · obtain ⟨v, rfl, th, q⟩ := h
    rfl
  obtain ⟨v, rfl, th, q⟩ := h
  refine ⟨_, (pss_one (ps_ret (pe_and (pe_call (ok_is_int T) (hr.mono (by decide)) (by rfl) T.g_is_int T.F_is_int.kp T.b_is_int .nil pass0 (pa_cons (pv 0) pa_nil)) (pe_one (pe_cmpR op_ge (pv 0) pe_int (nomark _)))))), ?_⟩
  refine ⟨_, rfl, v, rfl, th, _, rfl, ?_⟩
  cases v with
  | int i => exact iteT ⟨_, rfl, _, _, rfl, rfl, q⟩
  | _ => exact iteF q
def spMeasure (K : PySem.W.Frag) : Sp := fun vs H Q _ => ∃ v, vs = [v] ∧ Th K H v ∧ Q (.bl (whl v 1 1000000)) H
theorem ok_is_measure (T : Tx K mg) : FnOk P w K mg base CX0 3 T.A_is_measure T.fd_is_measure ["thing"] (spMeasure K) := by
  refine T.F_is_measure.ok sc_is_measure (fun vs H Q E h => ?_) (fun cdv A outer s H vs Q E hr h => ?_)
  · obtain ⟨v, rfl, th, q⟩ := h
    rfl
  obtain ⟨v, rfl, th, q⟩ := h
  refine ⟨_, (pss_one (ps_ret (pe_call (ok_is_whole T) (hr.mono (by decide)) (by rfl) T.g_is_whole T.F_is_whole.kp T.b_is_whole .nil pass0 (pa_cons (pv 0) (pa_cons pe_int (pa_cons (pe_glob (v := .int 1000000) (by rfl) T.g_GREATEST_MEASURE ⟨_, rfl⟩) pa_nil)))))), ?_⟩
  exact ⟨_, rfl, v, 1, 1000000, rfl, th, q⟩
/-- a bead, a rule, as data -/
structure Rw where
  num : Int
  ac : Int
  we : Int
  sh : Str
  fo : Str
  dr : Bool
structure Rl where
  lo : Int
  hi : Int
  far : Int
  shd : Bool
def GoodRw (r : Rw) : Prop := whl (.int r.num) 1 1000000000 = true ∧ whl (.int r.ac) 1 1000000 = true ∧ whl (.int r.we) 1 1000000 = true ∧ nm (.str r.sh) = true ∧ nm (.str r.fo) = true
def GoodRl (u : Rl) : Prop := 0 ≤ u.lo ∧ u.lo ≤ u.hi ∧ 0 ≤ u.far
theorem short_name {z : Str} (h : nm (.str z) = true) : z.length ≤ 100000 := by
  have nmE : nm (.str z) = (decide (1 ≤ z.length) && decide (z.length ≤ 8) && z.cps.toList.all lower) := rfl
  rw [nmE] at h
  simp only [Bool.and_eq_true, decide_eq_true_eq] at h
  omega
def bf (r : Rw) : List (Str × V) := putF "drilled" (.bl r.dr) (putF "form" (.str r.fo) (putF "shade" (.str r.sh) (putF "weight" (.int r.we) (putF "across" (.int r.ac) (putF "number" (.int r.num) [])))))
theorem bf_number (r : Rw) : (bf r).lookup ("number" : Str) = some (.int r.num) := by
  unfold bf
  rw [lookup_putF, if_neg (by decide +kernel), lookup_putF, if_neg (by decide +kernel), lookup_putF, if_neg (by decide +kernel), lookup_putF, if_neg (by decide +kernel), lookup_putF, if_neg (by decide +kernel), lookup_putF, if_pos rfl]
theorem bf_across (r : Rw) : (bf r).lookup ("across" : Str) = some (.int r.ac) := by
  unfold bf
  rw [lookup_putF, if_neg (by decide +kernel), lookup_putF, if_neg (by decide +kernel), lookup_putF, if_neg (by decide +kernel), lookup_putF, if_neg (by decide +kernel), lookup_putF, if_pos rfl]
theorem bf_weight (r : Rw) : (bf r).lookup ("weight" : Str) = some (.int r.we) := by
  unfold bf
  rw [lookup_putF, if_neg (by decide +kernel), lookup_putF, if_neg (by decide +kernel), lookup_putF, if_neg (by decide +kernel), lookup_putF, if_pos rfl]
theorem bf_shade (r : Rw) : (bf r).lookup ("shade" : Str) = some (.str r.sh) := by
  unfold bf
  rw [lookup_putF, if_neg (by decide +kernel), lookup_putF, if_neg (by decide +kernel), lookup_putF, if_pos rfl]
theorem bf_form (r : Rw) : (bf r).lookup ("form" : Str) = some (.str r.fo) := by
  unfold bf
  rw [lookup_putF, if_neg (by decide +kernel), lookup_putF, if_pos rfl]
theorem bf_drilled (r : Rw) : (bf r).lookup ("drilled" : Str) = some (.bl r.dr) := by
  unfold bf
  rw [lookup_putF, if_pos rfl]
theorem bf_no (r : Rw) {m : Str} (h1 : ¬ m = "drilled") (h2 : ¬ m = "form") (h3 : ¬ m = "shade") (h4 : ¬ m = "weight") (h5 : ¬ m = "across") (h6 : ¬ m = "number") : (bf r).lookup m = none := by
  unfold bf
  rw [lookup_putF, if_neg h1, lookup_putF, if_neg h2, lookup_putF, if_neg h3, lookup_putF, if_neg h4, lookup_putF, if_neg h5, lookup_putF, if_neg h6]
  rfl
def uf (u : Rl) : List (Str × V) := putF "shades" (.bl u.shd) (putF "match" (.int u.far) (putF "most" (.int u.hi) (putF "least" (.int u.lo) [])))
theorem uf_least (u : Rl) : (uf u).lookup ("least" : Str) = some (.int u.lo) := by
  unfold uf
  rw [lookup_putF, if_neg (by decide +kernel), lookup_putF, if_neg (by decide +kernel), lookup_putF, if_neg (by decide +kernel), lookup_putF, if_pos rfl]
theorem uf_most (u : Rl) : (uf u).lookup ("most" : Str) = some (.int u.hi) := by
  unfold uf
  rw [lookup_putF, if_neg (by decide +kernel), lookup_putF, if_neg (by decide +kernel), lookup_putF, if_pos rfl]
theorem uf_match (u : Rl) : (uf u).lookup ("match" : Str) = some (.int u.far) := by
  unfold uf
  rw [lookup_putF, if_neg (by decide +kernel), lookup_putF, if_pos rfl]
theorem uf_shades (u : Rl) : (uf u).lookup ("shades" : Str) = some (.bl u.shd) := by
  unfold uf
  rw [lookup_putF, if_pos rfl]
theorem few {fs : List (Str × V)} {f : Str} {v : V} {n : Nat} (h : fs.length ≤ n) : (putF f v fs).length ≤ n + 1 := Nat.le_trans (length_putF f v fs) (by omega)
theorem few0 : ([] : List (Str × V)).length ≤ 0 := Nat.le_refl _
def BeadAt (C : Addr) (H : Hp) (p : Addr) (r : Rw) : Prop := ∃ dx, H p = some (.ins C dx (bf r))
def RuleAt (C : Addr) (H : Hp) (p : Addr) (u : Rl) : Prop := ∃ dx, H p = some (.ins C dx (uf u))
def spBead (C : Addr) : Sp := fun vs H Q _ => ∃ (p dx : Addr) (r : Rw), vs = [.ref p, .int r.num, .int r.ac, .int r.we, .str r.sh, .str r.fo, .bl r.dr] ∧ H p = some (.ins C dx []) ∧ GoodRw r ∧
  ∀ H' : Hp, BeadAt C H' p r → (∀ b o, H b = some o → b ≠ p → H' b = some o) → Q .non H'
theorem ok_Bead_init (T : Tx K mg) : FnOk P w K mg base CX0 4 T.A_Bead_init T.fd_Bead_init ["self", "number", "across", "weight", "shade", "form", "drilled"] (spBead T.C_Bead) := by
  refine okD T.F_Bead_init sc_Bead_init (fun vs H Q E h => ?_) (fun cdv A outer s H vs Q E hr h => ?_)
  · obtain ⟨p, dx, r, rfl, hp, ⟨g1, g2, g3, g4, g5⟩, q⟩ := h
    rfl
  obtain ⟨p, dx, r, rfl, hp, ⟨g1, g2, g3, g4, g5⟩, q⟩ := h
  refine ⟨_, (pss_cons (ps_if (pt_not (pt_val (pe_call (ok_is_number T) (hr.mono (by decide)) (by rfl) T.g_is_number T.F_is_number.kp T.b_is_number .nil pass0 (pa_cons (pv 1) pa_nil)))) (pss_one ps_never) pss_nil)
      (pss_cons (ps_if (PW.pt (pw_or (pt_not (pt_val (pe_call (ok_is_measure T) (hr.mono (by decide)) (by rfl) T.g_is_measure T.F_is_measure.kp T.b_is_measure .nil pass0 (pa_cons (pv 2) pa_nil)))) (pw_or1 (pt_not (pt_val (pe_call (ok_is_measure T) (hr.mono (by decide)) (by rfl) T.g_is_measure T.F_is_measure.kp T.b_is_measure .nil pass0 (pa_cons (pv 3) pa_nil))))))) (pss_one ps_never) pss_nil)
      (pss_cons (ps_if (PW.pt (pw_or (pt_not (pt_val (pe_call (ok_is_name T) (hr.mono (by decide)) (by rfl) T.g_is_name T.F_is_name.kp T.b_is_name .nil pass0 (pa_cons (pv 4) pa_nil)))) (pw_or1 (pt_not (pt_val (pe_call (ok_is_name T) (hr.mono (by decide)) (by rfl) T.g_is_name T.F_is_name.kp T.b_is_name .nil pass0 (pa_cons (pv 5) pa_nil))))))) (pss_one ps_never) pss_nil)
      (pss_cons (ps_if (pt_not (pt_val (pe_callB call_isi (by rfl) T.z_isinstance (by decide +kernel) (pa_cons (pv 6) (pa_cons (pe_bltn (v := .ty "bool") (by rfl) T.z_bool (by decide +kernel) rfl) pa_nil))))) (pss_one ps_never) pss_nil)
      (pss_cons (ps_fld (pv 0) (pv 1) rfl)
      (pss_cons (ps_fld (pv 0) (pv 2) rfl)
      (pss_cons (ps_fld (pv 0) (pv 3) rfl)
      (pss_cons (ps_fld (pv 0) (pv 4) rfl)
      (pss_cons (ps_fld (pv 0) (pv 5) rfl)
      (pss_one (ps_fld (pv 0) (pv 6) rfl))))))))))), ?_⟩
  refine ⟨_, rfl, _, rfl, .int _, _, rfl, ?_⟩
  rw [g1]
  refine iteF ⟨_, rfl, _, rfl, .int _, _, rfl, ?_⟩
  rw [g2]
  refine iteF ⟨_, rfl, _, rfl, .int _, _, rfl, ?_⟩
  rw [g3]
  refine iteF ⟨_, rfl, _, rfl, .str _, (fun z hz => by injection hz with hz; rw [← hz]; exact short_name g4), fun H1 s1 => ⟨_, rfl, ?_⟩⟩
  rw [g4]
  refine iteF ⟨_, rfl, _, rfl, .str _, (fun z hz => by injection hz with hz; rw [← hz]; exact short_name g5), fun H2 s2 => ⟨_, rfl, ?_⟩⟩
  rw [g5]
  refine iteF ⟨_, rfl, _, _, _, _, _, rfl, .ty _, .base (.bl _), kit_ty (r := true) (by decide +kernel), _, rfl, ?_⟩
  refine iteF ?_
  have h2 := s2 _ _ (s1 _ _ hp)
  refine ⟨_, rfl, _, rfl, p, _, dx, _, rfl, h2, T.cl_Bead, T.n_Bead_number, by decide, ?_⟩
  refine ⟨_, rfl, _, rfl, p, _, dx, _, rfl, upd_same, T.cl_Bead, T.n_Bead_across, Nat.lt_of_le_of_lt (few few0) (by decide), ?_⟩
  refine ⟨_, rfl, _, rfl, p, _, dx, _, rfl, upd_same, T.cl_Bead, T.n_Bead_weight, Nat.lt_of_le_of_lt (few (few few0)) (by decide), ?_⟩
  refine ⟨_, rfl, _, rfl, p, _, dx, _, rfl, upd_same, T.cl_Bead, T.n_Bead_shade, Nat.lt_of_le_of_lt (few (few (few few0))) (by decide), ?_⟩
  refine ⟨_, rfl, _, rfl, p, _, dx, _, rfl, upd_same, T.cl_Bead, T.n_Bead_form, Nat.lt_of_le_of_lt (few (few (few (few few0)))) (by decide), ?_⟩
  refine ⟨_, rfl, _, rfl, p, _, dx, _, rfl, upd_same, T.cl_Bead, T.n_Bead_drilled, Nat.lt_of_le_of_lt (few (few (few (few (few few0))))) (by decide), ?_⟩
  refine q _ ⟨dx, upd_same⟩ fun b o e hb => ?_
  rw [upd_ne hb, upd_ne hb, upd_ne hb, upd_ne hb, upd_ne hb, upd_ne hb]
  exact s2 _ _ (s1 _ _ e)
def rowVals (r : Rw) : List V := [.int r.num, .int r.ac, .int r.we, .str r.sh, .str r.fo, .bl r.dr]
def spRow (C : Addr) : Sp := fun vs H Q _ => ∃ (p : Addr) (r : Rw), vs = [.ref p] ∧ BeadAt C H p r ∧ ∀ t, H t = none → Q (.ref t) (upd H t (.tup (rowVals r)))
theorem ok_Bead_row (T : Tx K mg) : FnOk P w K mg base CX0 1 T.A_Bead_row T.fd_Bead_row ["self"] (spRow T.C_Bead) := by
  refine T.F_Bead_row.ok sc_Bead_row (fun vs H Q E h => ?_) (fun cdv A outer s H vs Q E hr h => ?_)
  · obtain ⟨p, r, rfl, ⟨dx, hp⟩, q⟩ := h
    rfl
  obtain ⟨p, r, rfl, ⟨dx, hp⟩, q⟩ := h
  refine ⟨_, (pss_one (ps_ret (pe_tup (pa_cons (pe_fld (pv 0) rfl) (pa_cons (pe_fld (pv 0) rfl) (pa_cons (pe_fld (pv 0) rfl) (pa_cons (pe_fld (pv 0) rfl) (pa_cons (pe_fld (pv 0) rfl) (pa_cons (pe_fld (pv 0) rfl) pa_nil))))))))), ?_⟩
  refine ⟨_, rfl, p, _, dx, _, _, rfl, hp, T.cl_Bead, T.n_Bead_number, bf_number r, ?_⟩
  refine ⟨_, rfl, p, _, dx, _, _, rfl, hp, T.cl_Bead, T.n_Bead_across, bf_across r, ?_⟩
  refine ⟨_, rfl, p, _, dx, _, _, rfl, hp, T.cl_Bead, T.n_Bead_weight, bf_weight r, ?_⟩
  refine ⟨_, rfl, p, _, dx, _, _, rfl, hp, T.cl_Bead, T.n_Bead_shade, bf_shade r, ?_⟩
  refine ⟨_, rfl, p, _, dx, _, _, rfl, hp, T.cl_Bead, T.n_Bead_form, bf_form r, ?_⟩
  refine ⟨_, rfl, p, _, dx, _, _, rfl, hp, T.cl_Bead, T.n_Bead_drilled, bf_drilled r, ?_⟩
  exact ⟨(by show 6 ≤ sizeLine; decide), fun t ht => q t ht⟩
def spRule (C : Addr) : Sp := fun vs H Q _ => ∃ (p dx : Addr) (u : Rl), vs = [.ref p, .int u.lo, .int u.hi, .int u.far, .bl u.shd] ∧ H p = some (.ins C dx []) ∧ GoodRl u ∧
  ∀ H' : Hp, RuleAt C H' p u → (∀ b o, H b = some o → b ≠ p → H' b = some o) → Q .non H'
theorem ok_Rule_init (T : Tx K mg) : FnOk P w K mg base CX0 3 T.A_Rule_init T.fd_Rule_init ["self", "least", "most", "match", "shades"] (spRule T.C_Rule) := by
  refine okD T.F_Rule_init sc_Rule_init (fun vs H Q E h => ?_) (fun cdv A outer s H vs Q E hr h => ?_)
  · obtain ⟨p, dx, u, rfl, hp, ⟨g1, g2, g3⟩, q⟩ := h
    rfl
  obtain ⟨p, dx, u, rfl, hp, ⟨g1, g2, g3⟩, q⟩ := h
  refine ⟨_, (pss_cons (ps_if (PW.pt (pw_or (pt_not (pt_val (pe_call (ok_is_from_nought T) (hr.mono (by decide)) (by rfl) T.g_is_from_nought T.F_is_from_nought.kp T.b_is_from_nought .nil pass0 (pa_cons (pv 1) pa_nil)))) (pw_or (pt_not (pt_val (pe_call (ok_is_from_nought T) (hr.mono (by decide)) (by rfl) T.g_is_from_nought T.F_is_from_nought.kp T.b_is_from_nought .nil pass0 (pa_cons (pv 2) pa_nil)))) (pw_or1 (pt_not (pt_val (pe_call (ok_is_from_nought T) (hr.mono (by decide)) (by rfl) T.g_is_from_nought T.F_is_from_nought.kp T.b_is_from_nought .nil pass0 (pa_cons (pv 3) pa_nil)))))))) (pss_one ps_never) pss_nil)
      (pss_cons (ps_if (pt_cmpR op_lt (pv 2) (pv 1) (nomark _)) (pss_one ps_never) pss_nil)
      (pss_cons (ps_if (pt_not (pt_val (pe_callB call_isi (by rfl) T.z_isinstance (by decide +kernel) (pa_cons (pv 4) (pa_cons (pe_bltn (v := .ty "bool") (by rfl) T.z_bool (by decide +kernel) rfl) pa_nil))))) (pss_one ps_never) pss_nil)
      (pss_cons (ps_fld (pv 0) (pv 1) rfl)
      (pss_cons (ps_fld (pv 0) (pv 2) rfl)
      (pss_cons (ps_fld (pv 0) (pv 3) rfl)
      (pss_one (ps_fld (pv 0) (pv 4) rfl)))))))), ?_⟩
  refine ⟨_, rfl, _, rfl, .int _, _, rfl, ?_⟩
  show if (!decide (0 ≤ u.lo)) = true then _ else _
  rw [decide_eq_true g1]
  refine iteF ⟨_, rfl, _, rfl, .int _, _, rfl, ?_⟩
  show if (!decide (0 ≤ u.hi)) = true then _ else _
  rw [decide_eq_true (show 0 ≤ u.hi by omega)]
  refine iteF ⟨_, rfl, _, rfl, .int _, _, rfl, ?_⟩
  show if (!decide (0 ≤ u.far)) = true then _ else _
  rw [decide_eq_true g3]
  refine iteF ⟨_, rfl, _, rfl, _, _, rfl, rfl, _, rfl, ?_⟩
  rw [decide_eq_false (show ¬ u.hi < u.lo by omega)]
  refine iteF ⟨_, rfl, _, _, _, _, _, rfl, .ty _, .base (.bl _), kit_ty (r := true) (by decide +kernel), _, rfl, ?_⟩
  refine iteF ?_
  refine ⟨_, rfl, _, rfl, p, _, dx, _, rfl, hp, T.cl_Rule, T.n_Rule_least, by decide, ?_⟩
  refine ⟨_, rfl, _, rfl, p, _, dx, _, rfl, upd_same, T.cl_Rule, T.n_Rule_most, Nat.lt_of_le_of_lt (few few0) (by decide), ?_⟩
  refine ⟨_, rfl, _, rfl, p, _, dx, _, rfl, upd_same, T.cl_Rule, T.n_Rule_match, Nat.lt_of_le_of_lt (few (few few0)) (by decide), ?_⟩
  refine ⟨_, rfl, _, rfl, p, _, dx, _, rfl, upd_same, T.cl_Rule, T.n_Rule_shades, Nat.lt_of_le_of_lt (few (few (few few0))) (by decide), ?_⟩
  refine q _ ⟨dx, upd_same⟩ fun b o e hb => ?_
  rw [upd_ne hb, upd_ne hb, upd_ne hb, upd_ne hb]
  exact e
end
end KB
namespace KB
open PySem PySem.Spec PyProof.Rows L2 KA

section
variable {P : Program} {w : World} {K : PySem.W.Frag} {mg : Str → Option Value} {base : Heap}
def spTwo (C : Addr) (f : Int × Int → Int × Int → Int × Int) : Sp := fun vs H Q _ => ∃ (p q : Addr) (x y : Int × Int) (k m : Nat), vs = [.ref p, .ref q] ∧ ShAt C H p x ∧ ShAt C H q y ∧ Ok k x ∧ Ok m y ∧ k ≤ 2000 ∧ m ≤ 2000 ∧
  ∀ (H' : Hp) (r : Addr), Same H H' → ShAt C H' r (f x y) → Q (.ref r) H'
def fPlus (x y : Int × Int) : Int × Int := shr (x.1 * y.2 + y.1 * x.2) (x.2 * y.2)
theorem made_same {H H1 : Hp} {x dx C : Addr} (nx : H x = none) (ndx : H dx = none) (k : ∀ b o, (upd (upd H dx (.own x)) x (.ins C dx [])) b = some o → b ≠ x → H1 b = some o) : Same H H1 := fun b o e => k b o (by rw [upd_ne (ne_of_none e nx), upd_ne (ne_of_none e ndx)]; exact e) (ne_of_none e nx)
theorem ok_Share_plus (T : Tx K mg) : FnOk P w K mg base CX0 5 T.A_Share_plus T.fd_Share_plus ["self", "other"] (spTwo T.C_Share fPlus) := by
  refine T.F_Share_plus.ok sc_Share_plus (fun vs H Q E h => ?_) (fun cdv A outer s H vs Q E hr h => ?_)
  · obtain ⟨p, q', x, y, k, m, rfl, ⟨dx, hp⟩, ⟨dy, hq⟩, ⟨x0, x1, x2⟩, ⟨y0, y1, y2⟩, hk, hm, q⟩ := h
    rfl
  obtain ⟨p, q', x, y, k, m, rfl, ⟨dx, hp⟩, ⟨dy, hq⟩, ⟨x0, x1, x2⟩, ⟨y0, y1, y2⟩, hk, hm, q⟩ := h
  refine ⟨_, (pss_one (ps_ret (pe_make T.mk_Share (ok_Share_init T) (hr.mono (by decide)) (by rfl) T.g_Share T.b_Share_init .nil passF (pa_cons (pe_op op_add (pe_op op_mulW (pe_fld (pv 0) rfl) (pe_fld (pv 1) rfl)) (pe_op op_mulW (pe_fld (pv 1) rfl) (pe_fld (pv 0) rfl))) (pa_cons (pe_op op_mulW (pe_fld (pv 0) rfl) (pe_fld (pv 1) rfl)) pa_nil))))), ?_⟩
  refine ⟨_, rfl, p, _, dx, _, _, rfl, hp, T.cl_Share, T.n_Share_num, sf_num x, _, rfl, q', _, dy, _, _, rfl, hq, T.cl_Share, T.n_Share_over, sf_over y, _, _, rfl, rfl, x1.mw y2 (by omega), ?_⟩
  refine ⟨_, rfl, q', _, dy, _, _, rfl, hq, T.cl_Share, T.n_Share_num, sf_num y, _, rfl, p, _, dx, _, _, rfl, hp, T.cl_Share, T.n_Share_over, sf_over x, _, _, rfl, rfl, y1.mw x2 (by omega), _, _, rfl, rfl, ?_⟩
  refine ⟨_, rfl, p, _, dx, _, _, rfl, hp, T.cl_Share, T.n_Share_over, sf_over x, _, rfl, q', _, dy, _, _, rfl, hq, T.cl_Share, T.n_Share_over, sf_over y, _, _, rfl, rfl, x2.mw y2 (by omega), ?_⟩
  intro r dr nr ndr ner
  have hz : x.2 * y.2 ≠ 0 := Int.mul_ne_zero (by omega) (by omega)
  exact ⟨r, dr, _, _, k + m, rfl, upd_same, x2.mul y2, by omega, fun _ H1 hr k1 => ⟨rfl, q H1 r (made_same nr ndr k1) hr⟩, fun z => absurd z hz⟩
def fMinus (x y : Int × Int) : Int × Int := shr (x.1 * y.2 - y.1 * x.2) (x.2 * y.2)
theorem ok_Share_minus (T : Tx K mg) : FnOk P w K mg base CX0 5 T.A_Share_minus T.fd_Share_minus ["self", "other"] (spTwo T.C_Share fMinus) := by
  refine T.F_Share_minus.ok sc_Share_minus (fun vs H Q E h => ?_) (fun cdv A outer s H vs Q E hr h => ?_)
  · obtain ⟨p, q', x, y, k, m, rfl, ⟨dx, hp⟩, ⟨dy, hq⟩, ⟨x0, x1, x2⟩, ⟨y0, y1, y2⟩, hk, hm, q⟩ := h
    rfl
  obtain ⟨p, q', x, y, k, m, rfl, ⟨dx, hp⟩, ⟨dy, hq⟩, ⟨x0, x1, x2⟩, ⟨y0, y1, y2⟩, hk, hm, q⟩ := h
  refine ⟨_, (pss_one (ps_ret (pe_make T.mk_Share (ok_Share_init T) (hr.mono (by decide)) (by rfl) T.g_Share T.b_Share_init .nil passF (pa_cons (pe_op op_sub (pe_op op_mulW (pe_fld (pv 0) rfl) (pe_fld (pv 1) rfl)) (pe_op op_mulW (pe_fld (pv 1) rfl) (pe_fld (pv 0) rfl))) (pa_cons (pe_op op_mulW (pe_fld (pv 0) rfl) (pe_fld (pv 1) rfl)) pa_nil))))), ?_⟩
  refine ⟨_, rfl, p, _, dx, _, _, rfl, hp, T.cl_Share, T.n_Share_num, sf_num x, _, rfl, q', _, dy, _, _, rfl, hq, T.cl_Share, T.n_Share_over, sf_over y, _, _, rfl, rfl, x1.mw y2 (by omega), ?_⟩
  refine ⟨_, rfl, q', _, dy, _, _, rfl, hq, T.cl_Share, T.n_Share_num, sf_num y, _, rfl, p, _, dx, _, _, rfl, hp, T.cl_Share, T.n_Share_over, sf_over x, _, _, rfl, rfl, y1.mw x2 (by omega), _, _, rfl, rfl, ?_⟩
  refine ⟨_, rfl, p, _, dx, _, _, rfl, hp, T.cl_Share, T.n_Share_over, sf_over x, _, rfl, q', _, dy, _, _, rfl, hq, T.cl_Share, T.n_Share_over, sf_over y, _, _, rfl, rfl, x2.mw y2 (by omega), ?_⟩
  intro r dr nr ndr ner
  have hz : x.2 * y.2 ≠ 0 := Int.mul_ne_zero (by omega) (by omega)
  exact ⟨r, dr, _, _, k + m, rfl, upd_same, x2.mul y2, by omega, fun _ H1 hr k1 => ⟨rfl, q H1 r (made_same nr ndr k1) hr⟩, fun z => absurd z hz⟩
/-- a list of shares -/
structure ShL (C : Addr) (H : Hp) (vs : List V) (ls : List (Int × Int)) : Prop where
  len : vs.length = ls.length
  at_ : ∀ (i : Nat) (v : V), vs[i]? = some v → ∃ p l, v = .ref p ∧ ls[i]? = some l ∧ ShAt C H p l
theorem ShL.same {C : Addr} {H H' : Hp} {vs : List V} {ls : List (Int × Int)} (s : NL H H') (h : ShL C H vs ls) : ShL C H' vs ls :=
  ⟨h.len, fun i v hv => by
    obtain ⟨p, l, e1, e2, e3⟩ := h.at_ i v hv
    exact ⟨p, l, e1, e2, e3.same s⟩⟩
theorem plus_sz {k : Nat} {x y : Int × Int} (hx : Ok k x) (hy : Ok 110 y) (hk : 110 ≤ k) : Ok (k + 111) (fPlus x y) := by
  obtain ⟨x0, x1, x2⟩ := hx
  obtain ⟨y0, y1, y2⟩ := hy
  have d0 : x.2 * y.2 ≠ 0 := Int.mul_ne_zero (by omega) (by omega)
  have a := x1.mul y2
  have b := y1.mul x2
  have c := Sz.add a (b.mono (by omega : 110 + k ≤ k + 110))
  have d := (x2.mul y2).mono (by omega : k + 110 ≤ k + 110 + 1)
  have z := shr_sz d0 c d
  exact ⟨shr_pos d0, z.1, z.2⟩
def sumL (ls : List (Int × Int)) : Int × Int := ls.foldl fPlus (0, 1)
theorem shr01 : shr 0 1 = (0, 1) := by decide
theorem sum_sz : ∀ {ls : List (Int × Int)} {t : Int × Int} {k : Nat}, (∀ l ∈ ls, Ok 110 l) → Ok k t → 110 ≤ k → Ok (k + 111 * ls.length) (ls.foldl fPlus t)
  | [], t, k, _, h, _ => by simpa using h
  | l :: ls, t, k, h, ht, hk => by
    have z := sum_sz (fun m hm => h m (List.mem_cons_of_mem _ hm)) (plus_sz ht (h l (List.mem_cons_self ..)) hk) (by omega)
    rw [List.foldl_cons, List.length_cons]
    have e : k + 111 + 111 * ls.length = k + 111 * (ls.length + 1) := by omega
    rw [e] at z
    exact z
theorem ok01 : Ok 110 (0, 1) := ⟨by decide, by show (0 : Int).natAbs < 2 ^ 110; decide, by show (1 : Int).natAbs < 2 ^ 110; decide⟩
theorem sum_ok {ls : List (Int × Int)} (h : ∀ l ∈ ls, Ok 110 l) (hl : ls.length ≤ 17) : Ok 2000 (sumL ls) := by
  have z := sum_sz h ok01 (Nat.le_refl _)
  exact ⟨z.1, z.2.1.mono (by omega), z.2.2.mono (by omega)⟩
def spBelow (C : Addr) : Sp := fun vs H Q _ => ∃ (p q : Addr) (x y : Int × Int) (k m : Nat), vs = [.ref p, .ref q] ∧ ShAt C H p x ∧ ShAt C H q y ∧ Ok k x ∧ Ok m y ∧ k ≤ 2000 ∧ m ≤ 2000 ∧ Q (.bl (decide (x.1 * y.2 < y.1 * x.2))) H
theorem ok_Share_is_below (T : Tx K mg) : FnOk P w K mg base CX0 1 T.A_Share_is_below T.fd_Share_is_below ["self", "other"] (spBelow T.C_Share) := by
  refine T.F_Share_is_below.ok sc_Share_is_below (fun vs H Q E h => ?_) (fun cdv A outer s H vs Q E hr h => ?_)
  · obtain ⟨p, q', x, y, k, m, rfl, ⟨dx, hp⟩, ⟨dy, hq⟩, ⟨x0, x1, x2⟩, ⟨y0, y1, y2⟩, hk, hm, q⟩ := h
    rfl
  obtain ⟨p, q', x, y, k, m, rfl, ⟨dx, hp⟩, ⟨dy, hq⟩, ⟨x0, x1, x2⟩, ⟨y0, y1, y2⟩, hk, hm, q⟩ := h
  refine ⟨_, (pss_one (ps_ret (pe_cmpR op_lt (pe_op op_mulW (pe_fld (pv 0) rfl) (pe_fld (pv 1) rfl)) (pe_op op_mulW (pe_fld (pv 1) rfl) (pe_fld (pv 0) rfl)) (nomark _)))), ?_⟩
  refine ⟨_, rfl, p, _, dx, _, _, rfl, hp, T.cl_Share, T.n_Share_num, sf_num x, _, rfl, q', _, dy, _, _, rfl, hq, T.cl_Share, T.n_Share_over, sf_over y, _, _, rfl, rfl, x1.mw y2 (by omega), ?_⟩
  exact ⟨_, rfl, q', _, dy, _, _, rfl, hq, T.cl_Share, T.n_Share_num, sf_num y, _, rfl, p, _, dx, _, _, rfl, hp, T.cl_Share, T.n_Share_over, sf_over x, _, _, rfl, rfl, y1.mw x2 (by omega), _, _, rfl, rfl, q⟩
end
end KB
namespace KB
open PySem PySem.Spec PyProof.Rows L2 KA

section
variable {P : Program} {w : World} {K : PySem.W.Frag} {mg : Str → Option Value} {base : Heap}
theorem whl_of {i lo hi : Int} (h : whl (.int i) lo hi = true) : lo ≤ i ∧ i ≤ hi := by
  have e : whl (.int i) lo hi = (decide (lo ≤ i) && decide (i ≤ hi)) := rfl
  rw [e] at h
  simpa using h
def rateO (kvs : List (List Str × Int)) (r : Rw) : Option V := valV (dictV kvs) [Sum.inr r.sh, Sum.inr r.fo]
def GoodT (kvs : List (List Str × Int)) : Prop := ∀ p ∈ kvs, 0 ≤ p.2 ∧ p.2 < 147573952589676412928
theorem rate_cases {kvs : List (List Str × Int)} (h : GoodT kvs) (r : Rw) : rateO kvs r = none ∨ ∃ x : Int, rateO kvs r = some (.int x) ∧ 0 ≤ x ∧ x < 147573952589676412928 := by
  unfold rateO valV dictV
  rw [List.find?_map]
  cases e : kvs.find? ((fun kv : List Key × V => decide (kv.1 = [Sum.inr r.sh, Sum.inr r.fo])) ∘ fun p : List Str × Int => (p.1.map Sum.inr, V.int p.2)) with
  | none => exact .inl rfl
  | some p => exact .inr ⟨p.2, rfl, h p (List.mem_of_find?_eq_some e)⟩
def ovr (g o : Int) (r : Rw) : Int := if r.dr = true then g * o else g
inductive Due where
  | none (sh fo : Str)
  | nought (n : Int)
  | told (x : Int × Int)
def dueOf (kvs : List (List Str × Int)) (g o : Int) (r : Rw) : Due := match rateO kvs r with
  | some (.int x) => if ovr g o r = 0 then .nought (x * r.we * r.we) else .told (shr (x * r.we * r.we) (ovr g o r))
  | _ => .none r.sh r.fo
def ErrAt (C1 C2 : Addr) : Due → Value → Option Addr → Hp → Prop
  | .none sh fo => fun cls d H => cls = .ref C1 ∧ ∃ dd t, d = some dd ∧ H dd = some (.xd [("name", .ref t), ("kind", .str "rate")]) ∧ H t = some (.tup [.str sh, .str fo])
  | .nought n => fun cls d H => cls = .ref C2 ∧ ∃ dd, d = some dd ∧ H dd = some (.xd [("num", .int n)])
  | .told _ => fun _ _ _ => False
def Sml (x : Int) : Prop := -1000000 ≤ x ∧ x ≤ 1000000
theorem sml_sz {x : Int} (h : Sml x) : Sz 20 x := by
  show x.natAbs < 2 ^ 20
  have e : (2 : Nat) ^ 20 = 1048576 := by decide
  rw [e]
  have := h.1
  have := h.2
  omega
theorem rate_sz {x : Int} (h0 : 0 ≤ x) (h1 : x < 147573952589676412928) : Sz 67 x := by
  show x.natAbs < 2 ^ 67
  have e : (2 : Nat) ^ 67 = 147573952589676412928 := by decide
  rw [e]
  omega
theorem ovr_sz {g o : Int} {r : Rw} (hg : Sml g) (ho : Sml o) : Sz 40 (ovr g o r) := by
  unfold ovr
  split
  · exact (sml_sz hg).mul (sml_sz ho)
  · exact (sml_sz hg).mono (by decide)
theorem due_ok {kvs : List (List Str × Int)} {g o : Int} {r : Rw} {x : Int × Int} (hT : GoodT kvs) (hG : GoodRw r) (hg : Sml g) (ho : Sml o) (h : dueOf kvs g o r = .told x) : Ok 110 x := by
  have wz : Sz 20 r.we := by
    have := whl_of hG.2.2.1
    exact sml_sz ⟨by omega, by omega⟩
  unfold dueOf at h
  rcases rate_cases hT r with e | ⟨y, e, y0, y1⟩
  · rw [e] at h
    cases h
  · rw [e] at h
    by_cases z : ovr g o r = 0
    · simp only [if_pos z] at h
      cases h
    · simp only [if_neg z] at h
      injection h with h
      rw [← h]
      have sz := shr_sz (k := 110) z ((((rate_sz y0 y1).mul wz).mul wz).mono (by decide)) ((ovr_sz hg ho).mono (by decide))
      exact ⟨shr_pos z, sz.1, sz.2⟩
theorem mk2_same {H : Hp} {x dd : Addr} {o0 o1 o2 o3 o4 : HO} (hx : H x = none) (hd : H dd = none) : Same H (upd (del (upd (upd (upd (upd H x o0) dd o1) x o2) dd o3) x) dd o4) := fun b o z => by
  have n1 := ne_of_none z hx
  have n2 := ne_of_none z hd
  rw [upd_ne n2]
  unfold del
  rw [if_neg n1, upd_ne n2, upd_ne n1, upd_ne n2, upd_ne n1]
  exact z
def spWorth (CB CS C1 C2 : Addr) : Sp := fun vs H Q E => ∃ (b tf : Addr) (g o : Int) (r : Rw) (kvs : List (List Str × Int)), vs = [.ref b, .ref tf, .int g, .int o] ∧ BeadAt CB H b r ∧ GoodRw r ∧ H tf = some (.dT (dictV kvs)) ∧ GoodT kvs ∧ Sml g ∧ Sml o ∧
  (∀ x, dueOf kvs g o r = .told x → ∀ (H' : Hp) (s : Addr), Same H H' → ShAt CS H' s x → Q (.ref s) H') ∧ ∀ cls d H', Same H H' → ErrAt C1 C2 (dueOf kvs g o r) cls d H' → E cls d H'
theorem ok_worth (T : Tx K mg) : FnOk P w K mg base (L2.CX P w) 5 T.A_worth T.fd_worth ["bead", "rates", "base", "drilled"] (spWorth T.C_Bead T.C_Share T.C_NoSuch T.C_NoShare) := by
  refine T.F_worth.ok (CX := L2.CX P w) sc_worth (fun vs H Q E h => ?_) (fun cdv A outer s H vs Q E hr h => ?_)
  · obtain ⟨b, tf, g, o, r, kvs, rfl, ⟨dx, hb⟩, hG, ht, hT, hg, ho, q, qe⟩ := h
    rfl
  obtain ⟨b, tf, g, o, r, kvs, rfl, ⟨dx, hb⟩, hG, ht, hT, hg, ho, q, qe⟩ := h
  refine ⟨_, (pss_cons (ps_set (i := 4) sc_worth.nd rfl (Or.inl rfl) (pe_tup (pa_cons (pe_fld (pv 0) rfl) (pa_cons (pe_fld (pv 0) rfl) pa_nil))))
      (pss_cons (ps_if (pt_cmp (pc_dnotin (Nat.lt_of_le_of_lt (Nat.add_le_add_left (by decide) _) hr.units) (pv 4) (pv 1))) (pss_one (ps_raise rfl (takes_of rfl rfl rfl rfl) (pmk_gex PySem.F.excBase_LookupError T.ox_NoSuch T.in_NoSuch T.ti_NoSuch (ok_NoSuch_init T) (hr.mono (by decide)) T.b_NoSuch_init .nil pass0 (by rfl) T.g_NoSuch (pa_cons pe_str (pa_cons (pv 4) pa_nil))))) pss_nil)
      (pss_cons (ps_set (i := 5) sc_worth.nd rfl (Or.inl rfl) (pe_op op_mulW (pe_op op_mulW (pe_dget (Nat.lt_of_le_of_lt (Nat.add_le_add_left (by decide) _) hr.units) (pv 1) (pv 4) (fun _ _ => rfl)) (pe_fld (pv 0) rfl)) (pe_fld (pv 0) rfl)))
      (pss_cons (ps_if (pt_val (pe_fld (pv 0) rfl)) (pss_one (ps_ret (pe_make T.mk_Share (ok_Share_init T) (hr.mono (by decide)) (by rfl) T.g_Share T.b_Share_init .nil (passes_call (takes_of rfl rfl rfl rfl) (fun _ _ _ _ h => h)) (pa_cons (pv 5) (pa_cons (pe_op op_mulW (pv 2) (pv 3)) pa_nil))))) pss_nil)
      (pss_one (ps_ret (pe_make T.mk_Share (ok_Share_init T) (hr.mono (by decide)) (by rfl) T.g_Share T.b_Share_init .nil (passes_call (takes_of rfl rfl rfl rfl) (fun _ _ _ _ h => h)) (pa_cons (pv 5) (pa_cons (pv 2) pa_nil))))))))), ?_⟩
  refine ⟨_, rfl, b, _, dx, _, _, rfl, hb, T.cl_Bead, T.n_Bead_shade, bf_shade r, _, rfl, b, _, dx, _, _, rfl, hb, T.cl_Bead, T.n_Bead_form, bf_form r, (by show 2 ≤ sizeLine; decide), fun tp htp => ?_⟩
  have s1 := same_upd htp (o := .tup [.str r.sh, .str r.fo])
  have gd : DGet (upd H tp (.tup [.str r.sh, .str r.fo])) tf (.ref tp) (rateO kvs r) := DGet.t (k := [Sum.inr r.sh, Sum.inr r.fo]) (s1 _ _ ht) upd_same
  have hb1 := s1 _ _ hb
  have wz : Sz 20 r.we := by
    have := whl_of hG.2.2.1
    exact sml_sz ⟨by omega, by omega⟩
  rcases rate_cases hT r with e | ⟨x, e, x0, x1⟩
  · have ed : dueOf kvs g o r = .none r.sh r.fo := by
      unfold dueOf
      rw [e]
    rw [e] at gd
    rw [ed] at qe
    refine ⟨_, rfl, _, rfl, tf, _, rfl, gd, _, rfl, iteT ?_⟩
    refine ⟨_, rfl, (by show 2 ≤ 1000; decide), fun x hx => ⟨x, T.C_NoSuch, .str "rate", .ref tp, rfl, T.ox_NoSuch, T.nf_NoSuch_kind, T.nf_NoSuch_name, upd_same, fun dd hd hne => ⟨rfl, dd, [("name", .ref tp), ("kind", .str "rate")], ?_, upd_same, ?_, ?_⟩⟩⟩
    · rw [upd_ne hne.symm]
      exact upd_same
    · rw [upd_ne hne] at hd
      exact hd
    · rw [upd_ne hne] at hd
      exact qe _ _ _ (s1.trans (mk2_same hx hd)) ⟨rfl, dd, tp, rfl, upd_same, mk2_same hx hd _ _ upd_same⟩
  · rw [e] at gd
    refine ⟨_, rfl, _, rfl, tf, _, rfl, gd, _, rfl, iteF ?_⟩
    refine ⟨_, rfl, _, rfl, tf, _, rfl, gd, _, rfl, b, _, dx, _, _, rfl, hb1, T.cl_Bead, T.n_Bead_weight, bf_weight r, _, _, rfl, rfl, (rate_sz x0 x1).mw wz (by omega), _, rfl, b, _, dx, _, _, rfl, hb1, T.cl_Bead, T.n_Bead_weight, bf_weight r, _, _, rfl, rfl, ((rate_sz x0 x1).mul wz).mw wz (by omega), ?_⟩
    refine ⟨_, rfl, b, _, dx, _, _, rfl, hb1, T.cl_Bead, T.n_Bead_drilled, bf_drilled r, _, rfl, ?_⟩
    have fin : ∀ (od : Int), ovr g o r = od → ∀ (p dp : Addr), (upd H tp (.tup [.str r.sh, .str r.fo])) p = none → (upd H tp (.tup [.str r.sh, .str r.fo])) dp = none → dp ≠ p → spShareX T.C_Share T.C_NoShare [.ref p, .int (x * r.we * r.we), .int od] (upd (upd (upd H tp (.tup [.str r.sh, .str r.fo])) dp (.own p)) p (.ins T.C_Share dp [])) (fun v H' => v = .non ∧ Q (.ref p) H') E := fun od hod p dp hp hdp hne => by
      refine ⟨p, dp, _, _, 40, rfl, upd_same, by rw [← hod]; exact ovr_sz hg ho, by decide, fun hz H1 h1 k1 => ⟨rfl, ?_⟩, fun hz H1 dd s2 h1 => ?_⟩
      · refine q _ ?_ H1 p (s1.trans (made_same hp hdp k1)) h1
        unfold dueOf
        rw [e]
        simp only [hod, if_neg hz]
      · refine qe _ _ _ (s1.trans ((made_same hp hdp fun b o z _ => z).trans s2)) ?_
        have ed : dueOf kvs g o r = .nought (x * r.we * r.we) := by
          unfold dueOf
          rw [e]
          simp only [hod, if_pos hz]
        rw [ed]
        exact ⟨rfl, dd, rfl, h1⟩
    cases hdr : r.dr with
    | true =>
      refine iteT ⟨_, rfl, _, rfl, _, rfl, _, _, rfl, rfl, (sml_sz hg).mw (sml_sz ho) (by omega), ?_⟩
      exact fin _ (by unfold ovr; rw [hdr]; rfl)
    | false =>
      refine iteF ⟨_, rfl, _, rfl, ?_⟩
      exact fin _ (by unfold ovr; rw [hdr]; rfl)
end
end KB
namespace KB
open PySem PySem.Spec PyProof.Rows L2 KA

section
variable {P : Program} {w : World} {K : PySem.W.Frag} {mg : Str → Option Value} {base : Heap}
/-- the beads of a list; the rows of a list -/
def BdL (C : Addr) (H : Hp) (xs : List V) (rs : List Rw) : Prop := xs.length = rs.length ∧ ∀ (i : Nat) r, rs[i]? = some r → ∃ p, xs[i]? = some (.ref p) ∧ BeadAt C H p r
def RwL (H : Hp) (xs : List V) (rs : List Rw) : Prop := xs.length = rs.length ∧ ∀ (i : Nat) r, rs[i]? = some r → ∃ t, xs[i]? = some (.ref t) ∧ H t = some (.tup (rowVals r))
theorem BeadAt.nl {C : Addr} {H H' : Hp} {p : Addr} {r : Rw} (h : BeadAt C H p r) (s : NL H H') : BeadAt C H' p r := by
  obtain ⟨dx, h⟩ := h
  exact ⟨dx, s _ _ (fun xs z => by cases z) h⟩
theorem BdL.nl {C : Addr} {H H' : Hp} {xs : List V} {rs : List Rw} (h : BdL C H xs rs) (s : NL H H') : BdL C H' xs rs := ⟨h.1, fun i r hr => by
  obtain ⟨p, h1, h2⟩ := h.2 i r hr
  exact ⟨p, h1, h2.nl s⟩⟩
theorem RwL.nl {H H' : Hp} {xs : List V} {rs : List Rw} (h : RwL H xs rs) (s : NL H H') : RwL H' xs rs := ⟨h.1, fun i r hr => by
  obtain ⟨p, h1, h2⟩ := h.2 i r hr
  exact ⟨p, h1, s _ _ (fun xs z => by cases z) h2⟩⟩
theorem BdL.snoc {C : Addr} {H : Hp} {xs : List V} {rs : List Rw} {p : Addr} {r : Rw} (h : BdL C H xs rs) (hp : BeadAt C H p r) : BdL C H (xs ++ [.ref p]) (rs ++ [r]) := by
  refine ⟨by rw [List.length_append, List.length_append, h.1]; rfl, fun i z hz => ?_⟩
  by_cases hi : i < rs.length
  · rw [List.getElem?_append_left hi] at hz
    obtain ⟨p', h1, h2⟩ := h.2 i z hz
    exact ⟨p', by rw [List.getElem?_append_left (by rw [h.1]; exact hi)]; exact h1, h2⟩
  · rw [List.getElem?_append_right (by omega)] at hz
    have hlt := (List.getElem?_eq_some_iff.mp hz).1
    rw [List.length_singleton] at hlt
    have e : i = rs.length := by omega
    subst e
    rw [Nat.sub_self] at hz
    cases hz
    exact ⟨p, by rw [← h.1, List.getElem?_append_right (Nat.le_refl _), Nat.sub_self]; rfl, hp⟩
theorem RwL.snoc {H : Hp} {xs : List V} {rs : List Rw} {p : Addr} {r : Rw} (h : RwL H xs rs) (hp : H p = some (.tup (rowVals r))) : RwL H (xs ++ [.ref p]) (rs ++ [r]) := by
  refine ⟨by rw [List.length_append, List.length_append, h.1]; rfl, fun i z hz => ?_⟩
  by_cases hi : i < rs.length
  · rw [List.getElem?_append_left hi] at hz
    obtain ⟨p', h1, h2⟩ := h.2 i z hz
    exact ⟨p', by rw [List.getElem?_append_left (by rw [h.1]; exact hi)]; exact h1, h2⟩
  · rw [List.getElem?_append_right (by omega)] at hz
    have hlt := (List.getElem?_eq_some_iff.mp hz).1
    rw [List.length_singleton] at hlt
    have e : i = rs.length := by omega
    subst e
    rw [Nat.sub_self] at hz
    cases hz
    exact ⟨p, by rw [← h.1, List.getElem?_append_right (Nat.le_refl _), Nat.sub_self]; rfl, hp⟩
/-- a pair of numbers -/
def PrV (H : Hp) (v : V) (z : Int × Int) : Prop := ∃ t, v = .ref t ∧ H t = some (.tup [.int z.1, .int z.2])
theorem PrV.nl {H H' : Hp} {v : V} {z : Int × Int} (h : PrV H v z) (s : NL H H') : PrV H' v z := by
  obtain ⟨t, h1, h2⟩ := h
  exact ⟨t, h1, s _ _ (fun _ z => by cases z) h2⟩
def keyV (H : Hp) : V → Int × Int
  | .ref t => match H t with
    | some (.tup [.int a, .int b]) => (a, b)
    | _ => (0, 0)
  | _ => (0, 0)
theorem keyV_of {H : Hp} {v : V} {z : Int × Int} (h : PrV H v z) : keyV H v = z := by
  obtain ⟨t, rfl, h2⟩ := h
  simp only [keyV, h2]
theorem f2_map {H : Hp} : ∀ {ys : List V} {zs : List (Int × Int)}, FF (PrV H) ys zs → zs = ys.map (keyV H)
  | _, _, .nil => rfl
  | _, _, .cons h t => by rw [List.map_cons, keyV_of h, f2_map t]
theorem f2_self {H : Hp} : ∀ {ys : List V}, (∀ y ∈ ys, ∃ z, PrV H y z) → FF (PrV H) ys (ys.map (keyV H))
  | [], _ => .nil
  | y :: ys, h => by
    obtain ⟨z, hz⟩ := h y (List.mem_cons_self ..)
    refine .cons ?_ (f2_self fun x hx => h x (List.mem_cons_of_mem _ hx))
    rw [keyV_of hz]
    exact hz
theorem f2_mem {α β : Type} {R : α → β → Prop} : ∀ {xs : List α} {ys : List β}, FF R xs ys → ∀ x ∈ xs, ∃ y ∈ ys, R x y
  | _, _, .cons h t, x, hx => by
    rcases List.mem_cons.mp hx with rfl | hx
    · exact ⟨_, List.mem_cons_self .., h⟩
    · obtain ⟨y, h1, h2⟩ := f2_mem t x hx
      exact ⟨y, List.mem_cons_of_mem _ h1, h2⟩
/-- pairs in order -/
def Srt2 (zs : List (Int × Int)) : Prop := zs.Pairwise fun p q => SrtO.lexB q p = false
theorem srt2_eq {zs ws : List (Int × Int)} (h : zs.Perm ws) (a : Srt2 zs) (b : Srt2 ws) : zs = ws := by
  refine List.Perm.eq_of_pairwise (fun p q _ _ h1 h2 => ?_) a b h
  have h1 := SrtO.lexB_no.mp h1
  have h2 := SrtO.lexB_no.mp h2
  obtain ⟨a, b⟩ := p
  obtain ⟨c, d⟩ := q
  have h1 : ¬ (c < a ∨ (c = a ∧ d < b)) := h1
  have h2 : ¬ (a < c ∨ (a = c ∧ b < d)) := h2
  have e1 : a = c := by omega
  have e2 : b = d := by omega
  rw [e1, e2]
def look (r p : Rw) : Bool := decide (r.sh = p.sh) && (decide (r.fo = p.fo) && decide (r.dr = p.dr))
def apart (a b : Int) : Int := if a - b < 0 then -(a - b) else a - b
def spLook (C : Addr) : Sp := fun vs H Q _ => ∃ (p p' : Addr) (r r' : Rw), vs = [.ref p, .ref p'] ∧ BeadAt C H p r ∧ BeadAt C H p' r' ∧ Q (.bl (look r r')) H
theorem dec_str (a b : Str) : decide (V.str a = V.str b) = decide (a = b) := by
  rw [decide_eq_decide]
  exact ⟨fun e => by injection e, fun e => by rw [e]⟩
theorem dec_bl (a b : Bool) : decide (V.bl a = V.bl b) = decide (a = b) := by
  rw [decide_eq_decide]
  exact ⟨fun e => by injection e, fun e => by rw [e]⟩
theorem ok_same_look (T : Tx K mg) : FnOk P w K mg base CX0 1 T.A_same_look T.fd_same_look ["bead", "other"] (spLook T.C_Bead) := by
  refine T.F_same_look.ok sc_same_look (fun vs H Q E h => ?_) (fun cdv A outer s H vs Q E hr h => ?_)
  · obtain ⟨p, p', r, r', rfl, ⟨dx, hp⟩, ⟨dx', hp'⟩, q⟩ := h
    rfl
  obtain ⟨p, p', r, r', rfl, ⟨dx, hp⟩, ⟨dx', hp'⟩, q⟩ := h
  refine ⟨_, (pss_one (ps_ret (pe_and (pe_cmpR op_eq (pe_fld (pv 0) rfl) (pe_fld (pv 1) rfl) (nomark _)) (pe_and (pe_cmpR op_eq (pe_fld (pv 0) rfl) (pe_fld (pv 1) rfl) (nomark _)) (pe_one (pe_cmpR op_eq (pe_fld (pv 0) rfl) (pe_fld (pv 1) rfl) (nomark _))))))), ?_⟩
  refine ⟨_, rfl, p, _, dx, _, _, rfl, hp, T.cl_Bead, T.n_Bead_shade, bf_shade r, _, rfl, p', _, dx', _, _, rfl, hp', T.cl_Bead, T.n_Bead_shade, bf_shade r', rfl, _, rfl, ?_⟩
  rw [dec_str]
  have e : look r r' = (decide (r.sh = r'.sh) && (decide (r.fo = r'.fo) && decide (r.dr = r'.dr))) := rfl
  by_cases h1 : r.sh = r'.sh
  · rw [decide_eq_true h1, Bool.true_and] at e
    rw [decide_eq_true h1]
    refine iteT ⟨_, rfl, p, _, dx, _, _, rfl, hp, T.cl_Bead, T.n_Bead_form, bf_form r, _, rfl, p', _, dx', _, _, rfl, hp', T.cl_Bead, T.n_Bead_form, bf_form r', rfl, _, rfl, ?_⟩
    rw [dec_str]
    by_cases h2 : r.fo = r'.fo
    · rw [decide_eq_true h2, Bool.true_and] at e
      rw [decide_eq_true h2]
      refine iteT ⟨_, rfl, p, _, dx, _, _, rfl, hp, T.cl_Bead, T.n_Bead_drilled, bf_drilled r, _, rfl, p', _, dx', _, _, rfl, hp', T.cl_Bead, T.n_Bead_drilled, bf_drilled r', rfl, ?_⟩
      rw [dec_bl, ← e]
      exact q
    · rw [decide_eq_false h2] at e ⊢
      rw [e] at q
      exact iteF q
  · rw [decide_eq_false h1] at e ⊢
    rw [e] at q
    exact iteF q
/-! ### which pairs there may be -/
def mayPair (u : Rl) (r q : Rw) : Bool := (!decide (r.num = q.num) && !decide (u.far < apart r.ac q.ac)) && (!u.shd || look r q)
def mayNext (u : Rl) (b o : Rw) : Bool := decide (u.lo ≤ b.ac - o.ac) && decide (b.ac - o.ac ≤ u.hi)
def ErrRule (CB : Addr) (E : XK) (H : Hp) : Prop := ∀ (dd : Addr) (z : Str) (H' : Hp), Same H H' → H' dd = some (.xd [("why", .str z)]) → E (.ref CB) (some dd) H'
theorem pearl_same {H : Hp} {x dd : Addr} {o0 o1 o2 o3 : HO} (hx : H x = none) (hd : H dd = none) : Same H (upd (del (upd (upd (upd H x o0) dd o1) x o2) x) dd o3) := fun b o z => by
  have n1 := ne_of_none z hx
  have n2 := ne_of_none z hd
  rw [upd_ne n2]
  unfold del
  rw [if_neg n1, upd_ne n1, upd_ne n2, upd_ne n1]
  exact z
def spCheck (CR CB : Addr) : Sp := fun vs H Q E => ∃ (m : Addr) (u : Rl), vs = [.ref m] ∧ RuleAt CR H m u ∧ (u.far < u.lo → Q .non H) ∧ (¬ u.far < u.lo → ErrRule CB E H)
theorem ok_check_rule (T : Tx K mg) : FnOk P w K mg base (L2.CX P w) 3 T.A_check_rule T.fd_check_rule ["rule"] (spCheck T.C_Rule T.C_BadRule) := by
  refine T.F_check_rule.okX sc_check_rule (fun vs H Q E h => ?_) (fun cdv A outer s H vs Q E hr h => ?_)
  · obtain ⟨m, u, rfl, ⟨dm, hm⟩, q, qe⟩ := h
    rfl
  obtain ⟨m, u, rfl, ⟨dm, hm⟩, q, qe⟩ := h
  refine ⟨_, (pss_one (ps_if (pt_cmpR op_le (pe_fld (pv 0) rfl) (pe_fld (pv 0) rfl) (nomark _)) (pss_one (ps_raise rfl (takes_of rfl rfl rfl rfl) (pmk_oex T.ox_BadRule T.in_BadRule T.ti_BadRule (ok_PearlError_init T) (hr.mono (by decide)) T.b_PearlError_init .nil pass0 (by rfl) T.g_BadRule (pa_cons pe_str pa_nil)))) pss_nil)), ?_⟩
  refine ⟨_, rfl, m, _, dm, _, _, rfl, hm, T.cl_Rule, T.n_Rule_least, uf_least u, _, rfl, m, _, dm, _, _, rfl, hm, T.cl_Rule, T.n_Rule_match, uf_match u, _, _, rfl, rfl, _, rfl, ?_⟩
  by_cases h : u.far < u.lo
  · rw [decide_eq_false (show ¬ u.lo ≤ u.far by omega)]
    exact iteF (q h)
  · rw [decide_eq_true (show u.lo ≤ u.far by omega)]
    refine iteT ?_
    refine ⟨(by show 1 ≤ 1000; decide), fun x hx => ⟨x, T.C_BadRule, .str "least has to be above match", rfl, T.ox_BadRule, T.nf_BadRule_why, upd_same, fun dd hd hne => ⟨rfl, dd, [("why", .str "least has to be above match")], upd_same, ?_, ?_, ?_⟩⟩⟩
    · rw [upd_ne hne]
      exact upd_same
    · rw [upd_ne hne] at hd
      exact hd
    · rw [upd_ne hne] at hd
      exact qe h dd _ _ (pearl_same hx hd) upd_same
theorem dec_int' {a b : Int} : decide (V.int a = V.int b) = decide (a = b) := by
  rw [decide_eq_decide]
  exact ⟨fun z => by injection z, fun z => by rw [z]⟩
def spPartners (CB CR : Addr) : Sp := fun vs H Q _ => ∃ (p q m : Addr) (r r' : Rw) (u : Rl), vs = [.ref p, .ref q, .ref m] ∧ BeadAt CB H p r ∧ BeadAt CB H q r' ∧ RuleAt CR H m u ∧ Q (.bl (mayPair u r r')) H
theorem ok_may_be_partners (T : Tx K mg) : FnOk P w K mg base CX0 2 T.A_may_be_partners T.fd_may_be_partners ["left", "right", "rule"] (spPartners T.C_Bead T.C_Rule) := by
  refine T.F_may_be_partners.ok sc_may_be_partners (fun vs H Q E h => ?_) (fun cdv A outer s H vs Q E hr h => ?_)
  · obtain ⟨p, q', m, r, r', u, rfl, ⟨dx, hp⟩, ⟨dy, hq⟩, ⟨dm, hm⟩, q⟩ := h
    rfl
  obtain ⟨p, q', m, r, r', u, rfl, ⟨dx, hp⟩, ⟨dy, hq⟩, ⟨dm, hm⟩, q⟩ := h
  refine ⟨_, (pss_cons (ps_if (PW.pt (pw_or (pt_cmpR op_eq (pe_fld (pv 0) rfl) (pe_fld (pv 1) rfl) (nomark _)) (pw_or1 (pt_cmpR op_gt (pe_callB call_abs (by rfl) T.z_abs (by decide +kernel) (pa_cons (pe_op op_sub (pe_fld (pv 0) rfl) (pe_fld (pv 1) rfl)) pa_nil)) (pe_fld (pv 2) rfl) (nomark _))))) (pss_one (ps_ret pe_bl)) pss_nil)
      (pss_one (ps_ret (pe_or (pe_not (pe_fld (pv 2) rfl)) (pe_one (pe_call (ok_same_look T) (hr.mono (by decide)) (by rfl) T.g_same_look T.F_same_look.kp T.b_same_look .nil pass0 (pa_cons (pv 0) (pa_cons (pv 1) pa_nil)))))))), ?_⟩
  refine ⟨_, rfl, p, _, dx, _, _, rfl, hp, T.cl_Bead, T.n_Bead_number, bf_number r, _, rfl, q', _, dy, _, _, rfl, hq, T.cl_Bead, T.n_Bead_number, bf_number r', rfl, _, rfl, ?_⟩
  have e : mayPair u r r' = ((!decide (r.num = r'.num) && !decide (u.far < apart r.ac r'.ac)) && (!u.shd || look r r')) := rfl
  rw [dec_int']
  by_cases h1 : r.num = r'.num
  · rw [decide_eq_true h1] at e ⊢
    rw [e] at q
    exact iteT (iteT q)
  rw [decide_eq_false h1] at e ⊢
  refine iteF ⟨_, rfl, p, _, dx, _, _, rfl, hp, T.cl_Bead, T.n_Bead_across, bf_across r, _, rfl, q', _, dy, _, _, rfl, hq, T.cl_Bead, T.n_Bead_across, bf_across r', _, _, rfl, rfl, _, rfl, _, rfl, m, _, dm, _, _, rfl, hm, T.cl_Rule, T.n_Rule_match, uf_match u, _, _, rfl, rfl, _, rfl, ?_⟩
  show if decide (u.far < apart r.ac r'.ac) = true then _ else _
  by_cases h2 : u.far < apart r.ac r'.ac
  · rw [decide_eq_true h2] at e ⊢
    rw [e] at q
    exact iteT q
  rw [decide_eq_false h2] at e ⊢
  refine iteF ⟨_, rfl, m, _, dm, _, _, rfl, hm, T.cl_Rule, T.n_Rule_shades, uf_shades u, ?_⟩
  refine ⟨_, rfl, _, rfl, ?_⟩
  cases hs : u.shd with
  | false =>
    rw [hs] at e
    rw [e] at q
    exact iteT q
  | true =>
    rw [hs] at e
    have e : mayPair u r r' = look r r' := e
    rw [e] at q
    exact iteF ⟨_, rfl, _, rfl, p, q', r, r', rfl, ⟨dx, hp⟩, ⟨dy, hq⟩, q⟩
def spNext (CB CR : Addr) : Sp := fun vs H Q _ => ∃ (p q m : Addr) (r r' : Rw) (u : Rl), vs = [.ref p, .ref q, .ref m] ∧ BeadAt CB H p r ∧ BeadAt CB H q r' ∧ RuleAt CR H m u ∧ Q (.bl (mayNext u r r')) H
theorem ok_may_stand_next (T : Tx K mg) : FnOk P w K mg base CX0 1 T.A_may_stand_next T.fd_may_stand_next ["bead", "outer", "rule"] (spNext T.C_Bead T.C_Rule) := by
  refine T.F_may_stand_next.ok sc_may_stand_next (fun vs H Q E h => ?_) (fun cdv A outer s H vs Q E hr h => ?_)
  · obtain ⟨p, q', m, r, r', u, rfl, ⟨dx, hp⟩, ⟨dy, hq⟩, ⟨dm, hm⟩, q⟩ := h
    rfl
  obtain ⟨p, q', m, r, r', u, rfl, ⟨dx, hp⟩, ⟨dy, hq⟩, ⟨dm, hm⟩, q⟩ := h
  refine ⟨_, (pss_one (ps_ret (pe_chain op_le op_le (pe_fld (pv 2) rfl) (pe_op op_sub (pe_fld (pv 0) rfl) (pe_fld (pv 1) rfl)) (pe_fld (pv 2) rfl)))), ?_⟩
  refine ⟨_, rfl, m, _, dm, _, _, rfl, hm, T.cl_Rule, T.n_Rule_least, uf_least u, ?_⟩
  refine ⟨_, rfl, p, _, dx, _, _, rfl, hp, T.cl_Bead, T.n_Bead_across, bf_across r, _, rfl, q', _, dy, _, _, rfl, hq, T.cl_Bead, T.n_Bead_across, bf_across r', _, _, rfl, rfl, _, _, rfl, rfl, _, rfl, ?_⟩
  have e : mayNext u r r' = (decide (u.lo ≤ r.ac - r'.ac) && decide (r.ac - r'.ac ≤ u.hi)) := rfl
  by_cases h1 : u.lo ≤ r.ac - r'.ac
  · rw [decide_eq_true h1] at e ⊢
    rw [e, Bool.true_and] at q
    exact iteT ⟨_, rfl, m, _, dm, _, _, rfl, hm, T.cl_Rule, T.n_Rule_most, uf_most u, _, _, rfl, rfl, q⟩
  · rw [decide_eq_false h1] at e ⊢
    rw [e] at q
    exact iteF q
/-- all pairs, left and right, bead by bead -/
def pairsB (u : Rl) (rs : List Rw) (r : Rw) : List (Int × Int) := (rs.filter (mayPair u r)).map fun q => (r.num, q.num)
def pairs0 (u : Rl) (rs : List Rw) : List (Int × Int) := rs.flatMap (pairsB u rs)
def srtP (zs : List (Int × Int)) : List (Int × Int) := zs.mergeSort fun p q => !SrtO.lexB q p
theorem lexB_tr {a b c : Int × Int} (h1 : SrtO.lexB b a = false) (h2 : SrtO.lexB c b = false) : SrtO.lexB c a = false := by
  have h1 : ¬ (b.1 < a.1 ∨ (b.1 = a.1 ∧ b.2 < a.2)) := SrtO.lexB_no.mp h1
  have h2 : ¬ (c.1 < b.1 ∨ (c.1 = b.1 ∧ c.2 < b.2)) := SrtO.lexB_no.mp h2
  refine SrtO.lexB_no.mpr ?_
  show ¬ (c.1 < a.1 ∨ (c.1 = a.1 ∧ c.2 < a.2))
  omega
theorem srtP_sorted (zs : List (Int × Int)) : Srt2 (srtP zs) := by
  have h : (srtP zs).Pairwise fun p q => (!SrtO.lexB q p) = true := List.pairwise_mergeSort (le := fun p q => !SrtO.lexB q p) (fun a b c h1 h2 => by
    rw [Bool.not_eq_true'] at h1 h2 ⊢
    exact lexB_tr h1 h2) (fun a b => by
    rw [Bool.or_eq_true, Bool.not_eq_true', Bool.not_eq_true']
    by_cases c : SrtO.lexB b a = false
    · exact .inl c
    · refine .inr (SrtO.lexB_no.mpr ?_)
      have c : (b.1 < a.1 ∨ (b.1 = a.1 ∧ b.2 < a.2)) := by
        apply Classical.byContradiction
        intro z
        exact c (SrtO.lexB_no.mpr z)
      show ¬ (a.1 < b.1 ∨ (a.1 = b.1 ∧ a.2 < b.2))
      omega) zs
  exact h.imp fun h => by
    rw [Bool.not_eq_true'] at h
    exact h
theorem srtP_perm (zs : List (Int × Int)) : (srtP zs).Perm zs := List.mergeSort_perm ..
/-- all pairs, rising -/
def pairsU (u : Rl) (rs : List Rw) : List (Int × Int) := srtP (pairs0 u rs)
theorem pairsB_len (u : Rl) (rs : List Rw) (r : Rw) : (pairsB u rs r).length ≤ rs.length := by
  unfold pairsB
  rw [List.length_map]
  exact List.length_filter_le _ _
theorem flat_len {α β : Type} {f : α → List β} {n : Nat} (h : ∀ x, (f x).length ≤ n) : ∀ l : List α, (l.flatMap f).length ≤ l.length * n
  | [] => Nat.zero_le _
  | x :: l => by
    rw [List.flatMap_cons, List.length_append, List.length_cons, Nat.succ_mul]
    have := flat_len h l
    have := h x
    omega
def spPairsOf (CB CR : Addr) : Sp := fun vs H Q _ => ∃ (b m : Addr) (xs : List V) (rs : List Rw) (u : Rl), vs = [.ref b, .ref m] ∧ H b = some (.lst xs) ∧ BdL CB H xs rs ∧ RuleAt CR H m u ∧ rs.length ≤ 40 ∧
  ∀ (H' : Hp) (l : Addr) (ys : List V), Same H H' → H l = none → H' l = some (.lst ys) → FF (PrV H') ys (pairsU u rs) → Q (.ref l) H'
theorem ok_pairs_of (T : Tx K mg) : FnOk P w K mg base CX0 3 T.A_pairs_of T.fd_pairs_of ["beads", "rule"] (spPairsOf T.C_Bead T.C_Rule) := by
  refine T.F_pairs_of.ok sc_pairs_of (fun vs H Q E h => ?_) (fun cdv A outer s H vs Q E hr h => ?_)
  · obtain ⟨b, m, xs, rs, u, rfl, hb, hB, hm, hl, q⟩ := h
    rfl
  obtain ⟨b, m, xs, rs, u, rfl, hb, hB, hm, hl, q⟩ := h
  refine ⟨_, (pss_cons (ps_setLc2 (i := 2) (own := [("left", 3), ("right", 4)]) (vs1 := [4]) (g := gName 3) (g1 := gName 4) (tt := tYes) (tt1 := _) rfl sc_pairs_of.nd rfl rfl (sw_true rfl rfl rfl (by decide +kernel)) (pi_list (pv 0)) (blkOk_by (N := ["beads", "rule", "found", "left", "right"]) (sc := defScope s_pairs_of) (by decide +kernel)) (by decide) (fun _ _ _ _ _ => (pg_name (i := 3) sc_pairs_of.nd rfl (Or.inl rfl))) (fun _ _ _ _ _ => pts_nil) (fun _ _ _ _ _ => (pi_listK (K' := K) rfl (pv 0))) (fun _ _ _ _ _ => (pg_name (i := 4) sc_pairs_of.nd rfl (Or.inl rfl))) (fun _ _ _ _ _ => (pts_one (pt_val (pe_call (ok_may_be_partners T) (hr.mono (by decide)) (by rfl) T.g_may_be_partners T.F_may_be_partners.kp T.b_may_be_partners .nil pass0 (pa_cons (pv 3) (pa_cons (pv 4) (pa_cons (pv 1) pa_nil))))))) (fun _ _ _ _ _ => (pe_tup (pa_cons (pe_fldK (K' := K) rfl (pv 3) rfl) (pa_cons (pe_fldK (K' := K) rfl (pv 4) rfl) pa_nil)))))
      (pss_one (ps_ret (pe_callB cr_sortedPO (by rfl) T.z_sorted (by decide +kernel) (pa_cons (pv 2) pa_nil))))), ?_⟩
  have hxl := hB.1
  refine ⟨_, rfl, b, rfl, ⟨_, SqL.of hb⟩, fun D hD => ?_⟩
  have lenB : ∀ i, ((rs.take i).flatMap (pairsB u rs)).length ≤ 1600 := fun i => by
    have := flat_len (pairsB_len u rs) (rs.take i)
    rw [List.length_take] at this
    have : min i rs.length * rs.length ≤ 40 * 40 := Nat.mul_le_mul (by omega) hl
    omega
  refine itl_loop (K := K) (a := b) (xs := xs) (fun i H' => Same H H' ∧ ∃ ys, H' D = some (.lst ys) ∧ FF (PrV H') ys ((rs.take i).flatMap (pairsB u rs))) ⟨same_upd hD, [], upd_same, .nil⟩ (fun i H' _ h => SqL.of (h.1 _ _ hb)) ?_ ?_
  · rintro i x H2 hx ⟨s2, ys, e2, f2⟩
    have hi : i < rs.length := by
      rw [← hxl]
      exact (List.getElem?_eq_some_iff.mp hx).1
    have hr : rs[i]? = some rs[i] := List.getElem?_eq_getElem hi
    generalize rs[i] = r at hr
    obtain ⟨p, h1, hp⟩ := hB.2 i r hr
    rw [h1] at hx
    cases hx
    obtain ⟨dp, hp'⟩ := id hp
    have tk : (rs.take (i + 1)).flatMap (pairsB u rs) = (rs.take i).flatMap (pairsB u rs) ++ ((rs.take rs.length).filter (mayPair u r)).map fun q => (r.num, q.num) := by
      rw [List.take_add_one, hr, List.flatMap_append, List.take_length]
      show _ ++ (pairsB u rs r ++ []) = _
      rw [List.append_nil]
      rfl
    refine ⟨rfl, yesT ⟨_, rfl, b, rfl, ⟨_, SqL.of (s2 _ _ hb)⟩, itl_loop (K := K) (a := b) (xs := xs) (fun j H' => Same H H' ∧ ∃ ys, H' D = some (.lst ys) ∧ FF (PrV H') ys ((rs.take i).flatMap (pairsB u rs) ++ ((rs.take j).filter (mayPair u r)).map fun q => (r.num, q.num))) ⟨s2, ys, e2, by rw [List.take_zero]; show FF _ _ (_ ++ []); rw [List.append_nil]; exact f2⟩ (fun j H' _ h => SqL.of (h.1 _ _ hb)) ?_ ?_⟩⟩
    · rintro j y H3 hy ⟨s3, ys3, e3, f3⟩
      have hj : j < rs.length := by
        rw [← hxl]
        exact (List.getElem?_eq_some_iff.mp hy).1
      have hr' : rs[j]? = some rs[j] := List.getElem?_eq_getElem hj
      generalize rs[j] = r' at hr'
      obtain ⟨p', h1', hq⟩ := hB.2 j r' hr'
      rw [h1'] at hy
      cases hy
      obtain ⟨dq, hq'⟩ := id hq
      have tk2 : (rs.take (j + 1)).filter (mayPair u r) = (rs.take j).filter (mayPair u r) ++ [r'].filter (mayPair u r) := by
        rw [List.take_add_one, hr', List.filter_append]
        rfl
      refine ⟨rfl, _, rfl, _, rfl, _, rfl, p, p', m, r, r', u, rfl, hp.nl (NL.of s3), hq.nl (NL.of s3), (by obtain ⟨dm, hm⟩ := hm; exact ⟨dm, s3 _ _ hm⟩), _, rfl, ?_⟩
      cases hq2 : mayPair u r r' with
      | true =>
        refine iteT ⟨_, rfl, p, _, dp, _, _, rfl, s3 _ _ hp', T.cl_Bead, T.n_Bead_number, bf_number r, _, rfl, p', _, dq, _, _, rfl, s3 _ _ hq', T.cl_Bead, T.n_Bead_number, bf_number r', (by show 2 ≤ sizeLine; decide), fun t ht => ?_⟩
        have zt := same_upd ht (o := .tup [.int r.num, .int r'.num])
        have e4 := zt _ _ e3
        have l3 : ys3.length ≤ 4000 := by
          have h1 := f3.len
          have h2 := lenB i
          have h3 := List.length_filter_le (mayPair u r) (rs.take j)
          rw [List.length_append, List.length_map] at h1
          rw [List.length_take] at h3
          omega
        have nz := NL.at_ e4 (o := .lst (ys3 ++ [.ref t]))
        refine ⟨ys3, e4, Nat.lt_of_le_of_lt l3 (by decide), fun c o h => ?_, ys3 ++ [.ref t], upd_same, ?_⟩
        · rw [upd_ne (ne_of_none h hD)]
          exact zt _ _ (s3 _ _ h)
        · rw [tk2, List.filter_cons_of_pos hq2, List.map_append, ← List.append_assoc]
          refine FF.snoc ⟨t, rfl, nz _ _ (fun _ z => by cases z) upd_same⟩ (f3.mono (fun _ _ h => h.nl ((NL.of zt).trans nz) : ∀ v z, PrV H3 v z → PrV _ v z))
      | false =>
        refine iteF ⟨s3, ys3, e3, ?_⟩
        rw [tk2, List.filter_cons_of_neg (by rw [hq2]; exact Bool.false_ne_true)]
        show FF _ _ (_ ++ List.map _ (_ ++ []))
        rw [List.append_nil]
        exact f3
    · rintro H3 ⟨s3, ys3, e3, f3⟩
      refine ⟨s3, ys3, e3, ?_⟩
      rw [tk]
      rw [hxl] at f3
      exact f3
  · rintro H2 ⟨s2, ys, e2, f2⟩
    rw [hxl, List.take_length] at f2
    refine ⟨_, rfl, D, ys, keyV H2, rfl, SqL.of e2, fun x hx => ?_, fun ys' p srtd stb hp => ?_⟩
    · obtain ⟨z, _, t, h1, h2⟩ := f2_mem f2 x hx
      have hk := keyV_of (H := H2) (v := x) (z := z) ⟨t, h1, h2⟩
      rw [hk]
      exact ⟨t, h1, h2⟩
    have s3 := same_upd hp (o := .lst ys')
    have pm := stb.perm
    have f12 : FF (PrV (upd H2 p (.lst ys'))) ys' (ys'.map (keyV H2)) := (f2_self fun y hy => by
      obtain ⟨z, _, h⟩ := f2_mem f2 y (pm.mem_iff.mp hy)
      exact ⟨z, h⟩).mono fun v z h => h.nl (NL.of s3)
    have eqz : ys'.map (keyV H2) = pairsU u rs := by
      refine srt2_eq ((pm.map _).trans ?_) (List.pairwise_map.mpr srtd) (srtP_sorted _)
      rw [← f2_map f2]
      exact (srtP_perm _).symm
    rw [eqz] at f12
    exact q _ p ys' (s2.trans s3) (s2.free hp) upd_same f12
end
end KB
namespace KB
open PySem PySem.Spec PyProof.Rows L2 KA

section
variable {P : Program} {w : World} {K : PySem.W.Frag} {mg : Str → Option Value} {base : Heap}
/-! ### what is asked -/
abbrev Sh := Int × Int
abbrev Pr := Int × Int
structure Ak where
  ws : List (Int × Sh)
  hv : Nat
  od : Bool
  fnd : List Pr
  wi : Pr → List Pr
  mi : Pr → List Int
def key2 (z : Pr) : List Key := [Sum.inl z.1, Sum.inl z.2]
theorem key2_inj {a b : Pr} (h : key2 a = key2 b) : a = b := by
  unfold key2 at h
  simp only [List.cons.injEq, Sum.inl.injEq, and_true] at h
  exact Prod.ext h.1 h.2
def ivs (ns : List Int) : List V := ns.map V.int
/-- a dict from numbers to shares -/
def DctS (CS : Addr) (H : Hp) (kvs : List (Key × V)) (ws : List (Int × Sh)) : Prop := kvs.map Prod.fst = ws.map (fun p => (Sum.inl p.1 : Key)) ∧ ∀ p ∈ ws, ∃ a, valV kvs (Sum.inl p.1 : Key) = some (.ref a) ∧ ShAt CS H a p.2
/-- a dict from pairs -/
def DctP (H : Hp) (kvs : List (List Key × V)) (ks : List Pr) (R : Pr → Addr → Hp → Prop) : Prop := kvs.map Prod.fst = ks.map key2 ∧ ∀ z ∈ ks, ∃ a, valV kvs (key2 z) = some (.ref a) ∧ R z a H
def RWi (k : Ak) (z : Pr) (a : Addr) (H : Hp) : Prop := ∃ ys, H a = some (.lst ys) ∧ FF (PrV H) ys (k.wi z)
def RMi (k : Ak) (z : Pr) (a : Addr) (H : Hp) : Prop := H a = some (.lst (ivs (k.mi z)))
def af (dw : Addr) (hv : Nat) (od : Bool) (di dm : Addr) : List (Str × V) := putF "middles" (.ref dm) (putF "within" (.ref di) (putF "is_odd" (.bl od) (putF "halves" (.int (hv : Int)) (putF "worths" (.ref dw) []))))
theorem af_worths (dw : Addr) (hv : Nat) (od : Bool) (di dm : Addr) : (af dw hv od di dm).lookup ("worths" : Str) = some (.ref dw) := by
  unfold af
  rw [lookup_putF, if_neg (by decide +kernel), lookup_putF, if_neg (by decide +kernel), lookup_putF, if_neg (by decide +kernel), lookup_putF, if_neg (by decide +kernel), lookup_putF, if_pos rfl]
theorem af_halves (dw : Addr) (hv : Nat) (od : Bool) (di dm : Addr) : (af dw hv od di dm).lookup ("halves" : Str) = some (.int (hv : Int)) := by
  unfold af
  rw [lookup_putF, if_neg (by decide +kernel), lookup_putF, if_neg (by decide +kernel), lookup_putF, if_neg (by decide +kernel), lookup_putF, if_pos rfl]
theorem af_odd (dw : Addr) (hv : Nat) (od : Bool) (di dm : Addr) : (af dw hv od di dm).lookup ("is_odd" : Str) = some (.bl od) := by
  unfold af
  rw [lookup_putF, if_neg (by decide +kernel), lookup_putF, if_neg (by decide +kernel), lookup_putF, if_pos rfl]
theorem af_within (dw : Addr) (hv : Nat) (od : Bool) (di dm : Addr) : (af dw hv od di dm).lookup ("within" : Str) = some (.ref di) := by
  unfold af
  rw [lookup_putF, if_neg (by decide +kernel), lookup_putF, if_pos rfl]
theorem af_middles (dw : Addr) (hv : Nat) (od : Bool) (di dm : Addr) : (af dw hv od di dm).lookup ("middles" : Str) = some (.ref dm) := by
  unfold af
  rw [lookup_putF, if_pos rfl]
theorem af_no (dw : Addr) (hv : Nat) (od : Bool) (di dm : Addr) {m : Str} (h1 : ¬ m = "middles") (h2 : ¬ m = "within") (h3 : ¬ m = "is_odd") (h4 : ¬ m = "halves") (h5 : ¬ m = "worths") : (af dw hv od di dm).lookup m = none := by
  unfold af
  rw [lookup_putF, if_neg h1, lookup_putF, if_neg h2, lookup_putF, if_neg h3, lookup_putF, if_neg h4, lookup_putF, if_neg h5]
  rfl
/-- an Asked, its dicts' addresses told; within may be locked -/
structure AkIn (CA CS : Addr) (H : Hp) (a dw di dm : Addr) (kw : List (Key × V)) (ki km : List (List Key × V)) (k : Ak) : Prop where
  ne : dm ≠ di
  ins : ∃ dx, H a = some (.ins CA dx (af dw k.hv k.od di dm))
  hw : H dw = some (.dK kw)
  dw : DctS CS H kw k.ws
  hi : Rd H di (.dT ki)
  di : DctP H ki k.fnd (RWi k)
  hm : H dm = some (.dT km)
  dm : DctP H km k.fnd (RMi k)
/-- the beads that may stand within one -/
def innerU (u : Rl) (rs : List Rw) (b : Rw) : List Int := (rs.filter fun o => mayNext u o b).map Rw.num
def innerN (u : Rl) (rs : List Rw) (n : Int) : List Int := match rs.find? fun b => decide (b.num = n) with | some b => innerU u rs b | none => []
def akOf (u : Rl) (rs : List Rw) (long : Nat) (ws : List (Int × Sh)) : Ak where
  ws := ws
  hv := long / 2
  od := decide (long % 2 = 1)
  fnd := pairsU u rs
  wi := fun z => (pairsU u rs).filter fun p => decide (p.1 ∈ innerN u rs z.1) && decide (p.2 ∈ innerN u rs z.2)
  mi := fun z => (innerN u rs z.1).filter fun n => decide (n ∈ innerN u rs z.2)
def AkAt (CA CS : Addr) (H : Hp) (a : Addr) (k : Ak) : Prop := ∃ dw di dm kw ki km, H di = some (.dT ki) ∧ AkIn CA CS H a dw di dm kw ki km k
theorem find_num {rs : List Rw} (nd : (rs.map Rw.num).Nodup) {b : Rw} (h : b ∈ rs) : rs.find? (fun x => decide (x.num = b.num)) = some b := by
  induction rs with
  | nil => exact nomatch h
  | cons q rs ih =>
    rw [List.map_cons, List.nodup_cons] at nd
    rcases List.mem_cons.mp h with e | h
    · rw [← e, List.find?_cons_of_pos (by simp)]
    · rw [List.find?_cons_of_neg (by
        have : ¬ q.num = b.num := fun z => nd.1 (by rw [z]; exact List.mem_map_of_mem h)
        simpa using this)]
      exact ih nd.2 h
theorem inner_at {u : Rl} {rs : List Rw} (nd : (rs.map Rw.num).Nodup) {b : Rw} (h : b ∈ rs) : innerN u rs b.num = innerU u rs b := by
  unfold innerN
  rw [find_num nd h]
theorem pairs_mem {u : Rl} {rs : List Rw} {z : Pr} (h : z ∈ pairsU u rs) : ∃ r ∈ rs, ∃ q ∈ rs, mayPair u r q = true ∧ z = (r.num, q.num) := by
  obtain ⟨r, hr, h⟩ := List.mem_flatMap.mp ((srtP_perm _).mem_iff.mp h)
  obtain ⟨q, hq, rfl⟩ := List.mem_map.mp h
  obtain ⟨h1, h2⟩ := List.mem_filter.mp hq
  exact ⟨r, hr, q, h1, h2, rfl⟩
theorem pairs_nd {u : Rl} {rs : List Rw} (nd : (rs.map Rw.num).Nodup) : (pairsU u rs).Nodup := by
  refine (srtP_perm _).symm.nodup ?_
  have nr : rs.Pairwise fun a b => a.num ≠ b.num := List.pairwise_map.mp nd
  unfold pairs0
  refine List.pairwise_flatMap.mpr ⟨fun r _ => ?_, nr.imp fun {a b} h x hx y hy e => ?_⟩
  · unfold pairsB
    refine List.pairwise_map.mpr ((nr.sublist List.filter_sublist).imp fun {a b} h e => h ?_)
    exact congrArg Prod.snd e
  · unfold pairsB at hx hy
    obtain ⟨q, _, rfl⟩ := List.mem_map.mp hx
    obtain ⟨q', _, rfl⟩ := List.mem_map.mp hy
    exact h (congrArg Prod.fst e)
theorem flat_ints (ns : List Int) : (ns.map V.int).all flatV = true := by
  rw [List.all_eq_true]
  intro v hv
  obtain ⟨n, _, rfl⟩ := List.mem_map.mp hv
  rfl
theorem inV_ints (n : Int) (ns : List Int) : inV (.int n) (ns.map V.int) = decide (n ∈ ns) := by
  unfold inV
  rw [Bool.eq_iff_iff, List.any_eq_true, decide_eq_true_eq]
  constructor
  · rintro ⟨v, hv, e⟩
    obtain ⟨k, hk, rfl⟩ := List.mem_map.mp hv
    have : n = k := by
      have : k = n := by simpa [eqV] using e
      exact this.symm
    rw [this]
    exact hk
  · intro h
    exact ⟨.int n, List.mem_map_of_mem h, by simp [eqV]⟩
def spAskedInit (CA CB CS CR : Addr) : Sp := fun vs H Q _ => ∃ (a dx b m dw : Addr) (long : Nat) (xs : List V) (rs : List Rw) (u : Rl) (kw : List (Key × V)) (ws : List (Int × Sh)), vs = [.ref a, .ref b, .ref m, .int (long : Int), .ref dw] ∧ H a = some (.ins CA dx []) ∧ H b = some (.lst xs) ∧ BdL CB H xs rs ∧ RuleAt CR H m u ∧ (rs.map Rw.num).Nodup ∧ rs.length ≤ 40 ∧ long ≤ 1000000 ∧ H dw = some (.dK kw) ∧ DctS CS H kw ws ∧
  ∀ H', AkAt CA CS H' a (akOf u rs long ws) → (∀ b o, H b = some o → b ≠ a → H' b = some o) → Q .non H'
theorem ok_Asked_init (T : Tx K mg) : FnOk P w K mg base CX0 4 T.A_Asked_init T.fd_Asked_init ["self", "beads", "rule", "long", "worths"] (spAskedInit T.C_Asked T.C_Bead T.C_Share T.C_Rule) := by
  refine T.F_Asked_init.ok sc_Asked_init (fun vs H Q E h => ?_) (fun cdv A outer s H vs Q E hr h => ?_)
  · obtain ⟨a, dx, b, m, dw, long, xs, rs, u, kw, ws, rfl, ha, hb, hB, hm, nd, hl, hlong, hdw, hws, q⟩ := h
    rfl
  obtain ⟨a, dx, b, m, dw, long, xs, rs, u, kw, ws, rfl, ha, hb, hB, hm, nd, hl, hlong, hdw, hws, q⟩ := h
  refine ⟨_, (pss_cons (ps_set (i := 5) sc_Asked_init.nd rfl (Or.inr rfl) (pe_dc (own := [("bead", 7)]) (g := gName 7) (tt := tYes) rfl sc_Asked_init.nd (pi_list (pv 1)) (blkOk_by (N := ["self", "beads", "rule", "long", "worths", "inner", "found", "bead", "left", "right", "other", "pair", "number"]) (sc := defScope s_Asked_init) (by decide +kernel)) (fun _ _ _ _ _ => (pg_name (i := 7) sc_Asked_init.nd rfl (Or.inr rfl))) (fun _ _ _ _ _ => pts_nil) (fun _ _ _ _ _ => (pe_fldK (K' := K) rfl (pv 7) rfl)) (fun _ _ _ _ _ => (pe_lc (own := [("other", 10)]) (g := gName 10) (tt := _) rfl sc_Asked_init.nd (pi_listK (K' := K) rfl (pv 1)) (blkOk_by (N := ["self", "beads", "rule", "long", "worths", "inner", "found", "bead", "left", "right", "other", "pair", "number"]) (by rfl)) (fun _ _ _ _ _ => (pg_name (i := 10) sc_Asked_init.nd rfl (Or.inl rfl))) (fun _ _ _ _ _ => (pts_one (pt_val (pe_call (ok_may_stand_next T) (hr.mono (by decide)) (by rfl) T.g_may_stand_next T.F_may_stand_next.kp T.b_may_stand_next .nil pass0 (pa_cons (pv 10) (pa_cons (pv 7) (pa_cons (pv 2) pa_nil))))))) (fun _ _ _ _ _ => (pe_fldK (K' := K) rfl (pv 10) rfl))))))
      (pss_cons (ps_set (i := 6) sc_Asked_init.nd rfl (Or.inr rfl) (pe_call (ok_pairs_of T) (hr.mono (by decide)) (by rfl) T.g_pairs_of T.F_pairs_of.kp T.b_pairs_of .nil pass0 (pa_cons (pv 1) (pa_cons (pv 2) pa_nil))))
      (pss_cons (ps_fld (pv 0) (pv 4) rfl)
      (pss_cons (ps_fld (pv 0) (pe_op op_fdiv (pv 3) pe_int) rfl)
      (pss_cons (ps_fld (pv 0) (pe_cmpR op_eq (pe_op op_mod (pv 3) pe_int) pe_int (nomark _)) rfl)
      (pss_cons (ps_fld (pv 0) (pe_dcT (own := [("left", 8), ("right", 9)]) (g := gTup K 2 (gCons (gName 8) (gCons (gName 9) gNil))) (tt := tYes) (Nat.lt_of_le_of_lt (Nat.add_le_add_left (by decide) _) hr.units) rfl sc_Asked_init.nd (pi_list (pv 6)) (blkOk_by (N := ["self", "beads", "rule", "long", "worths", "inner", "found", "bead", "left", "right", "other", "pair", "number"]) (sc := defScope s_Asked_init) (by decide +kernel)) (fun _ _ _ _ _ => (pg_tupK (K' := K) rfl (by rfl) (pgs_cons (pg_name (i := 8) sc_Asked_init.nd rfl (Or.inr rfl)) (pgs_cons (pg_name (i := 9) sc_Asked_init.nd rfl (Or.inr rfl)) pgs_nil)))) (fun _ _ _ _ _ => pts_nil) (fun _ _ _ _ _ => (pe_tup (pa_cons (pv 8) (pa_cons (pv 9) pa_nil)))) (fun _ _ _ _ _ => (pe_lc (own := [("pair", 11)]) (g := gName 11) (tt := _) rfl sc_Asked_init.nd (pi_listK (K' := K) rfl (pv 6)) (blkOk_by (N := ["self", "beads", "rule", "long", "worths", "inner", "found", "bead", "left", "right", "other", "pair", "number"]) (by rfl)) (fun _ _ _ _ _ => (pg_name (i := 11) sc_Asked_init.nd rfl (Or.inl rfl))) (fun _ _ _ _ _ => (pts_one (PW.pt (pw_and (pt_cmpR (op_in_seqK (K' := K) rfl) (pe_ix (ix_tupK (K' := K) rfl) (pv 11) pe_int (fun _ _ => rfl)) (pe_dget (Nat.lt_of_le_of_lt (Nat.add_le_add_left (by decide) _) hr.units) (pv 5) (pv 8) (fun _ _ => rfl)) (by rfl)) (pw_and1 (pt_cmpR (op_in_seqK (K' := K) rfl) (pe_ix (ix_tupK (K' := K) rfl) (pv 11) pe_int (fun _ _ => rfl)) (pe_dget (Nat.lt_of_le_of_lt (Nat.add_le_add_left (by decide) _) hr.units) (pv 5) (pv 9) (fun _ _ => rfl)) (by rfl))))))) (fun _ _ _ _ _ => (pv 11))))) rfl)
      (pss_one (ps_fld (pv 0) (pe_dcT (own := [("left", 8), ("right", 9)]) (g := gTup K 2 (gCons (gName 8) (gCons (gName 9) gNil))) (tt := tYes) (Nat.lt_of_le_of_lt (Nat.add_le_add_left (by decide) _) hr.units) rfl sc_Asked_init.nd (pi_list (pv 6)) (blkOk_by (N := ["self", "beads", "rule", "long", "worths", "inner", "found", "bead", "left", "right", "other", "pair", "number"]) (sc := defScope s_Asked_init) (by decide +kernel)) (fun _ _ _ _ _ => (pg_tupK (K' := K) rfl (by rfl) (pgs_cons (pg_name (i := 8) sc_Asked_init.nd rfl (Or.inl rfl)) (pgs_cons (pg_name (i := 9) sc_Asked_init.nd rfl (Or.inr rfl)) pgs_nil)))) (fun _ _ _ _ _ => pts_nil) (fun _ _ _ _ _ => (pe_tup (pa_cons (pv 8) (pa_cons (pv 9) pa_nil)))) (fun _ _ _ _ _ => (pe_lc (own := [("number", 12)]) (g := gName 12) (tt := _) rfl sc_Asked_init.nd (pi_listK (K' := K) rfl (pe_dget (Nat.lt_of_le_of_lt (Nat.add_le_add_left (by decide) _) hr.units) (pv 5) (pv 8) (fun _ _ => rfl))) (blkOk_by (N := ["self", "beads", "rule", "long", "worths", "inner", "found", "bead", "left", "right", "other", "pair", "number"]) (by rfl)) (fun _ _ _ _ _ => (pg_name (i := 12) sc_Asked_init.nd rfl (Or.inl rfl))) (fun _ _ _ _ _ => (pts_one (pt_cmpR (op_in_seqK (K' := K) rfl) (pv 12) (pe_dget (Nat.lt_of_le_of_lt (Nat.add_le_add_left (by decide) _) hr.units) (pv 5) (pv 9) (fun _ _ => rfl)) (by rfl)))) (fun _ _ _ _ _ => (pv 12))))) rfl)))))))), ?_⟩
  have hxl := hB.1
  obtain ⟨dmm, hm'⟩ := id hm
  refine ⟨_, rfl, b, rfl, ⟨_, SqL.of hb⟩, fun D hD => dc_walk (walk_list (K := K) (a := b) (xs := xs)) hD (fun i x => xs[i]? = some x) (fun i H x H' h => h) (fun H' s => SqL.of (s _ _ hb)) (rs.map fun r => (Sum.inl r.num : Key)) ?_ (by rw [List.length_map, hxl]) (by omega) (fun i v H => ∀ r, rs[i]? = some r → ∃ c, v = .ref c ∧ H c = some (.lst (ivs (innerU u rs r)))) (fun j v H1 H2 s h r hr => ?_) (fun i x k H2 R C hx hk s2 hR => ?_) fun H2 kin s2 eD hkin hPin => ?_⟩
  · have : rs.map (fun r => (Sum.inl r.num : Key)) = (rs.map Rw.num).map Sum.inl := by rw [List.map_map]; rfl
    rw [this]
    exact List.Pairwise.map _ (fun a b ne e => ne (Sum.inl.inj e)) nd
  · obtain ⟨c, e, h⟩ := h r hr
    exact ⟨c, e, s _ _ (fun _ z => by cases z) h⟩
  · rw [List.getElem?_map, Option.map_eq_some_iff] at hk
    obtain ⟨r, hr, rfl⟩ := hk
    obtain ⟨p, h1, hp⟩ := hB.2 i r hr
    obtain ⟨dp, hp'⟩ := id hp
    rw [h1] at hx
    cases hx
    refine ⟨rfl, yesT ⟨_, rfl, p, _, dp, _, _, rfl, s2 _ _ hp', T.cl_Bead, T.n_Bead_number, bf_number _, ?_⟩⟩
    refine ⟨_, rfl, b, rfl, ⟨_, SqL.of (s2 _ _ hb)⟩, fun D1 hD1 => lc_listR (K := K) (ts := rs) hD1 (SqL.of (s2 _ _ hb)) hxl (by omega) (fun o => mayNext u o r) (fun v o _ => v = .int o.num) (fun _ _ _ _ _ h => h) (fun j y o H3 R' C' hy ho s3 yes no => ?_) fun H3 acc s3 e3 f3 => ?_⟩
    · obtain ⟨p', h1', hp2⟩ := hB.2 j o ho
      rw [h1'] at hy
      cases hy
      obtain ⟨dq, hp2'⟩ := id hp2
      have s23 := s2.trans s3
      refine ⟨rfl, _, rfl, _, rfl, _, rfl, p', p, m, o, r, u, rfl, hp2.nl (NL.of s23), hp.nl (NL.of s23), ⟨dmm, s23 _ _ hm'⟩, _, rfl, ?_⟩
      cases hq : mayNext u o r with
      | true => exact iteT ⟨_, rfl, p', _, dq, _, _, rfl, s23 _ _ hp2', T.cl_Bead, T.n_Bead_number, bf_number _, yes hq _ _ (Same.refl _) rfl⟩
      | false => exact iteF (no hq _ (Same.refl _))
    · refine hR H3 _ s3 fun r' hr' => ?_
      rw [hr] at hr'
      cases hr'
      refine ⟨D1, rfl, ?_⟩
      rw [e3, f3.eq]
      unfold ivs innerU
      rw [List.map_map]
      rfl
  have hin : ∀ H3, Same H2 H3 → ∀ r ∈ rs, ∃ c, valV kin (Sum.inl r.num : Key) = some (.ref c) ∧ H3 c = some (.lst (ivs (innerN u rs r.num))) := fun H3 s3 r hr => by
    obtain ⟨i, hi, ei⟩ := List.mem_iff_getElem.mp hr
    have nk : (rs.map fun r => (Sum.inl r.num : Key)).Nodup := by
      have : rs.map (fun r => (Sum.inl r.num : Key)) = (rs.map Rw.num).map Sum.inl := by rw [List.map_map]; rfl
      rw [this]
      exact List.Pairwise.map _ (fun a b ne e => ne (Sum.inl.inj e)) nd
    obtain ⟨v, hv, h⟩ := made_get nk hkin (P := fun j v => ∀ r, rs[j]? = some r → ∃ c, v = .ref c ∧ H2 c = some (.lst (ivs (innerU u rs r)))) hPin (i := i) (k := (Sum.inl r.num : Key)) (by rw [List.getElem?_map, List.getElem?_eq_getElem hi, ei]; rfl)
    obtain ⟨c, rfl, hc⟩ := h r (by rw [List.getElem?_eq_getElem hi, ei])
    exact ⟨c, hv, by rw [inner_at nd hr]; exact s3 _ _ hc⟩
  refine ⟨_, rfl, _, rfl, b, m, xs, rs, u, rfl, s2 _ _ hb, hB.nl (NL.of s2), ⟨dmm, s2 _ _ hm'⟩, hl, fun H3 fl ys s3 hfl efl fys => ?_⟩
  have s03 := s2.trans s3
  have ha3 := s03 _ _ ha
  refine ⟨_, rfl, _, rfl, a, _, dx, _, rfl, ha3, T.cl_Asked, T.n_Asked_worths, by decide, ?_⟩
  refine ⟨_, rfl, _, _, rfl, rfl, ⟨by decide, by decide⟩, _, rfl, a, _, dx, _, rfl, upd_same, T.cl_Asked, T.n_Asked_halves, Nat.lt_of_le_of_lt (few few0) (by decide), ?_⟩
  refine ⟨_, rfl, _, _, rfl, rfl, (by show (0 : Int) < 2; decide), rfl, _, rfl, a, _, dx, _, rfl, upd_same, T.cl_Asked, T.n_Asked_is_odd, Nat.lt_of_le_of_lt (few (few few0)) (by decide), ?_⟩
  have eH : (V.int ((long : Int) / 2)) = V.int (((long / 2 : Nat)) : Int) := congrArg V.int (by omega)
  have eO : decide (V.int ((long : Int) % 2) = V.int 1) = decide (long % 2 = 1) := by
    rw [decide_eq_decide]
    exact ⟨fun z => by injection z with z; omega, fun z => congrArg V.int (by omega)⟩
  show tSeq _ _ _ _ (upd (upd (upd H3 a (.ins T.C_Asked dx (putF "worths" (.ref dw) []))) a (.ins T.C_Asked dx (putF "halves" (V.int ((long : Int) / 2)) (putF "worths" (.ref dw) [])))) a (.ins T.C_Asked dx (putF "is_odd" (.bl (decide (V.int ((long : Int) % 2) = V.int 1))) (putF "halves" (V.int ((long : Int) / 2)) (putF "worths" (.ref dw) [])))))
  rw [eH, eO]
  have k4 : ∀ c o, c ≠ a → H3 c = some o → (upd (upd (upd H3 a (.ins T.C_Asked dx (putF "worths" (.ref dw) []))) a (.ins T.C_Asked dx (putF "halves" (V.int (((long / 2 : Nat)) : Int)) (putF "worths" (.ref dw) [])))) a (.ins T.C_Asked dx (putF "is_odd" (.bl (decide (long % 2 = 1))) (putF "halves" (V.int (((long / 2 : Nat)) : Int)) (putF "worths" (.ref dw) []))))) c = some o := fun c o n e => by
    rw [upd_ne n, upd_ne n, upd_ne n]
    exact e
  have e4 : (upd (upd (upd H3 a (.ins T.C_Asked dx (putF "worths" (.ref dw) []))) a (.ins T.C_Asked dx (putF "halves" (V.int (((long / 2 : Nat)) : Int)) (putF "worths" (.ref dw) [])))) a (.ins T.C_Asked dx (putF "is_odd" (.bl (decide (long % 2 = 1))) (putF "halves" (V.int (((long / 2 : Nat)) : Int)) (putF "worths" (.ref dw) []))))) a = some (.ins T.C_Asked dx (putF "is_odd" (.bl (decide (long % 2 = 1))) (putF "halves" (V.int (((long / 2 : Nat)) : Int)) (putF "worths" (.ref dw) [])))) := upd_same
  revert k4 e4
  generalize upd (upd (upd H3 a (.ins T.C_Asked dx (putF "worths" (.ref dw) []))) a (.ins T.C_Asked dx (putF "halves" (V.int (((long / 2 : Nat)) : Int)) (putF "worths" (.ref dw) [])))) a (.ins T.C_Asked dx (putF "is_odd" (.bl (decide (long % 2 = 1))) (putF "halves" (V.int (((long / 2 : Nat)) : Int)) (putF "worths" (.ref dw) [])))) = H4
  intro k4 e4
  have nfa : fl ≠ a := fun z => by
    rw [z, ha3] at efl
    cases efl
  have nDa : D ≠ a := fun z => by
    have := s2 _ _ ha
    rw [← z, eD] at this
    cases this
  have efl4 := k4 _ _ nfa efl
  have eD4 := k4 _ _ nDa (s3 _ _ eD)
  have fys4 : FF (PrV H4) ys (pairsU u rs) := fys.mono fun v z ⟨t, h1, h2⟩ => ⟨t, h1, k4 _ _ (fun z => by rw [z, ha3] at h2; cases h2) h2⟩
  have hin4 : ∀ r ∈ rs, ∃ c, valV kin (Sum.inl r.num : Key) = some (.ref c) ∧ H4 c = some (.lst (ivs (innerN u rs r.num))) := fun r hr => by
    obtain ⟨c, h1, h2⟩ := hin H3 s3 r hr
    exact ⟨c, h1, k4 _ _ (fun z => by rw [z, ha3] at h2; cases h2) h2⟩
  have lz : ys.length = (pairsU u rs).length := fys4.len
  have lfnd : (pairsU u rs).length ≤ 1600 := by
    unfold pairsU
    rw [(srtP_perm _).length_eq]
    have := flat_len (pairsB_len u rs) rs
    have : rs.length * rs.length ≤ 40 * 40 := Nat.mul_le_mul hl hl
    unfold pairs0
    omega
  have nkk : ((pairsU u rs).map key2).Nodup := List.Pairwise.map _ (fun a b ne e => ne (key2_inj e)) (pairs_nd nd)
  refine ⟨_, rfl, fl, rfl, ⟨_, SqL.of efl4⟩, fun D5 hD5 => dcg_walkT (walk_list (K := K) (a := fl) (xs := ys)) hD5 (fun i _ x => ys[i]? = some x) (fun i H x H' h => h) (fun H' s => SqL.of (s _ _ efl4)) ((pairsU u rs).map key2) nkk (by rw [List.length_map, lz]) (by omega) (fun i v H => ∀ z, (pairsU u rs)[i]? = some z → ∃ c, v = .ref c ∧ RWi (akOf u rs long ws) z c H) (fun j v H1 H2 s h z hz => ?_) (fun i x kk H5 R C hx hk s5 hR => ?_) fun H5 ki s5 eD5 hki hPki => ?_⟩
  · obtain ⟨c, e, zs, h1, h2⟩ := h z hz
    exact ⟨c, e, zs, s _ _ (fun _ z => by cases z) h1, h2.mono fun v z ⟨t, h3, h4⟩ => ⟨t, h3, s _ _ (fun _ z => by cases z) h4⟩⟩
  · rw [List.getElem?_map, Option.map_eq_some_iff] at hk
    obtain ⟨z, hz, rfl⟩ := hk
    obtain ⟨x', hx', t, rfl, ht⟩ := fys4.at_ hz
    rw [hx'] at hx
    cases hx
    refine ⟨t, _, rfl, .inl (.inl (s5 _ _ ht)), rfl, _, _, rfl, _, _, rfl, rfl, ?_⟩
    refine ⟨rfl, yesT ⟨_, rfl, _, rfl, (by show 2 ≤ sizeLine; decide), fun tk htk => ?_⟩⟩
    obtain ⟨r1, hr1, r2, hr2, _, ez⟩ := pairs_mem (List.mem_of_getElem? hz)
    obtain ⟨cl, vl, hcl⟩ := hin4 r1 hr1
    obtain ⟨cr, vr, hcr⟩ := hin4 r2 hr2
    have e1 : r1.num = z.1 := by rw [ez]
    have e2 : r2.num = z.2 := by rw [ez]
    rw [e1] at vl hcl
    rw [e2] at vr hcr
    have zk := same_upd htk (o := .tup [.int z.1, .int z.2])
    have etk : (upd H5 tk (.tup [.int z.1, .int z.2])) tk = some (.tup [.int z.1, .int z.2]) := upd_same
    revert zk etk
    generalize upd H5 tk (.tup [.int z.1, .int z.2]) = H6
    intro zk etk
    have s46 := s5.trans zk
    refine ⟨_, rfl, fl, rfl, ⟨_, SqL.of (s46 _ _ efl4)⟩, fun D6 hD6 => lc_listR (K := K) (ts := pairsU u rs) hD6 (SqL.of (s46 _ _ efl4)) lz (by omega) (fun p => decide (p.1 ∈ innerN u rs z.1) && decide (p.2 ∈ innerN u rs z.2)) (fun v p H => PrV H v p) (fun v p H1 H2 s h => h.nl s) (fun j y p H7 R' C' hy hp s7 yes no => ?_) fun H7 acc s7 e7 f7 => ?_⟩
    · obtain ⟨y', hy', tp, rfl, htp⟩ := fys4.at_ hp
      rw [hy'] at hy
      cases hy
      have s47 := s46.trans s7
      refine ⟨rfl, _, rfl, tp, _, _, _, rfl, rfl, SqT.of (s47 _ _ htp), atI_nat (j := 0) rfl, _, rfl, _, rfl, D, _, rfl, .inl ⟨kin, Sum.inl z.1, .inl (s47 _ _ eD4), rfl, vl.symm⟩, cl, _, rfl, .inl (SqL.of (s47 _ _ hcl)), rfl, flat_ints _, _, rfl, ?_⟩
      have ei1 : inV (V.int p.1) (ivs (innerN u rs z.1)) = decide (p.1 ∈ innerN u rs z.1) := inV_ints _ _
      have ei2 : inV (V.int p.2) (ivs (innerN u rs z.2)) = decide (p.2 ∈ innerN u rs z.2) := inV_ints _ _
      show if inV (V.int p.1) (ivs (innerN u rs z.1)) = true then _ else _
      rw [ei1]
      cases h1 : decide (p.1 ∈ innerN u rs z.1) with
      | false =>
        rw [h1] at no
        exact iteF (iteF (no rfl _ (Same.refl _)))
      | true =>
        rw [h1, Bool.true_and] at yes no
        refine iteT ⟨_, rfl, tp, _, _, _, rfl, rfl, SqT.of (s47 _ _ htp), atI_nat (j := 1) rfl, _, rfl, _, rfl, D, _, rfl, .inl ⟨kin, Sum.inl z.2, .inl (s47 _ _ eD4), rfl, vr.symm⟩, cr, _, rfl, .inl (SqL.of (s47 _ _ hcr)), rfl, flat_ints _, _, rfl, ?_⟩
        show if inV (V.int p.2) (ivs (innerN u rs z.2)) = true then _ else _
        rw [ei2]
        cases h2 : decide (p.2 ∈ innerN u rs z.2) with
        | false => exact iteF (no h2 _ (Same.refl _))
        | true => exact iteT ⟨_, rfl, yes h2 _ _ (Same.refl _) ⟨tp, rfl, s47 _ _ htp⟩⟩
    · refine hR H7 tk _ (zk.trans s7) (s7 _ _ etk) fun z' hz' => ?_
      rw [hz] at hz'
      cases hz'
      exact ⟨D6, rfl, acc, e7, f7⟩
  · have hz : ∀ H6, (∀ c o, c ≠ a → H5 c = some o → H6 c = some o) → DctP H6 ki (pairsU u rs) (RWi (akOf u rs long ws)) := fun H6 k6 => ⟨hki, fun z hz => by
      obtain ⟨i, hi, ei⟩ := List.mem_iff_getElem.mp hz
      obtain ⟨v, hv, h⟩ := made_get nkk hki (P := fun j v => ∀ z, (pairsU u rs)[j]? = some z → ∃ c, v = .ref c ∧ RWi (akOf u rs long ws) z c H5) hPki (i := i) (k := key2 z) (by rw [List.getElem?_map, List.getElem?_eq_getElem hi, ei]; rfl)
      obtain ⟨c, rfl, zs, h1, h2⟩ := h z (by rw [List.getElem?_eq_getElem hi, ei])
      have na := s5 _ _ e4
      exact ⟨c, hv, zs, k6 _ _ (fun w => by rw [w, na] at h1; cases h1) h1, h2.mono fun v p ⟨t, h3, h4⟩ => ⟨t, h3, k6 _ _ (fun w => by rw [w, na] at h4; cases h4) h4⟩⟩⟩
    refine ⟨_, rfl, a, _, dx, _, rfl, s5 _ _ e4, T.cl_Asked, T.n_Asked_within, Nat.lt_of_le_of_lt (few (few (few few0))) (by decide), ?_⟩
    have k6 : ∀ c o, c ≠ a → H5 c = some o → (upd H5 a (.ins T.C_Asked dx (putF "within" (.ref D5) (putF "is_odd" (.bl (decide (long % 2 = 1))) (putF "halves" (V.int (((long / 2 : Nat)) : Int)) (putF "worths" (.ref dw) [])))))) c = some o := fun c o n e => by
      rw [upd_ne n]
      exact e
    have e6 : (upd H5 a (.ins T.C_Asked dx (putF "within" (.ref D5) (putF "is_odd" (.bl (decide (long % 2 = 1))) (putF "halves" (V.int (((long / 2 : Nat)) : Int)) (putF "worths" (.ref dw) [])))))) a = some (.ins T.C_Asked dx (putF "within" (.ref D5) (putF "is_odd" (.bl (decide (long % 2 = 1))) (putF "halves" (V.int (((long / 2 : Nat)) : Int)) (putF "worths" (.ref dw) []))))) := upd_same
    have kb : ∀ c o, c ≠ a → H c = some o → (upd H5 a (.ins T.C_Asked dx (putF "within" (.ref D5) (putF "is_odd" (.bl (decide (long % 2 = 1))) (putF "halves" (V.int (((long / 2 : Nat)) : Int)) (putF "worths" (.ref dw) [])))))) c = some o := fun c o n e => k6 _ _ n (s5 _ _ (k4 _ _ n (s03 _ _ e)))
    revert k6 e6 kb
    generalize upd H5 a (.ins T.C_Asked dx (putF "within" (.ref D5) (putF "is_odd" (.bl (decide (long % 2 = 1))) (putF "halves" (V.int (((long / 2 : Nat)) : Int)) (putF "worths" (.ref dw) []))))) = H6
    intro k6 e6 kb
    have hz6 := hz H6 k6
    have k46 : ∀ c o, c ≠ a → H4 c = some o → H6 c = some o := fun c o n e => k6 _ _ n (s5 _ _ e)
    have efl6 := k46 _ _ nfa efl4
    have eD6 := k46 _ _ nDa eD4
    have nD5a : D5 ≠ a := fun w => by rw [w, s5 _ _ e4] at eD5; cases eD5
    have eD56 := k6 _ _ nD5a eD5
    have hin6 : ∀ r ∈ rs, ∃ c, valV kin (Sum.inl r.num : Key) = some (.ref c) ∧ H6 c = some (.lst (ivs (innerN u rs r.num))) := fun r hr => by
      obtain ⟨c, h1, h2⟩ := hin4 r hr
      exact ⟨c, h1, k46 _ _ (fun w => by rw [w, e4] at h2; cases h2) h2⟩
    have fys6 : FF (PrV H6) ys (pairsU u rs) := fys4.mono fun v z ⟨t, h1, h2⟩ => ⟨t, h1, k46 _ _ (fun w => by rw [w, e4] at h2; cases h2) h2⟩
    refine ⟨_, rfl, fl, rfl, ⟨_, SqL.of efl6⟩, fun D7 hD7 => dcg_walkT (walk_list (K := K) (a := fl) (xs := ys)) hD7 (fun i _ x => ys[i]? = some x) (fun i H x H' h => h) (fun H' s => SqL.of (s _ _ efl6)) ((pairsU u rs).map key2) nkk (by rw [List.length_map, lz]) (by omega) (fun i v H => ∀ z, (pairsU u rs)[i]? = some z → ∃ c, v = .ref c ∧ RMi (akOf u rs long ws) z c H) (fun j v H1 H2 s h z hz => ?_) (fun i x kk H7 R C hx hk s7 hR => ?_) fun H7 km s7 eD7 hkm hPkm => ?_⟩
    · obtain ⟨c, e, h⟩ := h z hz
      exact ⟨c, e, s _ _ (fun _ z => by cases z) h⟩
    · rw [List.getElem?_map, Option.map_eq_some_iff] at hk
      obtain ⟨z, hz, rfl⟩ := hk
      obtain ⟨x', hx', t, rfl, ht⟩ := fys6.at_ hz
      rw [hx'] at hx
      cases hx
      refine ⟨t, _, rfl, .inl (.inl (s7 _ _ ht)), rfl, _, _, rfl, _, _, rfl, rfl, ?_⟩
      refine ⟨rfl, yesT ⟨_, rfl, _, rfl, (by show 2 ≤ sizeLine; decide), fun tk htk => ?_⟩⟩
      obtain ⟨r1, hr1, r2, hr2, _, ez⟩ := pairs_mem (List.mem_of_getElem? hz)
      obtain ⟨cl, vl, hcl⟩ := hin6 r1 hr1
      obtain ⟨cr, vr, hcr⟩ := hin6 r2 hr2
      have e1 : r1.num = z.1 := by rw [ez]
      have e2 : r2.num = z.2 := by rw [ez]
      rw [e1] at vl hcl
      rw [e2] at vr hcr
      have zk := same_upd htk (o := .tup [.int z.1, .int z.2])
      have etk : (upd H7 tk (.tup [.int z.1, .int z.2])) tk = some (.tup [.int z.1, .int z.2]) := upd_same
      revert zk etk
      generalize upd H7 tk (.tup [.int z.1, .int z.2]) = H8
      intro zk etk
      have s68 := s7.trans zk
      have linn : (innerN u rs z.1).length ≤ 40 := by
        rw [← e1, inner_at nd hr1]
        unfold innerU
        rw [List.length_map]
        exact Nat.le_trans (List.length_filter_le _ _) hl
      refine ⟨_, rfl, _, rfl, D, _, rfl, .inl ⟨kin, Sum.inl z.1, .inl (s68 _ _ eD6), rfl, vl.symm⟩, cl, rfl, ⟨_, SqL.of (s68 _ _ hcl)⟩, fun D8 hD8 => lc_listR (K := K) (ts := innerN u rs z.1) hD8 (SqL.of (s68 _ _ hcl)) (List.length_map ..) (by omega) (fun n => decide (n ∈ innerN u rs z.2)) (fun v n _ => v = .int n) (fun _ _ _ _ _ h => h) (fun j y n H9 R' C' hy hn s9 yes no => ?_) fun H9 acc s9 e9 f9 => ?_⟩
      · have hy' : (ivs (innerN u rs z.1))[j]? = some (.int n) := by
          unfold ivs
          rw [List.getElem?_map, hn]
          rfl
        rw [hy'] at hy
        cases hy
        have s69 := s68.trans s9
        refine ⟨rfl, _, rfl, _, rfl, _, rfl, D, _, rfl, .inl ⟨kin, Sum.inl z.2, .inl (s69 _ _ eD6), rfl, vr.symm⟩, cr, _, rfl, .inl (SqL.of (s69 _ _ hcr)), rfl, flat_ints _, _, rfl, ?_⟩
        have ei2 : inV (V.int n) (ivs (innerN u rs z.2)) = decide (n ∈ innerN u rs z.2) := inV_ints _ _
        show if inV (V.int n) (ivs (innerN u rs z.2)) = true then _ else _
        rw [ei2]
        cases h2 : decide (n ∈ innerN u rs z.2) with
        | false => exact iteF (no h2 _ (Same.refl _))
        | true => exact iteT ⟨_, rfl, yes h2 _ _ (Same.refl _) rfl⟩
      · refine hR H9 tk _ (zk.trans s9) (s9 _ _ etk) fun z' hz' => ?_
        rw [hz] at hz'
        cases hz'
        refine ⟨D8, rfl, ?_⟩
        show H9 D8 = some (.lst (ivs ((innerN u rs z.1).filter fun n => decide (n ∈ innerN u rs z.2))))
        rw [e9, f9.eq]
        rfl
    · refine ⟨_, rfl, a, _, dx, _, rfl, s7 _ _ e6, T.cl_Asked, T.n_Asked_middles, Nat.lt_of_le_of_lt (few (few (few (few few0)))) (by decide), ?_⟩
      have k8 : ∀ c o, c ≠ a → H7 c = some o → (upd H7 a (.ins T.C_Asked dx (putF "middles" (.ref D7) (putF "within" (.ref D5) (putF "is_odd" (.bl (decide (long % 2 = 1))) (putF "halves" (V.int (((long / 2 : Nat)) : Int)) (putF "worths" (.ref dw) []))))))) c = some o := fun c o n e => by
        rw [upd_ne n]
        exact e
      have e7a := s7 _ _ e6
      have nD7a : D7 ≠ a := fun w => by rw [w, e7a] at eD7; cases eD7
      have ndwa : dw ≠ a := fun w => by rw [w, ha] at hdw; cases hdw
      refine q _ ⟨dw, D5, D7, kw, ki, km, k8 _ _ nD5a (s7 _ _ eD56), ⟨(ne_of_none eD56 hD7).symm, ⟨dx, upd_same⟩, k8 _ _ ndwa (s7 _ _ (kb _ _ ndwa hdw)), ⟨hws.1, fun p hp => ?_⟩, .inl (k8 _ _ nD5a (s7 _ _ eD56)), ⟨hz6.1, fun z hz => ?_⟩, k8 _ _ nD7a eD7, ⟨hkm, fun z hz => ?_⟩⟩⟩ fun c o e n => k8 _ _ n (s7 _ _ (kb _ _ n e))
      · obtain ⟨c, h1, dc, h2⟩ := hws.2 p hp
        have nc : c ≠ a := fun w => by
          rw [w, ha] at h2
          have h2 := Option.some.inj h2
          injection h2 with _ _ h3
          have := congrArg (fun l => List.lookup ("num" : Str) l) h3
          rw [sf_num] at this
          cases this
        exact ⟨c, h1, dc, k8 _ _ nc (s7 _ _ (kb _ _ nc h2))⟩
      · obtain ⟨c, hv, zs, h1, h2⟩ := hz6.2 z hz
        exact ⟨c, hv, zs, k8 _ _ (fun w => by rw [w, e6] at h1; cases h1) (s7 _ _ h1), h2.mono fun v p ⟨t, h3, h4⟩ => ⟨t, h3, k8 _ _ (fun w => by rw [w, e6] at h4; cases h4) (s7 _ _ h4)⟩⟩
      · have hz : z ∈ pairsU u rs := hz
        obtain ⟨i, hi, ei⟩ := List.mem_iff_getElem.mp hz
        obtain ⟨v, hv, h⟩ := made_get nkk hkm (P := fun j v => ∀ z, (pairsU u rs)[j]? = some z → ∃ c, v = .ref c ∧ RMi (akOf u rs long ws) z c H7) hPkm (i := i) (k := key2 z) (by rw [List.getElem?_map, List.getElem?_eq_getElem hi, ei]; rfl)
        obtain ⟨c, rfl, h1⟩ := h z (by rw [List.getElem?_eq_getElem hi, ei])
        exact ⟨c, hv, k8 _ _ (fun w => by
          have h1 : H7 c = some (.lst (ivs ((akOf u rs long ws).mi z))) := h1
          rw [w, e7a] at h1
          cases h1) h1⟩
end
end KB
namespace KB
open PySem PySem.Spec PyProof.Rows L2 KA

section
variable {P : Program} {w : World} {K : PySem.W.Frag} {mg : Str → Option Value} {base : Heap}
theorem none_back {H H' : Hp} (s : Same H H') {a : Addr} (h : H' a = none) : H a = none := by
  cases e : H a with
  | none => rfl
  | some o => rw [s _ _ e] at h; cases h
/-- a share's address -/
def SV (C : Addr) (H : Hp) (v : V) (x : Sh) : Prop := ∃ p, v = .ref p ∧ ShAt C H p x
theorem SV.nl {C : Addr} {H H' : Hp} {v : V} {x : Sh} (h : SV C H v x) (s : NL H H') : SV C H' v x := by
  obtain ⟨p, e, h⟩ := h
  exact ⟨p, e, h.same s⟩
theorem PrV.same {H H' : Hp} {v : V} {z : Pr} (h : PrV H v z) (s : Same H H') : PrV H' v z := h.nl (NL.of s)
theorem AkIn.same {CA CS : Addr} {H H' : Hp} {a dw di dm : Addr} {kw : List (Key × V)} {ki km : List (List Key × V)} {k : Ak} (h : AkIn CA CS H a dw di dm kw ki km k) (s : Same H H') : AkIn CA CS H' a dw di dm kw ki km k := by
  obtain ⟨h8, ⟨dx, h1⟩, h2, h3, h4, h5, h6, h7⟩ := h
  refine ⟨h8, ⟨dx, s _ _ h1⟩, s _ _ h2, ⟨h3.1, fun p hp => ?_⟩, ?_, ⟨h5.1, fun z hz => ?_⟩, s _ _ h6, ⟨h7.1, fun z hz => ?_⟩⟩
  · obtain ⟨c, e1, e2⟩ := h3.2 p hp
    exact ⟨c, e1, e2.same (NL.of s)⟩
  · rcases h4 with h4 | ⟨o, h4⟩
    · exact .inl (s _ _ h4)
    · exact .inr ⟨o, s _ _ h4⟩
  · obtain ⟨c, e1, ys, e2, e3⟩ := h5.2 z hz
    exact ⟨c, e1, ys, s _ _ e2, e3.mono fun v p h => h.same s⟩
  · obtain ⟨c, e1, e2⟩ := h7.2 z hz
    exact ⟨c, e1, s _ _ e2⟩
/-- within locked -/
theorem AkIn.lock {CA CS : Addr} {H : Hp} {a dw di dm : Addr} {kw : List (Key × V)} {ki km : List (List Key × V)} {k : Ak} (h : AkIn CA CS H a dw di dm kw ki km k) (e : H di = some (.dT ki)) (od : Obj) : AkIn CA CS (upd H di (.frz od (.dT ki))) a dw di dm kw ki km k := by
  obtain ⟨h8, ⟨dx, h1⟩, h2, h3, h4, h5, h6, h7⟩ := h
  have kp : ∀ c o, H c = some o → (∀ l, o ≠ .dT l) → (upd H di (.frz od (.dT ki))) c = some o := fun c o hc n => locked hc fun z => by
    rw [z, e] at hc
    exact n _ (Option.some.inj hc).symm
  refine ⟨h8, ⟨dx, kp _ _ h1 (fun _ z => by cases z)⟩, kp _ _ h2 (fun _ z => by cases z), ⟨h3.1, fun p hp => ?_⟩, .inr ⟨od, upd_same⟩, ⟨h5.1, fun z hz => ?_⟩, locked h6 h8, ⟨h7.1, fun z hz => ?_⟩⟩
  · obtain ⟨c, e1, dc, e2⟩ := h3.2 p hp
    exact ⟨c, e1, dc, kp _ _ e2 (fun _ z => by cases z)⟩
  · obtain ⟨c, e1, ys, e2, e3⟩ := h5.2 z hz
    exact ⟨c, e1, ys, kp _ _ e2 (fun _ z => by cases z), e3.mono fun v p ⟨t, h3, h4⟩ => ⟨t, h3, kp _ _ h4 (fun _ z => by cases z)⟩⟩
  · obtain ⟨c, e1, e2⟩ := h7.2 z hz
    exact ⟨c, e1, kp _ _ e2 (fun _ z => by cases z)⟩
/-! ### what a pair goes on by -/
def findQ (qs : List (Pr × Sh)) (z : Pr) : Option Sh := (qs.find? fun p => decide (p.1 = z)).map Prod.snd
def worthK (k : Ak) (n : Int) : Sh := ((k.ws.find? fun p => decide (p.1 = n)).map Prod.snd).getD (0, 1)
def goesOn (k : Ak) (z : Pr) (out : Nat) (qs : List (Pr × Sh)) : List Sh :=
  if out + 1 < k.hv then ((k.wi z).filter fun o => (findQ qs o).isSome).map fun o => (findQ qs o).getD (0, 1)
  else if k.od = true then (k.mi z).map (worthK k) else [(0, 1)]
/-- a dict from pairs to shares -/
def DctQ (CS : Addr) (H : Hp) (kvs : List (List Key × V)) (qs : List (Pr × Sh)) : Prop := kvs.map Prod.fst = qs.map (fun p => key2 p.1) ∧ ∀ p ∈ qs, ∃ a, valV kvs (key2 p.1) = some (.ref a) ∧ ShAt CS H a p.2
theorem DctQ.nl {CS : Addr} {H H' : Hp} {kvs : List (List Key × V)} {qs : List (Pr × Sh)} (h : DctQ CS H kvs qs) (s : NL H H') : DctQ CS H' kvs qs := ⟨h.1, fun p hp => by
  obtain ⟨a, e1, e2⟩ := h.2 p hp
  exact ⟨a, e1, e2.same s⟩⟩
theorem findQ_none {qs : List (Pr × Sh)} {z : Pr} (h : findQ qs z = none) : z ∉ qs.map Prod.fst := fun m => by
  unfold findQ at h
  rw [Option.map_eq_none_iff, List.find?_eq_none] at h
  obtain ⟨p, hp, e⟩ := List.mem_map.mp m
  exact h p hp (by simpa using e)
theorem findQ_some {qs : List (Pr × Sh)} {z : Pr} {x : Sh} (h : findQ qs z = some x) : (z, x) ∈ qs := by
  unfold findQ at h
  obtain ⟨p, hp, e⟩ := Option.map_eq_some_iff.mp h
  have e1 := List.find?_some hp
  have e2 : p.1 = z := by simpa using e1
  have := List.mem_of_find?_eq_some hp
  rw [← e, ← e2]
  exact this
theorem DctQ.get {CS : Addr} {H : Hp} {kvs : List (List Key × V)} {qs : List (Pr × Sh)} (h : DctQ CS H kvs qs) (z : Pr) : (findQ qs z = none ∧ valV kvs (key2 z) = none) ∨ ∃ x a, findQ qs z = some x ∧ valV kvs (key2 z) = some (.ref a) ∧ ShAt CS H a x := by
  cases hq : findQ qs z with
  | none =>
    refine .inl ⟨rfl, ?_⟩
    have nm := findQ_none hq
    have h0 : (valV kvs (key2 z)).isSome = false := by
      rw [← valV_any]
      refine Bool.eq_false_iff.mpr fun c => ?_
      obtain ⟨p, hp, e⟩ := List.any_eq_true.mp c
      have hm : key2 z ∈ qs.map fun p => key2 p.1 := by
        rw [← h.1, ← of_decide_eq_true e]
        exact List.mem_map_of_mem hp
      obtain ⟨q, hq, e⟩ := List.mem_map.mp hm
      exact nm (by rw [← key2_inj e]; exact List.mem_map_of_mem hq)
    cases e : valV kvs (key2 z) with
    | none => rfl
    | some _ => rw [e] at h0; cases h0
  | some x =>
    obtain ⟨a, e1, e2⟩ := h.2 _ (findQ_some hq)
    exact .inr ⟨x, a, rfl, e1, e2⟩
structure GoodAk (k : Ak) : Prop where
  wn : (k.ws.map Prod.fst).Nodup
  wl : k.ws.length ≤ 40
  wo : ∀ p ∈ k.ws, Ok 110 p.2
  fn : k.fnd.Nodup
  fl : k.fnd.length ≤ 1200
  ends : ∀ z ∈ k.fnd, z.1 ∈ k.ws.map Prod.fst ∧ z.2 ∈ k.ws.map Prod.fst
  wi : ∀ z ∈ k.fnd, (k.wi z).length ≤ 1600 ∧ ∀ p ∈ k.wi z, p ∈ k.fnd
  mi : ∀ z ∈ k.fnd, (k.mi z).length ≤ 40 ∧ ∀ n ∈ k.mi z, n ∈ k.ws.map Prod.fst
  hv : k.hv ≤ 8
theorem worth_at {CS : Addr} {H : Hp} {kw : List (Key × V)} {k : Ak} (h : DctS CS H kw k.ws) {n : Int} (hn : n ∈ k.ws.map Prod.fst) : ∃ a, valV kw (Sum.inl n : Key) = some (.ref a) ∧ ShAt CS H a (worthK k n) := by
  unfold worthK
  cases hf : k.ws.find? (fun p => decide (p.1 = n)) with
  | none =>
    rw [List.find?_eq_none] at hf
    obtain ⟨p, hp, e⟩ := List.mem_map.mp hn
    exact absurd (by simpa using e) (hf p hp)
  | some p =>
    have e1 := List.find?_some hf
    have e2 : p.1 = n := by simpa using e1
    obtain ⟨a, h1, h2⟩ := h.2 p (List.mem_of_find?_eq_some hf)
    rw [e2] at h1
    exact ⟨a, h1, h2⟩
def spGoesOn (CA CS : Addr) : Sp := fun vs H Q _ => ∃ (a t d2 dw di dm : Addr) (out : Nat) (kw : List (Key × V)) (ki km kin : List (List Key × V)) (k : Ak) (z : Pr) (qs : List (Pr × Sh)), vs = [.ref a, .ref t, .int (out : Int), .ref d2] ∧ AkIn CA CS H a dw di dm kw ki km k ∧ GoodAk k ∧ H t = some (.tup [.int z.1, .int z.2]) ∧ z ∈ k.fnd ∧ H d2 = some (.dT kin) ∧ DctQ CS H kin qs ∧
  ∀ (H' : Hp) (l : Addr) (acc : List V), Same H H' → H l = none → H' l = some (.lst acc) → FF (SV CS H') acc (goesOn k z out qs) → Q (.ref l) H'
theorem ok_Asked_goes_on_by (T : Tx K mg) : FnOk P w K mg base CX0 5 T.A_Asked_goes_on_by T.fd_Asked_goes_on_by ["self", "pair", "out", "inner"] (spGoesOn T.C_Asked T.C_Share) := by
  refine T.F_Asked_goes_on_by.ok sc_Asked_goes_on_by (fun vs H Q E h => ?_) (fun cdv A outer s H vs Q E hr h => ?_)
  · obtain ⟨a, t, d2, dw, di, dm, out, kw, ki, km, kin, k, z, qs, rfl, hA, hG, ht, hz, hd2, hQ, q⟩ := h
    rfl
  obtain ⟨a, t, d2, dw, di, dm, out, kw, ki, km, kin, k, z, qs, rfl, hA, hG, ht, hz, hd2, hQ, q⟩ := h
  refine ⟨_, (pss_cons (ps_if (pt_cmpR op_lt (pe_op op_add (pv 2) pe_int) (pe_fld (pv 0) rfl) (nomark _)) (pss_one (ps_ret (pe_lc (own := [("other", 4)]) (g := gName 4) (tt := _) rfl sc_Asked_goes_on_by.nd (pi_list (pe_dget (Nat.lt_of_le_of_lt (Nat.add_le_add_left (by decide) _) hr.units) (pe_fld (pv 0) rfl) (pv 1) (fun _ _ => rfl))) (blkOk_by (N := ["self", "pair", "out", "inner", "other", "number"]) (sc := defScope s_Asked_goes_on_by) (by decide +kernel)) (fun _ _ _ _ _ => (pg_name (i := 4) sc_Asked_goes_on_by.nd rfl (Or.inl rfl))) (fun _ _ _ _ _ => (pts_one (pt_cmp (pc_din (Nat.lt_of_le_of_lt (Nat.add_le_add_left (by decide) _) hr.units) (pv 4) (pv 3))))) (fun _ _ _ _ _ => (pe_dget (Nat.lt_of_le_of_lt (Nat.add_le_add_left (by decide) _) hr.units) (pv 3) (pv 4) (fun _ _ => rfl)))))) pss_nil)
      (pss_cons (ps_if (pt_val (pe_fld (pv 0) rfl)) (pss_one (ps_ret (pe_lc (own := [("number", 5)]) (g := gName 5) (tt := tYes) rfl sc_Asked_goes_on_by.nd (pi_list (pe_dget (Nat.lt_of_le_of_lt (Nat.add_le_add_left (by decide) _) hr.units) (pe_fld (pv 0) rfl) (pv 1) (fun _ _ => rfl))) (blkOk_by (N := ["self", "pair", "out", "inner", "other", "number"]) (sc := defScope s_Asked_goes_on_by) (by decide +kernel)) (fun _ _ _ _ _ => (pg_name (i := 5) sc_Asked_goes_on_by.nd rfl (Or.inl rfl))) (fun _ _ _ _ _ => pts_nil) (fun _ _ _ _ _ => (pe_dget (Nat.lt_of_le_of_lt (Nat.add_le_add_left (by decide) _) hr.units) (pe_fldK (K' := K) rfl (pv 0) rfl) (pv 5) (fun _ _ => rfl)))))) pss_nil)
      (pss_one (ps_ret (pe_lst (pa_cons (pe_make T.mk_Share (ok_Share_init T) (hr.mono (by decide)) (by rfl) T.g_Share T.bd1_Share T.hd1_Share passF (pa_cons pe_int pa_nil)) pa_nil)))))), ?_⟩
  obtain ⟨_, ⟨dx, ha⟩, hw, hdw, hi, hdi, hm, hdm⟩ := id hA
  have eg : goesOn k z out qs = if out + 1 < k.hv then ((k.wi z).filter fun o => (findQ qs o).isSome).map fun o => (findQ qs o).getD (0, 1) else if k.od = true then (k.mi z).map (worthK k) else [(0, 1)] := rfl
  refine ⟨_, rfl, _, _, rfl, rfl, _, rfl, a, _, dx, _, _, rfl, ha, T.cl_Asked, T.n_Asked_halves, af_halves .., _, _, rfl, rfl, _, rfl, ?_⟩
  by_cases h1 : out + 1 < k.hv
  · rw [decide_eq_true (show (out : Int) + 1 < (k.hv : Int) by omega)]
    rw [if_pos h1] at eg
    obtain ⟨ca, hca, ys, hys, fys⟩ := hdi.2 z hz
    refine iteT ⟨_, rfl, a, _, dx, _, _, rfl, ha, T.cl_Asked, T.n_Asked_within, af_within .., _, rfl, di, _, rfl, .inr ⟨ki, key2 z, t, hi, rfl, ht, hca.symm⟩, ca, rfl, ⟨_, SqL.of hys⟩, fun D hD => lc_listR (K := K) (ts := k.wi z) hD (SqL.of hys) fys.len (by have := (hG.wi z hz).1; omega) (fun o => (findQ qs o).isSome) (fun v o H => SV T.C_Share H v ((findQ qs o).getD (0, 1))) (fun v o H1 H2 s h => h.nl s) (fun j y o H3 R C hy ho s3 yes no => ?_) fun H3 acc s3 e3 f3 => ?_⟩
    · obtain ⟨y', hy', to, rfl, hto⟩ := fys.at_ ho
      rw [hy'] at hy
      cases hy
      have gt : ∀ r, valV kin (key2 o) = r → DGet H3 d2 (.ref to) r := fun r e => .inr ⟨kin, key2 o, to, .inl (s3 _ _ hd2), rfl, s3 _ _ hto, e.symm⟩
      rcases hQ.get o with ⟨e1, e2⟩ | ⟨x, b, e1, e2, e3⟩
      · rw [e1] at no
        exact ⟨rfl, _, rfl, _, rfl, d2, _, rfl, gt _ e2, _, rfl, iteF (no rfl _ (Same.refl _))⟩
      · rw [e1] at yes
        refine ⟨rfl, _, rfl, _, rfl, d2, _, rfl, gt _ e2, _, rfl, iteT ⟨_, rfl, _, rfl, d2, _, rfl, gt _ e2, yes rfl _ _ (Same.refl _) ⟨b, rfl, e3.same (NL.of s3)⟩⟩⟩
    · refine q H3 D acc s3 hD e3 ?_
      rw [eg]
      exact FF.map (R := SV T.C_Share H3) f3
  rw [decide_eq_false (show ¬ (out : Int) + 1 < (k.hv : Int) by omega)]
  rw [if_neg h1] at eg
  refine iteF ⟨_, rfl, a, _, dx, _, _, rfl, ha, T.cl_Asked, T.n_Asked_is_odd, af_odd .., _, rfl, ?_⟩
  cases h2 : k.od with
  | true =>
    rw [if_pos h2] at eg
    obtain ⟨ca, hca, hcm⟩ := hdm.2 z hz
    refine iteT ⟨_, rfl, a, _, dx, _, _, rfl, ha, T.cl_Asked, T.n_Asked_middles, af_middles .., _, rfl, dm, _, rfl, .inr ⟨km, key2 z, t, .inl hm, rfl, ht, hca.symm⟩, ca, rfl, ⟨_, SqL.of hcm⟩, fun D hD => lc_listR (K := K) (ts := k.mi z) hD (SqL.of hcm) (List.length_map ..) (by have := (hG.mi z hz).1; omega) (fun _ => true) (fun v n H => SV T.C_Share H v (worthK k n)) (fun v o H1 H2 s h => h.nl s) (fun j y n H3 R C hy hn s3 yes no => ?_) fun H3 acc s3 e3 f3 => ?_⟩
    · have hy' : (ivs (k.mi z))[j]? = some (.int n) := by
        unfold ivs
        rw [List.getElem?_map, hn]
        rfl
      rw [hy'] at hy
      cases hy
      obtain ⟨b, e1, e2⟩ := worth_at hdw ((hG.mi z hz).2 n (List.mem_of_getElem? hn))
      refine ⟨rfl, yesT ⟨_, rfl, a, _, dx, _, _, rfl, s3 _ _ ha, T.cl_Asked, T.n_Asked_worths, af_worths .., _, rfl, dw, _, rfl, .inl ⟨kw, Sum.inl n, .inl (s3 _ _ hw), rfl, e1.symm⟩, yes rfl _ _ (Same.refl _) ⟨b, rfl, e2.same (NL.of s3)⟩⟩⟩
    · refine q H3 D acc s3 hD e3 ?_
      rw [eg]
      rw [List.filter_eq_self.mpr fun _ _ => rfl] at f3
      exact FF.map (R := SV T.C_Share H3) f3
  | false =>
    rw [if_neg (by rw [h2]; exact Bool.false_ne_true)] at eg
    refine iteF fun x xx hx hxx hne => ⟨x, xx, 0, 1, 1, rfl, upd_same, (show (1 : Int).natAbs < 2 ^ 1 by decide), by decide, fun _ H1 h1 k1 => ⟨rfl, (by show 1 ≤ sizeLine; decide), fun l hl => ?_⟩, fun z => absurd z (by decide)⟩
    refine q _ l [.ref x] ((made_same hx hxx k1).trans (same_upd hl)) ?_ upd_same ?_
    · exact none_back (made_same hx hxx k1) hl
    · rw [eg]
      exact .cons ⟨x, rfl, h1.same (NL.of (same_upd hl))⟩ .nil
end
end KB
namespace KB
open PySem PySem.Spec PyProof.Rows L2 KA

section
variable {P : Program} {w : World} {K : PySem.W.Frag} {mg : Str → Option Value} {base : Heap}
theorem Ok.mono {k m : Nat} {x : Sh} (h : Ok k x) (e : k ≤ m) : Ok m x := ⟨h.1, h.2.1.mono e, h.2.2.mono e⟩
theorem plus_szG {k m : Nat} {x y : Sh} (hx : Ok k x) (hy : Ok m y) : Ok (k + m + 1) (fPlus x y) := by
  obtain ⟨x0, x1, x2⟩ := hx
  obtain ⟨y0, y1, y2⟩ := hy
  have d0 : x.2 * y.2 ≠ 0 := Int.mul_ne_zero (by omega) (by omega)
  have a := x1.mul y2
  have b := y1.mul x2
  have c := Sz.add a (b.mono (by omega : m + k ≤ k + m))
  have d := (x2.mul y2).mono (by omega : k + m ≤ k + m + 1)
  have z := shr_sz d0 c d
  exact ⟨shr_pos d0, z.1, z.2⟩
def worthWith (k : Ak) (z : Pr) (x : Sh) : Sh := fPlus (fPlus (worthK k z.1) (worthK k z.2)) x
theorem worthK_ok {k : Ak} (hG : GoodAk k) (n : Int) : Ok 110 (worthK k n) := by
  unfold worthK
  cases hf : k.ws.find? (fun p => decide (p.1 = n)) with
  | none => exact ok01
  | some p => exact hG.wo p (List.mem_of_find?_eq_some hf)
theorem worthWith_ok {k : Ak} (hG : GoodAk k) (z : Pr) {x : Sh} {m : Nat} (h : Ok m x) : Ok (m + 222) (worthWith k z x) := by
  have := plus_szG (plus_szG (worthK_ok hG z.1) (worthK_ok hG z.2)) h
  exact this.mono (by omega)
def spWorthWith (CA CS : Addr) : Sp := fun vs H Q _ => ∃ (a t s dw di dm : Addr) (kw : List (Key × V)) (ki km : List (List Key × V)) (k : Ak) (z : Pr) (x : Sh) (m : Nat), vs = [.ref a, .ref t, .ref s] ∧ AkIn CA CS H a dw di dm kw ki km k ∧ GoodAk k ∧ H t = some (.tup [.int z.1, .int z.2]) ∧ z ∈ k.fnd ∧ ShAt CS H s x ∧ Ok m x ∧ m ≤ 1800 ∧
  ∀ (H' : Hp) (r : Addr), Same H H' → ShAt CS H' r (worthWith k z x) → Q (.ref r) H'
theorem ok_Asked_worth_with (T : Tx K mg) : FnOk P w K mg base CX0 6 T.A_Asked_worth_with T.fd_Asked_worth_with ["self", "pair", "share"] (spWorthWith T.C_Asked T.C_Share) := by
  refine T.F_Asked_worth_with.ok sc_Asked_worth_with (fun vs H Q E h => ?_) (fun cdv A outer s H vs Q E hr h => ?_)
  · obtain ⟨a, t, s, dw, di, dm, kw, ki, km, k, z, x, m, rfl, hA, hG, ht, hz, hs, hx, hm, q⟩ := h
    rfl
  obtain ⟨a, t, s, dw, di, dm, kw, ki, km, k, z, x, m, rfl, hA, hG, ht, hz, hs, hx, hm, q⟩ := h
  refine ⟨_, (pss_one (ps_ret (pe_meth (pe_meth (pe_dget (Nat.lt_of_le_of_lt (Nat.add_le_add_left (by decide) _) hr.units) (pe_fld (pv 0) rfl) (pe_ix ix_tup (pv 1) pe_int (fun _ _ => rfl)) (fun _ _ => rfl)) T.cl_Share T.m_Share_plus (ok_Share_plus T) (hr.mono (by decide)) T.b_Share_plus .nil pass0 (pa_cons (pe_dget (Nat.lt_of_le_of_lt (Nat.add_le_add_left (by decide) _) hr.units) (pe_fld (pv 0) rfl) (pe_ix ix_tup (pv 1) pe_int (fun _ _ => rfl)) (fun _ _ => rfl)) pa_nil)) T.cl_Share T.m_Share_plus (ok_Share_plus T) (hr.mono (by decide)) T.b_Share_plus .nil pass0 (pa_cons (pv 2) pa_nil)))), ?_⟩
  obtain ⟨_, ⟨dx, ha⟩, hw, hdw, hi, hdi, hm', hdm⟩ := id hA
  obtain ⟨b1, e1, h1⟩ := worth_at hdw (hG.ends z hz).1
  obtain ⟨b2, e2, h2⟩ := worth_at hdw (hG.ends z hz).2
  obtain ⟨d1, f1⟩ := id h1
  refine ⟨_, rfl, a, _, dx, _, _, rfl, ha, T.cl_Asked, T.n_Asked_worths, af_worths .., _, rfl, t, _, 0, _, rfl, rfl, SqT.of ht, rfl, dw, _, rfl, .inl ⟨kw, Sum.inl z.1, .inl hw, rfl, e1.symm⟩, b1, d1, _, rfl, f1, sf_no _ (by decide +kernel) (by decide +kernel), ?_⟩
  refine ⟨_, rfl, a, _, dx, _, _, rfl, ha, T.cl_Asked, T.n_Asked_worths, af_worths .., _, rfl, t, _, 1, _, rfl, rfl, SqT.of ht, rfl, dw, _, rfl, .inl ⟨kw, Sum.inl z.2, .inl hw, rfl, e2.symm⟩, ?_⟩
  refine ⟨b1, b2, _, _, 110, 110, rfl, h1, h2, worthK_ok hG _, worthK_ok hG _, by decide, by decide, fun H1 r1 s1 h3 => ?_⟩
  obtain ⟨d3, f3⟩ := id h3
  exact ⟨r1, d3, _, rfl, f3, sf_no _ (by decide +kernel) (by decide +kernel), _, rfl, r1, s, _, x, 221, m, rfl, h3, hs.same (NL.of s1), plus_szG (worthK_ok hG _) (worthK_ok hG _), hx, by decide, by omega, fun H2 r2 s2 h4 => q H2 r2 (s1.trans s2) h4⟩
def belowS (x y : Sh) : Bool := decide (x.1 * y.2 < y.1 * x.2)
def great (l : List Sh) : Sh := l.foldl (fun f s => if belowS f s = true then s else f) (l.headD (0, 1))
theorem fold_of {p : Sh → Prop} : ∀ (l : List Sh) (f : Sh), p f → (∀ s ∈ l, p s) → p (l.foldl (fun f s => if belowS f s = true then s else f) f)
  | [], _, h, _ => h
  | s :: l, f, h, hl => fold_of l _ (by
    show p (if belowS f s = true then s else f)
    by_cases c : belowS f s = true
    · rw [if_pos c]
      exact hl s (List.mem_cons_self ..)
    · rw [if_neg c]
      exact h) fun t ht => hl t (List.mem_cons_of_mem _ ht)
def spGreatest (K : PySem.W.Frag) (CS : Addr) : Sp := fun vs H Q _ => ∃ (l : Addr) (xs : List V) (ls : List Sh) (m : Nat), vs = [.ref l] ∧ SqL K H l xs ∧ FF (SV CS H) xs ls ∧ ls ≠ [] ∧ (∀ s ∈ ls, Ok m s) ∧ m ≤ 2000 ∧
  ∀ (r : Addr), ShAt CS H r (great ls) → Q (.ref r) H
theorem ok_greatest (T : Tx K mg) : FnOk P w K mg base CX0 2 T.A_greatest T.fd_greatest ["shares"] (spGreatest K T.C_Share) := by
  refine T.F_greatest.ok sc_greatest (fun vs H Q E h => ?_) (fun cdv A outer s H vs Q E hr h => ?_)
  · obtain ⟨l, xs, ls, m, rfl, hS, hF, hne, hO, hm, q⟩ := h
    rfl
  obtain ⟨l, xs, ls, m, rfl, hS, hF, hne, hO, hm, q⟩ := h
  refine ⟨_, (pss_cons (ps_set (i := 1) sc_greatest.nd rfl (Or.inl rfl) (pe_ix ix_list (pv 0) pe_int (fun _ _ => rfl)))
      (pss_cons (ps_for PassesOwn.never rfl (pi_list (pv 0)) (pg_name (i := 2) sc_greatest.nd rfl (Or.inl rfl))
        (pss_one (ps_if (pt_val (pe_meth (pv 1) T.cl_Share T.m_Share_is_below (ok_Share_is_below T) (hr.mono (by decide)) T.b_Share_is_below .nil pass0 (pa_cons (pv 2) pa_nil))) (pss_one (ps_set (i := 1) sc_greatest.nd rfl (Or.inl rfl) (pv 2))) pss_nil)))
      (pss_one (ps_ret (pv 1))))), ?_⟩
  obtain ⟨s0, ls0, rfl⟩ : ∃ s0 ls0, ls = s0 :: ls0 := by
    cases ls with
    | nil => exact absurd rfl hne
    | cons s0 ls0 => exact ⟨s0, ls0, rfl⟩
  obtain ⟨v0, hv0, r0, rfl, h0⟩ := hF.at_ (i := 0) (y := s0) rfl
  refine ⟨_, rfl, l, xs, 0, _, rfl, rfl, hS, atI_nat (j := 0) hv0, ?_⟩
  refine ⟨_, rfl, l, rfl, ⟨_, hS⟩, for_list (K := K) (a := l) (xs := xs) (fun i σ H' => ∃ (r : Addr) (w2 : Option V), σ = [some (.ref l), some (.ref r), w2] ∧ H' = H ∧ ShAt T.C_Share H r (((s0 :: ls0).take i).foldl (fun f s => if belowS f s = true then s else f) s0)) ⟨r0, _, rfl, rfl, h0⟩ (fun i σ H' _ h => ?_) ?_ ?_⟩
  · obtain ⟨_, _, _, e, _⟩ := h
    rw [e]
    exact hS
  · rintro i x σ H2 hi ⟨r, w2, rfl, rfl, hr'⟩
    obtain ⟨y, hy, p, rfl, hp⟩ := hF.get hi
    obtain ⟨dr, fr⟩ := id hr'
    have hf := fold_of (p := fun s => Ok m s) ((s0 :: ls0).take i) s0 (hO s0 (List.mem_cons_self ..)) fun s hs => hO s (List.mem_of_mem_take hs)
    refine ⟨_, rfl, r, dr, _, rfl, fr, sf_no _ (by decide +kernel) (by decide +kernel), _, rfl, r, p, _, y, m, m, rfl, hr', hp, hf, hO y (List.mem_of_getElem? hy), hm, hm, ?_⟩
    have tk : ∀ z, ((s0 :: ls0).take (i + 1)).foldl (fun f s => if belowS f s = true then s else f) s0 = z → z = if belowS (((s0 :: ls0).take i).foldl (fun f s => if belowS f s = true then s else f) s0) y = true then y else ((s0 :: ls0).take i).foldl (fun f s => if belowS f s = true then s else f) s0 := fun z e => by
      rw [← e, List.take_add_one, hy, List.foldl_append]
      rfl
    generalize ((s0 :: ls0).take i).foldl (fun f s => if belowS f s = true then s else f) s0 = f at *
    have tk := tk _ rfl
    cases c : belowS f y with
    | true =>
      rw [c, if_pos rfl] at tk
      rw [show decide (f.1 * y.2 < y.1 * f.2) = true from c]
      refine ⟨_, rfl, iteT ⟨_, rfl, p, _, rfl, rfl, ?_⟩⟩
      rw [tk]
      exact hp
    | false =>
      rw [c, if_neg Bool.false_ne_true] at tk
      rw [show decide (f.1 * y.2 < y.1 * f.2) = false from c]
      refine ⟨_, rfl, iteF ⟨r, _, rfl, rfl, ?_⟩⟩
      rw [tk]
      exact hr'
  · rintro σ H2 ⟨r, w2, rfl, rfl, hr'⟩
    rw [hF.len, List.take_length] at hr'
    exact ⟨_, rfl, q r hr'⟩
end
end KB
namespace KB
open PySem PySem.Spec PyProof.Rows L2 KA

section
variable {P : Program} {w : World} {K : PySem.W.Frag} {mg : Str → Option Value} {base : Heap}
/-! ### the rows -/
def one1 (k : Ak) (out : Nat) (qs : List (Pr × Sh)) (z : Pr) : Option (Pr × Sh) := if goesOn k z out qs = [] then none else some (z, worthWith k z (great (goesOn k z out qs)))
def hereL (k : Ak) (out : Nat) (qs : List (Pr × Sh)) (zs : List Pr) : List (Pr × Sh) := zs.filterMap (one1 k out qs)
theorem here_snoc (k : Ak) (out : Nat) (qs : List (Pr × Sh)) (zs : List Pr) (z : Pr) : hereL k out qs (zs ++ [z]) = hereL k out qs zs ++ (match one1 k out qs z with | none => [] | some p => [p]) := by
  unfold hereL
  rw [List.filterMap_append]
  cases e : one1 k out qs z with
  | none => rw [List.filterMap_cons_none e]; rfl
  | some p => rw [List.filterMap_cons_some e]; rfl
theorem here_sub (k : Ak) (out : Nat) (qs : List (Pr × Sh)) : ∀ zs, ((hereL k out qs zs).map Prod.fst).Sublist zs
  | [] => List.Sublist.refl _
  | z :: zs => by
    unfold hereL
    have ih := here_sub k out qs zs
    unfold hereL at ih
    by_cases c : goesOn k z out qs = []
    · rw [List.filterMap_cons_none (show one1 k out qs z = none from if_pos c)]
      exact ih.cons _
    · rw [List.filterMap_cons_some (show one1 k out qs z = some _ from if_neg c)]
      exact ih.cons₂ _
def lvl (k : Ak) : Nat → List (Pr × Sh)
  | 0 => []
  | i + 1 => hereL k (k.hv - 1 - i) (lvl k i) k.fnd
def rowsL (k : Ak) : Nat → List (Pr × Nat × Sh)
  | 0 => []
  | i + 1 => (lvl k (i + 1)).map (fun p => (p.1, k.hv - 1 - i, p.2)) ++ rowsL k i
theorem goesOn_ok {k : Ak} (hG : GoodAk k) {z : Pr} {out : Nat} {qs : List (Pr × Sh)} {m : Nat} (hq : ∀ p ∈ qs, Ok m p.2) (hm : 110 ≤ m) : ∀ s ∈ goesOn k z out qs, Ok m s := by
  intro s hs
  unfold goesOn at hs
  by_cases h1 : out + 1 < k.hv
  · rw [if_pos h1] at hs
    obtain ⟨o, ho, e⟩ := List.mem_map.mp hs
    have ho := (List.mem_filter.mp ho).2
    cases hf : findQ qs o with
    | none => rw [hf] at ho; cases ho
    | some x =>
      rw [hf] at e
      rw [← e]
      exact hq _ (findQ_some hf)
  · rw [if_neg h1] at hs
    by_cases h2 : k.od = true
    · rw [if_pos h2] at hs
      obtain ⟨n, _, e⟩ := List.mem_map.mp hs
      rw [← e]
      exact (worthK_ok hG n).mono hm
    · rw [if_neg h2] at hs
      rw [List.mem_singleton.mp hs]
      exact ok01.mono hm
theorem here_ok {k : Ak} (hG : GoodAk k) {out : Nat} {qs : List (Pr × Sh)} {m : Nat} (hq : ∀ p ∈ qs, Ok m p.2) (hm : 110 ≤ m) {zs : List Pr} : ∀ p ∈ hereL k out qs zs, Ok (m + 222) p.2 := by
  intro p hp
  obtain ⟨z, hz, e⟩ := List.mem_filterMap.mp hp
  unfold one1 at e
  by_cases c : goesOn k z out qs = []
  · rw [if_pos c] at e; cases e
  · rw [if_neg c] at e
    cases e
    refine worthWith_ok hG z ?_
    unfold great
    refine fold_of (p := fun s => Ok m s) _ _ ?_ (goesOn_ok hG hq hm)
    cases hl : goesOn k z out qs with
    | nil => exact absurd hl c
    | cons s l => exact goesOn_ok (z := z) (out := out) hG hq hm s (by rw [hl]; exact List.mem_cons_self ..)
theorem lvl_ok {k : Ak} (hG : GoodAk k) : ∀ (i : Nat), ∀ p ∈ lvl k i, Ok (110 + 222 * i) p.2
  | 0 => fun p hp => nomatch hp
  | i + 1 => fun p hp => by
    have := here_ok (out := k.hv - 1 - i) (zs := k.fnd) hG (lvl_ok hG i) (by omega) p hp
    exact this.mono (by omega)
theorem lvl_sub (k : Ak) : ∀ i, ((lvl k i).map Prod.fst).Sublist k.fnd
  | 0 => List.nil_sublist _
  | i + 1 => here_sub k _ _ _
theorem lvl_len {k : Ak} (hG : GoodAk k) (i : Nat) : (lvl k i).length ≤ 1200 := by
  have h := (lvl_sub k i).length_le
  rw [List.length_map] at h
  exact Nat.le_trans h hG.fl
theorem rowsL_len {k : Ak} (hG : GoodAk k) : ∀ i, (rowsL k i).length ≤ 1200 * i
  | 0 => Nat.le_refl _
  | i + 1 => by
    have h1 := rowsL_len hG i
    have h2 := lvl_len hG (i + 1)
    show ((lvl k (i + 1)).map _ ++ rowsL k i).length ≤ _
    rw [List.length_append, List.length_map]
    omega
/-- instances kept -/
def OI (H H' : Hp) : Prop := ∀ b C d fs, H b = some (.ins C d fs) → H' b = some (.ins C d fs)
theorem ShAt.oi {C : Addr} {H H' : Hp} {p : Addr} {x : Sh} (s : OI H H') (h : ShAt C H p x) : ShAt C H' p x := by
  obtain ⟨dx, e⟩ := h
  exact ⟨dx, s _ _ _ _ e⟩
theorem OI.of {H H' : Hp} (s : Same H H') : OI H H' := fun _ _ _ _ e => s _ _ e
theorem OI.at_ {H : Hp} {D : Addr} {o u : HO} (e : H D = some o) (n : ∀ C d fs, o ≠ .ins C d fs) : OI H (upd H D u) := fun b C d fs h => by
  rw [upd_ne (fun z => by
    rw [z, e] at h
    exact n _ _ _ (Option.some.inj h))]
  exact h
theorem OI.trans {H H1 H2 : Hp} (a : OI H H1) (b : OI H1 H2) : OI H H2 := fun _ _ _ _ e => b _ _ _ _ (a _ _ _ _ e)
theorem DctQ.oi {CS : Addr} {H H' : Hp} {kvs : List (List Key × V)} {qs : List (Pr × Sh)} (h : DctQ CS H kvs qs) (s : OI H H') : DctQ CS H' kvs qs := ⟨h.1, fun p hp => by
  obtain ⟨a, e1, e2⟩ := h.2 p hp
  exact ⟨a, e1, e2.oi s⟩⟩
theorem DctQ.new {CS : Addr} {H : Hp} {kvs : List (List Key × V)} {qs : List (Pr × Sh)} (h : DctQ CS H kvs qs) {z : Pr} (hz : z ∉ qs.map Prod.fst) : valV kvs (key2 z) = none := by
  rcases h.get z with ⟨_, e⟩ | ⟨x, a, e, _, _⟩
  · exact e
  · exact absurd (List.mem_map_of_mem (f := Prod.fst) (findQ_some e)) hz
theorem DctQ.put {CS : Addr} {H : Hp} {kvs : List (List Key × V)} {qs : List (Pr × Sh)} (h : DctQ CS H kvs qs) {z : Pr} (hz : z ∉ qs.map Prod.fst) {r : Addr} {x : Sh} (hr : ShAt CS H r x) : DctQ CS H (putK kvs (key2 z) (.ref r)) (qs ++ [(z, x)]) := by
  have nw := h.new hz
  rw [putK_new _ nw]
  refine ⟨by rw [List.map_append, List.map_append, h.1]; rfl, fun p hp => ?_⟩
  rcases List.mem_append.mp hp with hp | hp
  · obtain ⟨a, e1, e2⟩ := h.2 p hp
    refine ⟨a, ?_, e2⟩
    rw [valV_snoc _ _ _ _ nw, if_neg (fun w => hz (by rw [← key2_inj (a := p.1) (b := z) w]; exact List.mem_map_of_mem hp))]
    exact e1
  · rw [List.mem_singleton.mp hp]
    refine ⟨r, ?_, hr⟩
    rw [valV_snoc _ _ _ _ nw, if_pos rfl]
/-- a row of the paper -/
def RwAt (CS : Addr) (H : Hp) (v : V) (r : Pr × Nat × Sh) : Prop := ∃ t s, v = .ref t ∧ H t = some (.tup [.int r.1.1, .int r.1.2, .int (r.2.1 : Int), .ref s]) ∧ ShAt CS H s r.2.2
theorem RwAt.nl {CS : Addr} {H H' : Hp} {v : V} {r : Pr × Nat × Sh} (h : RwAt CS H v r) (s : NL H H') : RwAt CS H' v r := by
  obtain ⟨t, s', e, h1, h2⟩ := h
  exact ⟨t, s', e, s _ _ (fun _ z => by cases z) h1, h2.same s⟩
def spRowsOf (CA CS : Addr) : Sp := fun vs H Q _ => ∃ (a dw di dm : Addr) (kw : List (Key × V)) (ki km : List (List Key × V)) (k : Ak), vs = [.ref a] ∧ AkIn CA CS H a dw di dm kw ki km k ∧ H di = some (.dT ki) ∧ GoodAk k ∧
  ∀ (H' : Hp) (l : Addr) (acc : List V), Same H H' → H l = none → H' l = some (.lst acc) → FF (RwAt CS H') acc (rowsL k k.hv) → Q (.ref l) H'
end
end KB
namespace KB
open PySem PySem.Spec PyProof.Rows L2 KA

section
variable {P : Program} {w : World} {K : PySem.W.Frag} {mg : Str → Option Value} {base : Heap}
theorem ok_rows_of (T : Tx K mg) : FnOk P w K mg base CX0 7 T.A_rows_of T.fd_rows_of ["asked"] (spRowsOf T.C_Asked T.C_Share) := by
  refine T.F_rows_of.ok sc_rows_of (fun vs H Q E h => ?_) (fun cdv A outer s H vs Q E hr h => ?_)
  · obtain ⟨a, dw, di, dm, kw, ki, km, k, rfl, hA, hdi, hG, q⟩ := h
    rfl
  obtain ⟨a, dw, di, dm, kw, ki, km, k, rfl, hA, hdi, hG, q⟩ := h
  refine ⟨_, (pss_cons (ps_set (i := 1) sc_rows_of.nd rfl (Or.inl rfl) (pe_lst pa_nil))
      (pss_cons (ps_set (i := 2) sc_rows_of.nd rfl (Or.inl rfl) pe_dnewT)
      (pss_cons (ps_for PassesOwn.never rfl (pi_revR (by rfl) T.z_reversed (prg_1 (by rfl) T.z_range (pe_fld (pv 0) rfl))) (pg_name (i := 3) sc_rows_of.nd rfl (Or.inr rfl))
        (pss_cons (ps_set (i := 4) sc_rows_of.nd rfl (Or.inr rfl) pe_dnewT)
      (pss_cons (ps_lock (ps_for PassesOwn.never rfl (pi_keys (pe_fld (pv 0) rfl)) (pg_name (i := 5) sc_rows_of.nd rfl (Or.inl rfl))
        (pss_cons (ps_set (i := 6) sc_rows_of.nd rfl (Or.inl rfl) (pe_meth (pv 0) T.cl_Asked T.m_Asked_goes_on_by (ok_Asked_goes_on_by T) (hr.mono (by decide)) T.b_Asked_goes_on_by .nil pass0 (pa_cons (pv 5) (pa_cons (pv 3) (pa_cons (pv 2) pa_nil)))))
      (pss_one (ps_if (pt_cmpR op_gt (pe_callB call_len_seq (by rfl) T.z_len PySem.boot_len (pa_cons (pv 6) pa_nil)) pe_int (nomark _)) (pss_one (ps_dput (Nat.lt_of_le_of_lt (Nat.add_le_add_left (by decide) _) hr.units) (pv 4) (pv 5) (pe_meth (pv 0) T.cl_Asked T.m_Asked_worth_with (ok_Asked_worth_with T) (hr.mono (by decide)) T.b_Asked_worth_with .nil pass0 (pa_cons (pv 5) (pa_cons (pe_call (ok_greatest T) (hr.mono (by decide)) (by rfl) T.g_greatest T.F_greatest.kp T.b_greatest .nil pass0 (pa_cons (pv 6) pa_nil)) pa_nil))) rfl)) pss_nil)))))
      (pss_cons (ps_set (i := 1) sc_rows_of.nd rfl (Or.inl rfl) (pe_op op_cat (pe_lock (pe_lc (own := [("left", 7), ("right", 8)]) (g := gTup K 2 (gCons (gName 7) (gCons (gName 8) gNil))) (tt := tYes) rfl sc_rows_of.nd (pi_keys (pv 4)) (blkOk_by (N := ["asked", "told", "inner", "out", "here", "pair", "shares", "left", "right"]) (sc := defScope s_rows_of) (by decide +kernel)) (fun _ _ _ _ _ => (pg_tupK (K' := K) rfl (by rfl) (pgs_cons (pg_name (i := 7) sc_rows_of.nd rfl (Or.inl rfl)) (pgs_cons (pg_name (i := 8) sc_rows_of.nd rfl (Or.inl rfl)) pgs_nil)))) (fun _ _ _ _ _ => pts_nil) (fun _ _ _ _ _ => (pe_tup (pa_cons (pv 7) (pa_cons (pv 8) (pa_cons (pv 3) (pa_cons (pe_dget (Nat.lt_of_le_of_lt (Nat.add_le_add_left (by decide) _) hr.units) (pv 4) (pe_tup (pa_cons (pv 7) (pa_cons (pv 8) pa_nil))) (fun _ _ => rfl)) pa_nil)))))))) (pv 1)))
      (pss_one (ps_set (i := 2) sc_rows_of.nd rfl (Or.inl rfl) (pv 4)))))))
      (pss_one (ps_ret (pv 1)))))), ?_⟩
  obtain ⟨_, ⟨dx, ha⟩, hw, hdw, hi, hdi', hm, hdm⟩ := id hA
  have lki : ki.length = k.fnd.length := by
    have := congrArg List.length hdi'.1
    rwa [List.length_map, List.length_map] at this
  refine ⟨(by show 0 ≤ sizeLine; decide), fun l0 hl0 => fun d0 hd0 => ?_⟩
  refine ⟨_, rfl, a, _, dx, _, _, rfl, (same_upd hl0).trans (same_upd hd0) _ _ ha, T.cl_Asked, T.n_Asked_halves, af_halves .., ?_⟩
  have hv8 := hG.hv
  refine ⟨_, rfl, by decide, by decide, by omega, by omega, ?_⟩
  rw [show ((k.hv : Int) - 0).toNat = k.hv by omega]
  have s0 : Same H (upd (upd H l0 (.lst [])) d0 (.dT [])) := (same_upd hl0).trans (same_upd hd0)
  have nl0 : l0 ≠ d0 := ne_of_none upd_same hd0
  have nd0 : d0 ≠ di := (ne_of_none (same_upd hl0 _ _ hdi) hd0).symm
  refine for_rangeC (lo := 0 + (k.hv : Int) - 1) (c := -1) (n := k.hv) (fun i σ H' => ∃ (w3 w4 w5 w6 : Option V) (l d2 : Addr) (acc : List V) (kin : List (List Key × V)), σ = [some (.ref a), some (.ref l), some (.ref d2), w3, w4, w5, w6, none, none] ∧ Same H H' ∧ H l = none ∧ H' l = some (.lst acc) ∧ FF (RwAt T.C_Share H') acc (rowsL k i) ∧ d2 ≠ di ∧ H' d2 = some (.dT kin) ∧ DctQ T.C_Share H' kin (lvl k i)) ⟨_, _, _, _, l0, d0, [], [], rfl, s0, hl0, by rw [upd_ne nl0]; exact upd_same, .nil, nd0, upd_same, rfl, fun p hp => nomatch hp⟩ ?_ ?_
  · rintro i σ H2 hi2 ⟨w3, w4, w5, w6, l, d2, acc, kin, rfl, s2, nl, el, fl, nd2, ed2, hq2⟩
    have eo : (0 + (k.hv : Int) - 1) + (i : Nat) * (-1) = ((k.hv - 1 - i : Nat) : Int) := by omega
    rw [eo]
    have edi := s2 _ _ hdi
    have hA2 := hA.same s2
    intro D hD
    have nDdi : D ≠ di := (ne_of_none edi hD).symm
    refine ⟨di, .dT ki, same_upd hD _ _ edi, trivial, fun od => ?_⟩
    have hAL := hA2.lock edi od
    have hDL : (upd H2 di (.frz od (.dT ki))) D = none := by rw [upd_ne nDdi]; exact hD
    have sL : Same (upd H2 di (.frz od (.dT ki))) (upd (upd H2 D (.dT [])) di (.frz od (.dT ki))) := fun b o e => by
      by_cases c : b = di
      · rw [c, upd_same] at e ⊢
        exact e
      · rw [upd_ne c] at e ⊢
        exact same_upd hD _ _ e
    have eLd2 : (upd H2 di (.frz od (.dT ki))) d2 = some (.dT kin) := by rw [upd_ne nd2]; exact ed2
    have hqL : DctQ T.C_Share (upd H2 di (.frz od (.dT ki))) kin (lvl k i) := hq2.oi (OI.at_ edi fun _ _ _ z => by cases z)
    have eLdi : (upd H2 di (.frz od (.dT ki))) di = some (.frz od (.dT ki)) := upd_same
    have fin : ∀ (H3 : Hp), Same (upd H2 di (.frz od (.dT ki))) H3 → Same H2 (upd H3 di (.dT ki)) := fun H3 s3 => unlock edi s3
    obtain ⟨_, ⟨dx', ha'⟩, _⟩ := id hAL
    have eD0 : (upd (upd H2 D (.dT [])) di (.frz od (.dT ki))) D = some (.dT []) := by rw [upd_ne nDdi]; exact upd_same
    revert hAL hDL sL eLd2 hqL eLdi fin ha' eD0
    generalize upd (upd H2 D (.dT [])) di (.frz od (.dT ki)) = HD
    generalize upd H2 di (.frz od (.dT ki)) = HL
    intro hAL hDL sL eLd2 hqL eLdi fin ha' eD0
    refine ⟨_, rfl, a, _, dx', _, _, rfl, sL _ _ ha', T.cl_Asked, T.n_Asked_within, af_within .., di, od, rfl, .inr ⟨ki, sL _ _ eLdi, for_walk walk_keysT (fun j σ H' => ∃ (w5 w6 : Option V) (kvs : List (List Key × V)), σ = [some (.ref a), some (.ref l), some (.ref d2), some (.int ((k.hv - 1 - i : Nat) : Int)), some (.ref D), w5, w6, none, none] ∧ Same HL H' ∧ H' D = some (.dT kvs) ∧ DctQ T.C_Share H' kvs (hereL k (k.hv - 1 - i) (lvl k i) (k.fnd.take j))) ⟨_, _, _, rfl, sL, eD0, rfl, fun p hp => nomatch hp⟩ (fun j σ H' _ h => ?_) ?_ ?_⟩⟩
    · obtain ⟨_, _, _, _, s, _⟩ := h
      exact s _ _ eLdi
    · rintro j x σ H3 H3' hj ⟨w5, w6, kvs, rfl, s3, eD3, hq3⟩ ⟨rfl, kk, v, qd, hkj, rfl, hqd⟩
      have hz : k.fnd[j]? = some k.fnd[j] := List.getElem?_eq_getElem (by omega)
      generalize k.fnd[j] = z at hz
      have ek : kk = key2 z := by
        have e1 : (ki.map Prod.fst)[j]? = some kk := by rw [List.getElem?_map, hkj]; rfl
        rw [hdi'.1, List.getElem?_map, hz] at e1
        exact (Option.some.inj e1).symm
      subst ek
      have mz : z ∈ k.fnd := List.mem_of_getElem? hz
      have tk : k.fnd.take (j + 1) = k.fnd.take j ++ [z] := by rw [List.take_add_one, hz]; rfl
      have hA3 := hAL.same s3
      obtain ⟨_, ⟨dx3, ha3⟩, _⟩ := id hA3
      refine ⟨_, rfl, a, dx3, _, rfl, ha3, af_no _ _ _ _ _ (by decide +kernel) (by decide +kernel) (by decide +kernel) (by decide +kernel) (by decide +kernel), _, rfl, _, rfl, _, rfl, a, qd, d2, dw, di, dm, _, kw, ki, km, kin, k, z, lvl k i, rfl, hA3, hG, hqd, mz, s3 _ _ eLd2, hqL.oi (OI.of s3), fun H4 l4 acc4 s4 hl4 el4 f4 => ?_⟩
      refine ⟨_, rfl, l4, acc4, rfl, .inl (SqL.of el4), _, _, rfl, rfl, _, rfl, ?_⟩
      have s34 := s3.trans s4
      have eD4 := s4 _ _ eD3
      have hq4 := hq3.oi (OI.of s4)
      by_cases c : goesOn k z (k.hv - 1 - i) (lvl k i) = []
      · have e4 : acc4.length = 0 := by rw [f4.len, c]; rfl
        rw [decide_eq_false (by rw [e4]; decide)]
        refine iteF ⟨_, _, kvs, rfl, s34, eD4, ?_⟩
        rw [tk, here_snoc, show one1 k (k.hv - 1 - i) (lvl k i) z = none from if_pos c]
        show DctQ T.C_Share H4 kvs (_ ++ [])
        rw [List.append_nil]
        exact hq4
      · have e4 : 0 < acc4.length := by
          rw [f4.len]
          exact List.length_pos_iff.mpr c
        rw [decide_eq_true (show (0 : Int) < (acc4.length : Int) by omega)]
        have nz : z ∉ (hereL k (k.hv - 1 - i) (lvl k i) (k.fnd.take j)).map Prod.fst := fun w => by
          have m := (here_sub k (k.hv - 1 - i) (lvl k i) (k.fnd.take j)).subset w
          obtain ⟨y, hy, ey⟩ := List.mem_iff_getElem.mp m
          rw [List.length_take] at hy
          rw [List.getElem_take] at ey
          obtain ⟨hj', ej⟩ := List.getElem?_eq_some_iff.mp hz
          have := (List.getElem_inj (h₀ := by omega) (h₁ := hj') hG.fn).mp (ey.trans ej.symm)
          omega
        have hA4 := hA3.same s4
        obtain ⟨_, ⟨dx4, ha4⟩, _⟩ := id hA4
        have gok := goesOn_ok (z := z) (out := k.hv - 1 - i) hG (lvl_ok hG i) (by omega)
        have grk : Ok (110 + 222 * i) (great (goesOn k z (k.hv - 1 - i) (lvl k i))) := by
          unfold great
          refine fold_of (p := fun s => Ok (110 + 222 * i) s) _ _ ?_ gok
          cases hl : goesOn k z (k.hv - 1 - i) (lvl k i) with
          | nil => exact absurd hl c
          | cons s l => exact gok s (by rw [hl]; exact List.mem_cons_self ..)
        refine iteT ⟨_, rfl, a, dx4, _, rfl, ha4, af_no _ _ _ _ _ (by decide +kernel) (by decide +kernel) (by decide +kernel) (by decide +kernel) (by decide +kernel), _, rfl, _, rfl, l4, acc4, _, 110 + 222 * i, rfl, SqL.of el4, f4, c, gok, by omega, fun r hr => ?_⟩
        refine ⟨a, qd, r, dw, di, dm, kw, ki, km, k, z, _, 110 + 222 * i, rfl, hA4, hG, s4 _ _ hqd, mz, hr, grk, by omega, fun H5 r5 s5 h5 => ?_⟩
        have eD5 := s5 _ _ eD4
        have lkv : kvs.length ≤ 1600 := by
          have e1 := congrArg List.length hq3.1
          have e2 := (here_sub k (k.hv - 1 - i) (lvl k i) (k.fnd.take j)).length_le
          rw [List.length_map, List.length_map] at e1
          rw [List.length_map, List.length_take] at e2
          have := hG.fl
          omega
        refine ⟨_, rfl, _, rfl, D, _, rfl, DPut.t eD5 (s5 _ _ (s4 _ _ hqd)) (Nat.lt_of_le_of_lt lkv (by decide)), ?_⟩
        refine ⟨_, _, _, rfl, fun b o e => ?_, upd_same, ?_⟩
        · rw [upd_ne (ne_of_none e hDL)]
          exact s5 _ _ (s34 _ _ e)
        · rw [tk, here_snoc, show one1 k (k.hv - 1 - i) (lvl k i) z = some _ from if_neg c]
          have hqn := (hq4.oi (OI.of s5)).put nz h5
          exact hqn.oi (OI.at_ eD5 fun _ _ _ z => by cases z)
    · rintro σ H3 ⟨w5, w6, kvs, rfl, s3, eD3, hq3⟩
      have eh : hereL k (k.hv - 1 - i) (lvl k i) (k.fnd.take ki.length) = lvl k (i + 1) := by
        rw [lki, List.take_length]
        rfl
      rw [eh] at hq3
      have e3di := s3 _ _ eLdi
      refine ⟨e3di, ?_⟩
      have sf := fin H3 s3
      have eDf : (upd H3 di (.dT ki)) D = some (.dT kvs) := by rw [upd_ne nDdi]; exact eD3
      have hqf : DctQ T.C_Share (upd H3 di (.dT ki)) kvs (lvl k (i + 1)) := hq3.oi (OI.at_ e3di fun _ _ _ z => by cases z)
      generalize upd H3 di (.dT ki) = H4 at sf eDf hqf
      have lkv : kvs.length = (lvl k (i + 1)).length := by
        have e1 := congrArg List.length hqf.1
        rwa [List.length_map, List.length_map] at e1
      have ll := lvl_len hG (i + 1)
      refine ⟨D, .dT kvs, eDf, trivial, fun od2 => ?_⟩
      have sU : ∀ H5, Same (upd H4 D (.frz od2 (.dT kvs))) H5 → Same H4 (upd H5 D (.dT kvs)) := fun H5 s => unlock eDf s
      have eLk : (upd H4 D (.frz od2 (.dT kvs))) D = some (.frz od2 (.dT kvs)) := upd_same
      have hqk : DctQ T.C_Share (upd H4 D (.frz od2 (.dT kvs))) kvs (lvl k (i + 1)) := hqf.oi (OI.at_ eDf fun _ _ _ z => by cases z)
      generalize upd H4 D (.frz od2 (.dT kvs)) = HK at sU eLk hqk
      refine ⟨_, rfl, D, od2, rfl, .inr ⟨kvs, eLk, fun D2 hD2 => lc_walkR walk_keysT hD2 (fun _ _ _ _ y => y.1) (fun H' s => s _ _ eLk) (ks := lvl k (i + 1)) lkv.symm (by omega) (fun _ => true) (fun v p H => RwAt T.C_Share H v (p.1, k.hv - 1 - i, p.2)) (fun v p H1 H2 s h => h.nl s) (fun j x p H5 R C y hp s5 yes no => ?_) fun H5 acc5 s5 e5 f5 => ?_⟩⟩
      · obtain ⟨_, kk, v, qd, hkj, rfl, hqd⟩ := y
        have mp := List.mem_of_getElem? hp
        obtain ⟨s', es, hs'⟩ := hqk.2 p mp
        have ek : kk = key2 p.1 := by
          have e1 : (kvs.map Prod.fst)[j]? = some kk := by rw [List.getElem?_map, hkj]; rfl
          rw [hqk.1, List.getElem?_map, hp] at e1
          exact (Option.some.inj e1).symm
        subst ek
        refine ⟨qd, _, rfl, SqT.of hqd, rfl, _, _, rfl, _, _, rfl, rfl, ?_⟩
        refine ⟨rfl, yesT ⟨_, rfl, _, rfl, _, rfl, _, rfl, _, rfl, _, rfl, (by show 2 ≤ sizeLine; decide), fun t2 ht2 => ⟨D, _, rfl, .inr ⟨kvs, key2 p.1, t2, .inr ⟨od2, (same_upd ht2).trans (Same.refl _) _ _ (s5 _ _ eLk)⟩, rfl, upd_same, es.symm⟩, ?_⟩⟩⟩
        refine ⟨(by show 4 ≤ sizeLine; decide), fun t3 ht3 => yes rfl _ _ ((same_upd ht2).trans (same_upd ht3)) ⟨t3, s', rfl, upd_same, hs'.same (NL.of (s5.trans ((same_upd ht2).trans (same_upd ht3))))⟩⟩
      · refine ⟨s5 _ _ eLk, ?_⟩
        have s45 := sU H5 s5
        have e5' : (upd H5 D (.dT kvs)) D2 = some (.lst acc5) := by rw [upd_ne (ne_of_none eLk hD2).symm]; exact e5
        have f5' : FF (RwAt T.C_Share (upd H5 D (.dT kvs))) acc5 ((lvl k (i + 1)).map fun p => (p.1, k.hv - 1 - i, p.2)) := by
          rw [List.filter_eq_self.mpr fun _ _ => rfl] at f5
          refine FF.map (f := fun p : Pr × Sh => (p.1, k.hv - 1 - i, p.2)) (f5.mono fun v p h => ?_)
          obtain ⟨t, s', e, h1, h2⟩ := h
          exact ⟨t, s', e, by rw [upd_ne (fun w => by rw [w, s5 _ _ eLk] at h1; cases h1)]; exact h1, h2.oi (OI.at_ (s5 _ _ eLk) fun _ _ _ z => by cases z)⟩
        have eD6 : (upd H5 D (.dT kvs)) D = some (.dT kvs) := upd_same
        generalize upd H5 D (.dT kvs) = H6 at s45 e5' f5' eD6
        have s26 := sf.trans s45
        have hq6 := hqf.oi (OI.of s45)
        have la5 := f5'.len
        have la := fl.len
        have lr := rowsL_len hG i
        rw [List.length_map] at la5
        refine ⟨_, rfl, D2, l, acc5, acc, rfl, rfl, e5', s26 _ _ el, ?_, fun l' hl' => ?_⟩
        · exact Nat.le_trans (show acc5.length + acc.length ≤ 16000 by omega) (by decide)
        · have s67 := same_upd hl' (o := .lst (acc5 ++ acc))
          refine ⟨_, rfl, _, _, _, _, l', D, _, kvs, rfl, (s2.trans s26).trans s67, none_back (s2.trans s26) hl', upd_same, ?_, nDdi, s67 _ _ eD6, hq6.oi (OI.of s67)⟩
          exact FF.app (f5'.mono fun v r h => h.nl (NL.of s67)) (fl.mono fun v r h => h.nl (NL.of (s26.trans s67)))
  · rintro σ H2 ⟨w3, w4, w5, w6, l, d2, acc, kin, rfl, s2, nl, el, fl, nd2, ed2, hq2⟩
    exact ⟨_, rfl, q H2 l acc s2 nl el fl⟩
end
end KB
namespace KB
open PySem PySem.Spec PyProof.Rows L2 KA

section
variable {P : Program} {w : World} {K : PySem.W.Frag} {mg : Str → Option Value} {base : Heap}
/-! ### asked, refused or not -/
def notTold : Due → Bool | .told _ => false | _ => true
def toldOf : Due → Sh | .told x => x | _ => (0, 1)
def badOf (kvs : List (List Str × Int)) (g o : Int) (rs : List Rw) : Option Due := (rs.map (dueOf kvs g o)).find? notTold
def shsU (kvs : List (List Str × Int)) (g o : Int) (rs : List Rw) : List (Int × Sh) := rs.map fun r => (r.num, toldOf (dueOf kvs g o r))
theorem good_of {u : Rl} {rs : List Rw} {long : Nat} {ws : List (Int × Sh)} (nd : (rs.map Rw.num).Nodup) (hl : rs.length ≤ 24) (hlong : long ≤ 17) (hw : ws.map Prod.fst = rs.map Rw.num) (ho : ∀ p ∈ ws, Ok 110 p.2) : GoodAk (akOf u rs long ws) := by
  have lf : (pairsU u rs).length ≤ 1200 := by
    rw [show (pairsU u rs).length = (pairs0 u rs).length from (srtP_perm _).length_eq]
    have := flat_len (pairsB_len u rs) rs
    have : rs.length * rs.length ≤ 24 * 24 := Nat.mul_le_mul hl hl
    unfold pairs0
    omega
  have lw : ws.length = rs.length := by
    have := congrArg List.length hw
    rwa [List.length_map, List.length_map] at this
  have inn : ∀ n, (innerN u rs n).length ≤ 40 ∧ ∀ m ∈ innerN u rs n, m ∈ rs.map Rw.num := fun n => by
    unfold innerN
    cases rs.find? fun b => decide (b.num = n) with
    | none => exact ⟨Nat.zero_le _, fun _ h => nomatch h⟩
    | some b =>
      show (innerU u rs b).length ≤ 40 ∧ ∀ m ∈ innerU u rs b, _
      unfold innerU
      refine ⟨?_, fun m hm => ?_⟩
      · rw [List.length_map]
        exact Nat.le_trans (List.length_filter_le _ _) (by omega)
      · obtain ⟨r, hr, rfl⟩ := List.mem_map.mp hm
        exact List.mem_map_of_mem (List.mem_filter.mp hr).1
  refine ⟨?_, ?_, ho, pairs_nd nd, lf, fun z hz => ?_, fun z hz => ⟨?_, fun p hp => (List.mem_filter.mp hp).1⟩, fun z hz => ⟨?_, fun n hn => ?_⟩, ?_⟩
  · show (ws.map Prod.fst).Nodup
    rw [hw]
    exact nd
  · show ws.length ≤ 40
    omega
  · show z.1 ∈ ws.map Prod.fst ∧ z.2 ∈ ws.map Prod.fst
    rw [hw]
    obtain ⟨r, hr, q, hq, _, rfl⟩ := pairs_mem hz
    exact ⟨List.mem_map_of_mem hr, List.mem_map_of_mem hq⟩
  · exact Nat.le_trans (List.length_filter_le _ _) (Nat.le_trans lf (by decide))
  · exact Nat.le_trans (List.length_filter_le _ _) (inn z.1).1
  · show n ∈ ws.map Prod.fst
    rw [hw]
    exact (inn z.1).2 n (List.mem_filter.mp hn).1
  · show long / 2 ≤ 8
    omega
theorem shs_fst (kvs : List (List Str × Int)) (g o : Int) (rs : List Rw) : (shsU kvs g o rs).map Prod.fst = rs.map Rw.num := by
  unfold shsU
  rw [List.map_map]
  rfl
theorem shs_ok {kvs : List (List Str × Int)} {g o : Int} {rs : List Rw} (hT : GoodT kvs) (hG : ∀ r ∈ rs, GoodRw r) (hg : Sml g) (ho : Sml o) : ∀ p ∈ shsU kvs g o rs, Ok 110 p.2 := by
  intro p hp
  obtain ⟨r, hr, rfl⟩ := List.mem_map.mp hp
  show Ok 110 (toldOf (dueOf kvs g o r))
  cases e : dueOf kvs g o r with
  | told x => exact due_ok hT (hG r hr) hg ho e
  | none _ _ => exact ok01
  | nought _ => exact ok01
theorem bad_at {kvs : List (List Str × Int)} {g o : Int} {rs : List Rw} {i : Nat} {r : Rw} (h : ∀ j, j < i → ∃ r x, rs[j]? = some r ∧ dueOf kvs g o r = .told x) (hr : rs[i]? = some r) (hb : notTold (dueOf kvs g o r) = true) : badOf kvs g o rs = some (dueOf kvs g o r) := by
  obtain ⟨hi, ei⟩ := List.getElem?_eq_some_iff.mp hr
  have e : rs = rs.take i ++ r :: rs.drop (i + 1) := by
    rw [← ei, List.getElem_cons_drop, List.take_append_drop]
  unfold badOf
  rw [e, List.map_append, List.find?_append, List.map_cons, List.find?_cons_of_pos hb]
  rw [show (List.map (dueOf kvs g o) (rs.take i)).find? notTold = none from List.find?_eq_none.mpr fun d hd => ?_]
  · rfl
  · obtain ⟨q, hq, rfl⟩ := List.mem_map.mp hd
    obtain ⟨j, hj, ej⟩ := List.mem_iff_getElem.mp hq
    rw [List.length_take] at hj
    rw [List.getElem_take] at ej
    obtain ⟨r', x, h1, h2⟩ := h j (by omega)
    rw [List.getElem?_eq_getElem (by omega), ej] at h1
    cases h1
    rw [h2]
    exact Bool.false_ne_true
def spAskedWith (CA CB CS CR C0 C1 C2 : Addr) : Sp := fun vs H Q E => ∃ (b m tf : Addr) (long : Nat) (g o : Int) (xs : List V) (rs : List Rw) (u : Rl) (kvs : List (List Str × Int)), vs = [.ref b, .ref m, .int (long : Int), .ref tf, .int g, .int o] ∧ H b = some (.lst xs) ∧ BdL CB H xs rs ∧ RuleAt CR H m u ∧ (rs.map Rw.num).Nodup ∧ rs.length ≤ 24 ∧ long ≤ 17 ∧ (∀ r ∈ rs, GoodRw r) ∧ H tf = some (.dT (dictV kvs)) ∧ GoodT kvs ∧ Sml g ∧ Sml o ∧
  (¬ u.far < u.lo → ErrRule C0 E H) ∧ (u.far < u.lo → (∀ d, badOf kvs g o rs = some d → ∀ cls dd H', Same H H' → ErrAt C1 C2 d cls dd H' → E cls dd H') ∧ (badOf kvs g o rs = none → ∀ H' a, Same H H' → AkAt CA CS H' a (akOf u rs long (shsU kvs g o rs)) → Q (.ref a) H'))
theorem ok_asked_with (T : Tx K mg) : FnOk P w K mg base (L2.CX P w) 6 T.A_asked_with T.fd_asked_with ["beads", "rule", "long", "rates", "base", "drilled"] (spAskedWith T.C_Asked T.C_Bead T.C_Share T.C_Rule T.C_BadRule T.C_NoSuch T.C_NoShare) := by
  refine T.F_asked_with.okX sc_asked_with (fun vs H Q E h => ?_) (fun cdv A outer s H vs Q E hr h => ?_)
  · obtain ⟨b, m, tf, long, g, o, xs, rs, u, kvs, rfl, hb, hB, hm, nd, hl, hlong, hG, ht, hT, hg, ho, qr, qo⟩ := h
    rfl
  obtain ⟨b, m, tf, long, g, o, xs, rs, u, kvs, rfl, hb, hB, hm, nd, hl, hlong, hG, ht, hT, hg, ho, qr, qo⟩ := h
  refine ⟨_, (pss_cons (ps_expr (pe_call (CX := L2.CX P w) (E := E) (ok_check_rule T) (hr.mono (by decide)) (by rfl) T.g_check_rule T.F_check_rule.kp T.b_check_rule .nil (passes_call (takes_of rfl rfl rfl rfl) (fun _ _ _ _ h => h)) (pa_cons (pv 1) pa_nil)))
      (pss_one (ps_ret (pe_make T.mk_Asked (ok_Asked_init T) (hr.mono (by decide)) (by rfl) T.g_Asked T.b_Asked_init .nil pass0 (pa_cons (pv 0) (pa_cons (pv 1) (pa_cons (pv 2) (pa_cons (pe_dcE (own := [("bead", 6)]) (g := gName 6) (tt := fun _ => tYes) (Nat.lt_of_le_of_lt (Nat.add_le_add_left (by decide) _) hr.units) rfl rfl rfl (takes_of rfl rfl rfl rfl) sc_asked_with.nd (pi_list (pv 0)) (blkOk_by (N := ["beads", "rule", "long", "rates", "base", "drilled", "bead"]) (sc := defScope s_asked_with) (by decide +kernel)) (fun E _ _ _ _ _ => (pg_name (i := 6) sc_asked_with.nd rfl (Or.inl rfl))) (fun E _ _ _ _ _ => pts_nil) (fun E _ _ _ _ _ => (pe_fldK (K' := K) rfl (pv 6) rfl)) (fun E _ _ _ _ _ => (pe_call (E := E) (ok_worth T) (hr.mono (by decide)) (by rfl) T.g_worth T.F_worth.kp T.b_worth .nil pass_blk (pa_cons (pv 6) (pa_cons (pv 3) (pa_cons (pv 4) (pa_cons (pv 5) pa_nil))))))) pa_nil)))))))), ?_⟩
  have hxl := hB.1
  refine ⟨_, rfl, m, u, rfl, hm, fun hf => ?_, qr⟩
  obtain ⟨qb, qg⟩ := qo hf
  refine ⟨_, rfl, _, rfl, _, rfl, E, fun _ _ _ h => h, ?_⟩
  refine ⟨_, rfl, b, rfl, ⟨_, SqL.of hb⟩, fun D hD => dcg_walkK (walk_list (K := K) (a := b) (xs := xs)) hD (fun i x => xs[i]? = some x) (fun i H x H' h => h) (fun H' s => SqL.of (s _ _ hb)) (rs.map fun r => (Sum.inl r.num : Key)) ?_ (by rw [List.length_map, hxl]) (by omega) (fun i v H' => ∃ r x p, rs[i]? = some r ∧ dueOf kvs g o r = .told x ∧ v = .ref p ∧ ShAt T.C_Share H' p x) (fun j v H1 H2 s h => ?_) (fun i => ∃ r x, rs[i]? = some r ∧ dueOf kvs g o r = .told x) (fun j v H h => ?_) (fun i x kk H2 R C hx hk s2 hp hR => ?_) fun H3 kw s3 eD3 hkw hP => ?_⟩
  · have := List.Pairwise.map (S := fun a b => a ≠ b) (fun n : Int => (Sum.inl n : Key)) (fun a b h e => h (Sum.inl.inj e)) nd
    rwa [List.map_map] at this
  · obtain ⟨r, x, p, h1, h2, h3, h4⟩ := h
    refine ⟨r, x, p, h1, h2, h3, h4.oi fun b C d fs e => s _ _ (fun _ z => by cases z) e⟩
  · obtain ⟨r, x, p, h1, h2, h3, h4⟩ := h
    exact ⟨r, x, h1, h2⟩
  · rw [List.getElem?_map, Option.map_eq_some_iff] at hk
    obtain ⟨r, hr, rfl⟩ := hk
    obtain ⟨p, hp1, dxb, hbd⟩ := hB.2 i r hr
    rw [hp1] at hx
    cases hx
    refine ⟨rfl, yesT ⟨_, rfl, p, _, dxb, _, _, rfl, s2 _ _ hbd, T.cl_Bead, T.n_Bead_number, bf_number r, _, rfl, _, rfl, _, rfl, _, rfl, p, tf, g, o, r, kvs, rfl, ⟨dxb, s2 _ _ hbd⟩, hG r (List.mem_of_getElem? hr), s2 _ _ ht, hT, hg, ho, fun x ex H' s' s3 h3 => hR H' _ s3 ⟨r, x, s', hr, ex, rfl, h3⟩, fun cls d H' s3 h3 => ?_⟩⟩
    refine qb (dueOf kvs g o r) (bad_at hp hr ?_) cls d H' (s2.trans s3) h3
    cases e : dueOf kvs g o r with
    | told x => rw [e] at h3; exact h3.elim
    | none _ _ => rfl
    | nought _ => rfl
  · have nk : (rs.map fun r => (Sum.inl r.num : Key)).Nodup := by
      have := List.Pairwise.map (S := fun a b => a ≠ b) (fun n : Int => (Sum.inl n : Key)) (fun a b h e => h (Sum.inl.inj e)) nd
      rwa [List.map_map] at this
    have all : ∀ r ∈ rs, ∃ x a, dueOf kvs g o r = .told x ∧ valV kw (Sum.inl r.num : Key) = some (.ref a) ∧ ShAt T.C_Share H3 a x := fun r hr => by
      obtain ⟨i, hi, ei⟩ := List.mem_iff_getElem.mp hr
      have hi' : rs[i]? = some r := by rw [List.getElem?_eq_getElem hi, ei]
      obtain ⟨v, hv, r', x, p, h1, h2, rfl, h4⟩ := made_get nk hkw (P := fun i v => ∃ r x p, rs[i]? = some r ∧ dueOf kvs g o r = .told x ∧ v = .ref p ∧ ShAt T.C_Share H3 p x) hP (i := i) (k := Sum.inl r.num) (by rw [List.getElem?_map, hi']; rfl)
      rw [hi'] at h1
      cases h1
      exact ⟨x, p, h2, hv, h4⟩
    have hn : badOf kvs g o rs = none := by
      unfold badOf
      rw [List.find?_eq_none]
      intro d hd
      obtain ⟨r, hr, rfl⟩ := List.mem_map.mp hd
      obtain ⟨x, a, e, _⟩ := all r hr
      rw [e]
      exact Bool.false_ne_true
    have hS : DctS T.C_Share H3 kw (shsU kvs g o rs) := ⟨by rw [hkw]; unfold shsU; rw [List.map_map]; rfl, fun p hp => by
      obtain ⟨r, hr, rfl⟩ := List.mem_map.mp hp
      obtain ⟨x, a, e, h1, h2⟩ := all r hr
      refine ⟨a, h1, ?_⟩
      show ShAt T.C_Share H3 a (toldOf (dueOf kvs g o r))
      rw [e]
      exact h2⟩
    intro a dxa na ndxa ne
    have sM : Same H3 (upd (upd H3 dxa (.own a)) a (.ins T.C_Asked dxa [])) := fun c o e => by
      rw [upd_ne (ne_of_none e na), upd_ne (ne_of_none e ndxa)]
      exact e
    have sA := s3.trans sM
    refine ⟨a, dxa, b, m, D, long, xs, rs, u, kw, shsU kvs g o rs, rfl, upd_same, sA _ _ hb, hB.nl (NL.of sA), hm.imp fun _ e => sA _ _ e, nd, by omega, by omega, sM _ _ eD3, ⟨hS.1, fun p hp => ?_⟩, fun H4 hAk k4 => ⟨rfl, qg hn H4 a (fun c o e => k4 c o (sA _ _ e) (ne_of_none (s3 _ _ e) na)) hAk⟩⟩
    obtain ⟨c, h1, h2⟩ := hS.2 p hp
    exact ⟨c, h1, h2.same (NL.of sM)⟩
end
end KB
namespace KB
open PySem PySem.Spec PyProof.Rows L2 KA

section
variable {P : Program} {w : World} {K : PySem.W.Frag} {mg : Str → Option Value} {base : Heap}
structure Inp (CB CR : Addr) (H : Hp) (b m tf : Addr) (long : Nat) (g o : Int) (xs : List V) (rs : List Rw) (u : Rl) (kvs : List (List Str × Int)) : Prop where
  hb : H b = some (.lst xs)
  hB : BdL CB H xs rs
  hm : RuleAt CR H m u
  nd : (rs.map Rw.num).Nodup
  hl : rs.length ≤ 24
  hlong : long ≤ 17
  hG : ∀ r ∈ rs, GoodRw r
  ht : H tf = some (.dT (dictV kvs))
  hT : GoodT kvs
  hg : Sml g
  ho : Sml o
def ErrOf (C0 C1 C2 : Addr) (E : XK) (H : Hp) (g o : Int) (rs : List Rw) (u : Rl) (kvs : List (List Str × Int)) : Prop :=
  (¬ u.far < u.lo → ErrRule C0 E H) ∧ (u.far < u.lo → ∀ d, badOf kvs g o rs = some d → ∀ cls dd H', Same H H' → ErrAt C1 C2 d cls dd H' → E cls dd H')
def akH (u : Rl) (rs : List Rw) (long : Nat) (kvs : List (List Str × Int)) (g o : Int) : Ak := akOf u rs long (shsU kvs g o rs)
theorem Inp.good {CB CR : Addr} {H : Hp} {b m tf : Addr} {long : Nat} {g o : Int} {xs : List V} {rs : List Rw} {u : Rl} {kvs : List (List Str × Int)} (I : Inp CB CR H b m tf long g o xs rs u kvs) : GoodAk (akH u rs long kvs g o) := good_of I.nd I.hl I.hlong (shs_fst ..) (shs_ok I.hT I.hG I.hg I.ho)
def spBestPaper (CB CS CR C0 C1 C2 : Addr) : Sp := fun vs H Q E => ∃ (b m tf : Addr) (long : Nat) (g o : Int) (xs : List V) (rs : List Rw) (u : Rl) (kvs : List (List Str × Int)), vs = [.ref b, .ref m, .int (long : Int), .ref tf, .int g, .int o] ∧ Inp CB CR H b m tf long g o xs rs u kvs ∧ ErrOf C0 C1 C2 E H g o rs u kvs ∧
  (u.far < u.lo → badOf kvs g o rs = none → ∀ (H' : Hp) (l : Addr) (acc : List V), Same H H' → H l = none → H' l = some (.lst acc) → FF (RwAt CS H') acc (rowsL (akH u rs long kvs g o) (akH u rs long kvs g o).hv) → Q (.ref l) H')
theorem ok_best_paper (T : Tx K mg) : FnOk P w K mg base (L2.CX P w) 12 T.A_best_paper T.fd_best_paper ["beads", "rule", "long", "rates", "base", "drilled"] (spBestPaper T.C_Bead T.C_Share T.C_Rule T.C_BadRule T.C_NoSuch T.C_NoShare) := by
  refine T.F_best_paper.ok (CX := L2.CX P w) sc_best_paper (fun vs H Q E h => ?_) (fun cdv A outer s H vs Q E hr h => ?_)
  · obtain ⟨b, m, tf, long, g, o, xs, rs, u, kvs, rfl, I, er, q⟩ := h
    rfl
  obtain ⟨b, m, tf, long, g, o, xs, rs, u, kvs, rfl, I, er, q⟩ := h
  refine ⟨_, (pss_one (ps_ret (pe_call (ok_rows_of T) (hr.mono (by decide)) (by rfl) T.g_rows_of T.F_rows_of.kp T.b_rows_of .nil pass0 (pa_cons (pe_call (CX := L2.CX P w) (E := E) (ok_asked_with T) (hr.mono (by decide)) (by rfl) T.g_asked_with T.F_asked_with.kp T.b_asked_with .nil (passes_call (takes_of rfl rfl rfl rfl) (fun _ _ _ _ h => h)) (pa_cons (pv 0) (pa_cons (pv 1) (pa_cons (pv 2) (pa_cons (pv 3) (pa_cons (pv 4) (pa_cons (pv 5) pa_nil))))))) pa_nil)))), ?_⟩
  refine ⟨_, rfl, _, rfl, _, rfl, _, rfl, _, rfl, _, rfl, b, m, tf, long, g, o, xs, rs, u, kvs, rfl, I.hb, I.hB, I.hm, I.nd, I.hl, I.hlong, I.hG, I.ht, I.hT, I.hg, I.ho, er.1, fun hf => ⟨er.2 hf, fun hn H1 a s1 hAk => ?_⟩⟩
  obtain ⟨dw, di, dm, kw, ki, km, hdi, hA⟩ := hAk
  exact ⟨a, dw, di, dm, kw, ki, km, _, rfl, hA, hdi, I.good, fun H2 l acc s2 nl el fl => q hf hn H2 l acc (s1.trans s2) (none_back s1 nl) el fl⟩
/-! ### is this a row -/
inductive RowIs (K : PySem.W.Frag) (CS : Addr) (k : Ak) (H : Hp) : V → Bool → Prop where
  | row {t s : Addr} {l r o : Int} {x : Sh} (ht : H t = some (.tup [.int l, .int r, .int o, .ref s])) (hs : ShAt CS H s x) : RowIs K CS k H (.ref t) ((decide (0 ≤ o) && decide (o ≤ (k.hv : Int) - 1)) && decide ((l, r) ∈ k.fnd))
  | no {v : V} {t : Value} (ty : TyX K H v t) (kit : PySem.W.kitOne K t (.type "tuple") = some false) : RowIs K CS k H v false
  | len {t : Addr} {xs : List V} (ht : H t = some (.tup xs)) (hl : xs.length ≠ 4) : RowIs K CS k H (.ref t) false
def spIsRow (K : PySem.W.Frag) (CA CS : Addr) : Sp := fun vs H Q _ => ∃ (a dw di dm : Addr) (kw : List (Key × V)) (ki km : List (List Key × V)) (k : Ak) (v : V) (b : Bool), vs = [.ref a, v] ∧ AkIn CA CS H a dw di dm kw ki km k ∧ RowIs K CS k H v b ∧ ∀ H', Same H H' → Q (.bl b) H'
theorem within_has {H : Hp} {ki : List (List Key × V)} {k : Ak} (h : DctP H ki k.fnd (RWi k)) (z : Pr) : (valV ki (key2 z)).isSome = decide (z ∈ k.fnd) := by
  rw [← valV_any, Bool.eq_iff_iff, List.any_eq_true, decide_eq_true_eq]
  constructor
  · rintro ⟨p, hp, e⟩
    have e1 : p.1 = key2 z := of_decide_eq_true e
    have m : key2 z ∈ k.fnd.map key2 := by
      rw [← h.1, ← e1]
      exact List.mem_map_of_mem hp
    obtain ⟨y, hy, ey⟩ := List.mem_map.mp m
    rw [← key2_inj ey]
    exact hy
  · intro hz
    have m : key2 z ∈ ki.map Prod.fst := by
      rw [h.1]
      exact List.mem_map_of_mem hz
    obtain ⟨p, hp, e⟩ := List.mem_map.mp m
    exact ⟨p, hp, decide_eq_true e⟩
theorem ok_is_row (T : Tx K mg) : FnOk P w K mg base CX0 3 T.A_is_row T.fd_is_row ["asked", "row"] (spIsRow K T.C_Asked T.C_Share) := by
  refine T.F_is_row.ok sc_is_row (fun vs H Q E h => ?_) (fun cdv A outer s H vs Q E hr h => ?_)
  · obtain ⟨a, dw, di, dm, kw, ki, km, k, v, b, rfl, hA, hR, q⟩ := h
    rfl
  obtain ⟨a, dw, di, dm, kw, ki, km, k, v, b, rfl, hA, hR, q⟩ := h
  refine ⟨_, (pss_cons (ps_if (PW.pt (pw_or (pt_not (pt_val (pe_callB call_isi (by rfl) T.z_isinstance (by decide +kernel) (pa_cons (pv 1) (pa_cons (pe_bltn (v := .ty "tuple") (by rfl) T.z_tuple (by decide +kernel) rfl) pa_nil))))) (pw_or1 (pt_cmpR op_ne (pe_callB call_len_seq (by rfl) T.z_len PySem.boot_len (pa_cons (pv 1) pa_nil)) (pe_glob (v := .int 4) (by rfl) T.g_ROW_LENGTH ⟨_, rfl⟩) (nomark _))))) (pss_one (ps_ret pe_bl)) pss_nil)
      (pss_cons (ps_asg (pv 1) (pg_tup (by rfl) (pgs_cons (pg_name (i := 2) sc_is_row.nd rfl (Or.inl rfl)) (pgs_cons (pg_name (i := 3) sc_is_row.nd rfl (Or.inl rfl)) (pgs_cons (pg_name (i := 4) sc_is_row.nd rfl (Or.inl rfl)) (pgs_cons (pg_name (i := 5) sc_is_row.nd rfl (Or.inl rfl)) pgs_nil))))))
      (pss_cons (ps_if (PW.pt (pw_or (pt_not (pt_val (pe_call (ok_is_int T) (hr.mono (by decide)) (by rfl) T.g_is_int T.F_is_int.kp T.b_is_int .nil pass0 (pa_cons (pv 2) pa_nil)))) (pw_or (pt_not (pt_val (pe_call (ok_is_int T) (hr.mono (by decide)) (by rfl) T.g_is_int T.F_is_int.kp T.b_is_int .nil pass0 (pa_cons (pv 3) pa_nil)))) (pw_or1 (pt_not (pt_val (pe_call (ok_is_whole T) (hr.mono (by decide)) (by rfl) T.g_is_whole T.F_is_whole.kp T.b_is_whole .nil pass0 (pa_cons (pv 4) (pa_cons pe_int (pa_cons (pe_op op_sub (pe_fld (pv 0) rfl) pe_int) pa_nil)))))))))) (pss_one (ps_ret pe_bl)) pss_nil)
      (pss_one (ps_ret (pe_and (pe_callB call_isi (by rfl) T.z_isinstance (by decide +kernel) (pa_cons (pv 5) (pa_cons (pe_glob (v := .ref T.C_Share) (by rfl) T.g_Share rfl) pa_nil))) (pe_one (pe_cmp (pc_din (Nat.lt_of_le_of_lt (Nat.add_le_add_left (by decide) _) hr.units) (pe_tup (pa_cons (pv 2) (pa_cons (pv 3) pa_nil))) (pe_fld (pv 0) rfl)))))))))), ?_⟩
  obtain ⟨_, ⟨dx, ha⟩, hw, hdw, hi, hdi, hm, hdm⟩ := id hA
  cases hR with
  | @row t s l r o x ht hs =>
    obtain ⟨ds, hs'⟩ := id hs
    refine ⟨_, rfl, _, _, _, _, _, rfl, .ty _, .base (.tup ht), kit_ty (r := true) (by decide +kernel), _, rfl, iteF ⟨_, rfl, t, _, rfl, .inr (SqT.of ht), rfl, _, rfl, ?_⟩⟩
    rw [show (!decide (V.int (([V.int l, V.int r, V.int o, V.ref s].length : Nat) : Int) = V.int 4)) = false from rfl]
    refine iteF ⟨_, rfl, t, _, rfl, SqT.of ht, rfl, _, _, rfl, _, _, rfl, _, _, rfl, _, _, rfl, rfl, ?_⟩
    refine ⟨_, rfl, .int l, rfl, .int l, _, rfl, iteF ⟨_, rfl, .int r, rfl, .int r, _, rfl, iteF ?_⟩⟩
    refine ⟨_, rfl, _, rfl, a, _, dx, _, _, rfl, ha, T.cl_Asked, T.n_Asked_halves, af_halves .., _, _, rfl, rfl, .int o, 0, (k.hv : Int) - 1, rfl, .int o, _, rfl, ?_⟩
    have ew : whl (.int o) 0 ((k.hv : Int) - 1) = (decide (0 ≤ o) && decide (o ≤ (k.hv : Int) - 1)) := rfl
    cases hwb : whl (.int o) 0 ((k.hv : Int) - 1) with
    | false =>
      rw [← ew, hwb, Bool.false_and] at q
      exact iteT (q H (Same.refl _))
    | true =>
      rw [← ew, hwb, Bool.true_and] at q
      refine iteF ⟨_, rfl, .ref s, .ref T.C_Share, .ref T.C_Share, .ref T.C_Share, true, rfl, .own _, T.i_Share.ty T.cl_Share hs', T.i_Share.kit, _, rfl, iteT ?_⟩
      refine ⟨_, rfl, _, rfl, (by show 2 ≤ sizeLine; decide), fun t2 ht2 => ?_⟩
      have s2 := same_upd ht2 (o := .tup [.int l, .int r])
      refine ⟨_, rfl, a, _, dx, _, _, rfl, s2 _ _ ha, T.cl_Asked, T.n_Asked_within, af_within .., di, _, rfl, .inr ⟨ki, key2 (l, r), t2, (hA.same s2).hi, rfl, upd_same, rfl⟩, ?_⟩
      rw [within_has hdi (l, r)]
      exact q _ s2
  | no ty kit =>
    exact ⟨_, rfl, _, _, _, _, _, rfl, .ty _, ty, kit, _, rfl, iteT (iteT (q H (Same.refl _)))⟩
  | @len t xs ht hl =>
    refine ⟨_, rfl, _, _, _, _, _, rfl, .ty _, .base (.tup ht), kit_ty (r := true) (by decide +kernel), _, rfl, iteF ⟨_, rfl, t, _, rfl, .inr (SqT.of ht), rfl, _, rfl, ?_⟩⟩
    rw [show (!decide (V.int ((xs.length : Nat) : Int) = V.int 4)) = true by
      rw [decide_eq_false (fun e => hl (by injection e; omega))]
      rfl]
    exact iteT (q H (Same.refl _))
end
end KB
namespace KB
open PySem PySem.Spec PyProof.Rows L2 KA

section
variable {P : Program} {w : World} {K : PySem.W.Frag} {mg : Str → Option Value} {base : Heap}
theorem tyx_same {K : PySem.W.Frag} {H H' : Hp} (s : Same H H') {v : V} {t : Value} (h : TyX K H v t) : TyX K H' v t := by
  cases h with
  | base h =>
    cases h with
    | non => exact .base .non
    | bl y => exact .base (.bl y)
    | int i => exact .base (.int i)
    | str y => exact .base (.str y)
    | flt y => exact .base (.flt y)
    | lst e => exact .base (.lst (s _ _ e))
    | frz e => exact .base (.frz (s _ _ e))
    | tup e => exact .base (.tup (s _ _ e))
    | dK e => exact .base (.dK (s _ _ e))
    | dT e => exact .base (.dT (s _ _ e))
    | ins e cl ha hn htk hm => exact .base (.ins (s _ _ e) cl ha hn htk hm)
  | byt y => exact .byt y
  | set e => exact .set (s _ _ e)
  | kList e c => exact .kList e c
  | kTuple e c => exact .kTuple e c
  | kDict e c => exact .kDict e c
  | fTuple e => exact .fTuple (s _ _ e)
  | fDict e => exact .fDict (s _ _ e)
theorem RowIs.same {K : PySem.W.Frag} {CS : Addr} {k : Ak} {H H' : Hp} {v : V} {b : Bool} (s : Same H H') (h : RowIs K CS k H v b) : RowIs K CS k H' v b := by
  cases h with
  | row ht hs => exact .row (s _ _ ht) (hs.same (NL.of s))
  | no ty kit => exact .no (tyx_same s ty) kit
  | len ht hl => exact .len (s _ _ ht) hl
/-! ### a paper's rows by their outs -/
abbrev Rwp := Pr × Nat × Sh
inductive PRow (K : PySem.W.Frag) (CS : Addr) (k : Ak) (H : Hp) : V → Option Rwp → Prop where
  | row {t s : Addr} {z : Pr} {o : Nat} {x : Sh} (ht : H t = some (.tup [.int z.1, .int z.2, .int (o : Int), .ref s])) (hs : ShAt CS H s x) (ho : o < k.hv) (hz : z ∈ k.fnd) : PRow K CS k H (.ref t) (some (z, o, x))
  | none {v : V} (h : RowIs K CS k H v false) : PRow K CS k H v none
def putRows : List (Option Rwp) → List (List (Pr × Sh)) → Option (List (List (Pr × Sh)))
  | [], T => some T
  | none :: _, _ => none
  | some (z, o, x) :: r, T => if z ∈ (T.getD o []).map Prod.fst then none else putRows r (T.set o (T.getD o [] ++ [(z, x)]))
theorem dctQ_has {kvs : List (List Key × V)} {qs : List (Pr × Sh)} (h : kvs.map Prod.fst = qs.map fun p => key2 p.1) (z : Pr) : (valV kvs (key2 z)).isSome = decide (z ∈ qs.map Prod.fst) := by
  rw [← valV_any, Bool.eq_iff_iff, List.any_eq_true, decide_eq_true_eq]
  constructor
  · rintro ⟨p, hp, e⟩
    have e1 : p.1 = key2 z := of_decide_eq_true e
    have m : key2 z ∈ qs.map fun p => key2 p.1 := by
      rw [← h, ← e1]
      exact List.mem_map_of_mem hp
    obtain ⟨y, hy, ey⟩ := List.mem_map.mp m
    rw [← key2_inj ey]
    exact List.mem_map_of_mem hy
  · intro hz
    obtain ⟨y, hy, rfl⟩ := List.mem_map.mp hz
    have m : key2 y.1 ∈ kvs.map Prod.fst := by
      rw [h]
      exact List.mem_map_of_mem (f := fun p : Pr × Sh => key2 p.1) hy
    obtain ⟨p, hp, e⟩ := List.mem_map.mp m
    exact ⟨p, hp, decide_eq_true e⟩
/-- dicts by outs -/
def ToldAt (CS : Addr) (H0 H : Hp) (ds : List Addr) (T : List (List (Pr × Sh))) : Prop := ds.Nodup ∧ (∀ d ∈ ds, H0 d = none) ∧ FF (fun d qs => ∃ kvs, H d = some (.dT kvs) ∧ DctQ CS H kvs qs) ds T
def spShares (K : PySem.W.Frag) (CA CS : Addr) : Sp := fun vs H Q _ => ∃ (a dw di dm : Addr) (kw : List (Key × V)) (ki km : List (List Key × V)) (k : Ak) (v : V), vs = [.ref a, v] ∧ AkIn CA CS H a dw di dm kw ki km k ∧ k.hv ≤ 8 ∧
  ((∃ t, TyX K H v t ∧ PySem.W.kitOne K t (.type "list") = some false ∧ Q .non H) ∨
   ∃ (p : Addr) (xs : List V) (rs : List (Option Rwp)), v = .ref p ∧ H p = some (.lst xs) ∧ FF (PRow K CS k H) xs rs ∧ rs.length ≤ 10000 ∧
     (putRows rs (List.replicate k.hv []) = none → ∀ H', Same H H' → Q .non H') ∧
     ∀ T, putRows rs (List.replicate k.hv []) = some T → ∀ (H' : Hp) (l : Addr) (ds : List Addr), Same H H' → H l = none → H' l = some (.lst (ds.map .ref)) → ToldAt CS H H' ds T → Q (.ref l) H')
theorem ok_shares_by_out (T : Tx K mg) : FnOk P w K mg base CX0 4 T.A_shares_by_out T.fd_shares_by_out ["asked", "paper"] (spShares K T.C_Asked T.C_Share) := by
  refine T.F_shares_by_out.ok sc_shares_by_out (fun vs H Q E h => ?_) (fun cdv A outer s H vs Q E hr h => ?_)
  · obtain ⟨a, dw, di, dm, kw, ki, km, k, v, rfl, hA, hv8, hV⟩ := h
    rfl
  obtain ⟨a, dw, di, dm, kw, ki, km, k, v, rfl, hA, hv8, hV⟩ := h
  refine ⟨_, (pss_cons (ps_if (pt_not (pt_val (pe_callB call_isi (by rfl) T.z_isinstance (by decide +kernel) (pa_cons (pv 1) (pa_cons (pe_bltn (v := .ty "list") (by rfl) T.z_list (by decide +kernel) rfl) pa_nil))))) (pss_one (ps_ret pe_non)) pss_nil)
      (pss_cons (ps_setLc (i := 2) (own := [("out", 6)]) (g := gName 6) (tt := tYes) rfl sc_shares_by_out.nd rfl rfl (sw_true rfl rfl rfl (by decide +kernel)) (pi_range1 (by rfl) T.z_range (pa_cons (pe_fld (pv 0) rfl) pa_nil)) (blkOk_by (N := ["asked", "paper", "told", "row", "left", "right", "out", "share"]) (sc := defScope s_shares_by_out) (by decide +kernel)) (fun _ _ _ _ _ => (pg_name (i := 6) sc_shares_by_out.nd rfl (Or.inl rfl))) (fun _ _ _ _ _ => pts_nil) (fun _ _ _ _ _ => pe_dnewT))
      (pss_cons (ps_for PassesOwn.never rfl (pi_list (pv 1)) (pg_name (i := 3) sc_shares_by_out.nd rfl (Or.inl rfl))
        (pss_cons (ps_if (pt_not (pt_val (pe_call (ok_is_row T) (hr.mono (by decide)) (by rfl) T.g_is_row T.F_is_row.kp T.b_is_row .nil pass0 (pa_cons (pv 0) (pa_cons (pv 3) pa_nil))))) (pss_one (ps_ret pe_non)) pss_nil)
      (pss_cons (ps_asg (pv 3) (pg_tup (by rfl) (pgs_cons (pg_name (i := 4) sc_shares_by_out.nd rfl (Or.inl rfl)) (pgs_cons (pg_name (i := 5) sc_shares_by_out.nd rfl (Or.inl rfl)) (pgs_cons (pg_name (i := 6) sc_shares_by_out.nd rfl (Or.inl rfl)) (pgs_cons (pg_name (i := 7) sc_shares_by_out.nd rfl (Or.inl rfl)) pgs_nil))))))
      (pss_cons (ps_if (pt_cmp (pc_din (Nat.lt_of_le_of_lt (Nat.add_le_add_left (by decide) _) hr.units) (pe_tup (pa_cons (pv 4) (pa_cons (pv 5) pa_nil))) (pe_ix ix_list (pv 2) (pv 6) (fun _ _ => rfl)))) (pss_one (ps_ret pe_non)) pss_nil)
      (pss_one (ps_dput (Nat.lt_of_le_of_lt (Nat.add_le_add_left (by decide) _) hr.units) (pe_ix ix_list (pv 2) (pv 6) (fun _ _ => rfl)) (pe_tup (pa_cons (pv 4) (pa_cons (pv 5) pa_nil))) (pv 7) rfl))))))
      (pss_one (ps_ret (pv 2)))))), ?_⟩
  obtain ⟨_, ⟨dx, ha⟩, hw, hdw, hi, hdi, hm, hdm⟩ := id hA
  rcases hV with ⟨t, ty, kit, q⟩ | ⟨p, xs, rs, rfl, hp, hF, hl, q0, q1⟩
  · exact ⟨_, rfl, _, _, _, _, _, rfl, .ty _, ty, kit, _, rfl, iteT q⟩
  refine ⟨_, rfl, _, _, _, _, _, rfl, .ty _, .base (.lst hp), kit_ty (r := true) (by decide +kernel), _, rfl, iteF ?_⟩
  refine ⟨_, rfl, a, _, dx, _, _, rfl, ha, T.cl_Asked, T.n_Asked_halves, af_halves .., ?_⟩
  refine ⟨_, rfl, by omega, by omega, ?_⟩
  rw [show ((k.hv : Int)).toNat = k.hv from Int.toNat_natCast _]
  intro D hD
  refine lc_range (lo := 0) (n := k.hv) (fun i H' => Same H H' ∧ ∃ ds : List Addr, H' D = some (.lst (ds.map .ref)) ∧ ds.length = i ∧ ds.Nodup ∧ ∀ d ∈ ds, H d = none ∧ d ≠ D ∧ H' d = some (.dT [])) ⟨same_upd hD, [], upd_same, rfl, List.nodup_nil, fun _ h => nomatch h⟩ ?_ ?_
  · rintro i H2 hi ⟨s2, ds, e2, l2, n2, g2⟩
    refine ⟨rfl, yesT fun d hd => ?_⟩
    have nDd : D ≠ d := ne_of_none e2 hd
    have e4 : (upd H2 d (.dT [])) D = some (.lst (ds.map .ref)) := by rw [upd_ne nDd]; exact e2
    refine ⟨ds.map .ref, e4, ?_, fun b o e => ?_, ds ++ [d], ?_, by rw [List.length_append, l2]; rfl, ?_, fun c hc => ?_⟩
    · rw [List.length_map]
      exact Nat.lt_of_le_of_lt (show ds.length ≤ 8 by omega) (by decide)
    · rw [upd_ne (ne_of_none e hD), upd_ne (ne_of_none (s2 _ _ e) hd)]
      exact s2 _ _ e
    · rw [upd_same, List.map_append]
      rfl
    · refine List.nodup_append.mpr ⟨n2, List.pairwise_singleton .., fun x hx y hy => ?_⟩
      rw [List.mem_singleton.mp hy]
      exact ne_of_none (g2 x hx).2.2 hd
    · rcases List.mem_append.mp hc with hc | hc
      · obtain ⟨h1, h2, h3⟩ := g2 c hc
        refine ⟨h1, h2, ?_⟩
        rw [upd_ne h2, upd_ne (ne_of_none h3 hd)]
        exact h3
      · rw [List.mem_singleton.mp hc]
        exact ⟨none_back s2 hd, nDd.symm, by rw [upd_ne nDd.symm]; exact upd_same⟩
  · rintro H2 ⟨s2, ds, e2, l2, n2, g2⟩
    have t2 : ToldAt T.C_Share H H2 ds (List.replicate k.hv []) := ⟨n2, fun d hd => (g2 d hd).1, FF.of (by rw [l2, List.length_replicate]) fun i d qs h1 h2 => by
      rw [List.getElem?_replicate] at h2
      split at h2
      · cases h2
        exact ⟨[], (g2 d (List.mem_of_getElem? h1)).2.2, rfl, fun p hp => nomatch hp⟩
      · cases h2⟩
    have nD : ∀ d ∈ ds, d ≠ D := fun d hd => (g2 d hd).2.1
    refine ⟨_, rfl, p, rfl, ⟨_, SqL.of (s2 _ _ hp)⟩, for_list (K := K) (a := p) (xs := xs) (fun j σ H' => ∃ (w3 w4 w5 w6 w7 : Option V) (R : List (List (Pr × Sh))), σ = [some (.ref a), some (.ref p), some (.ref D), w3, w4, w5, w6, w7] ∧ putRows rs (List.replicate k.hv []) = putRows (rs.drop j) R ∧ R.length = k.hv ∧ (∀ qs ∈ R, qs.length ≤ j) ∧ Same H H' ∧ H' D = some (.lst (ds.map .ref)) ∧ ToldAt T.C_Share H H' ds R) ⟨_, _, _, _, _, _, rfl, rfl, List.length_replicate .., fun qs h => by rw [(List.mem_replicate.mp h).2]; exact Nat.zero_le _, s2, e2, t2⟩ (fun j σ H' _ h => ?_) ?_ ?_⟩
    · obtain ⟨_, _, _, _, _, _, _, _, _, _, s, _⟩ := h
      exact SqL.of (s _ _ hp)
    · rintro j v σ H3 hj ⟨w3, w4, w5, w6, w7, R, rfl, er, lR, bR, s3, e3, t3⟩
      obtain ⟨ro, hro, hrow⟩ := hF.get hj
      have ed : rs.drop j = ro :: rs.drop (j + 1) := by
        obtain ⟨hj', ej⟩ := List.getElem?_eq_some_iff.mp hro
        rw [← ej, List.drop_eq_getElem_cons hj']
      rw [ed] at er
      have hA3 := hA.same s3
      cases hrow with
      | none hR =>
        refine ⟨_, rfl, _, rfl, a, dw, di, dm, kw, ki, km, k, v, false, rfl, hA3, hR.same s3, fun H4 s4 => ⟨_, rfl, iteT ?_⟩⟩
        exact q0 er H4 (s3.trans s4)
      | @row t s z o x ht hs ho hz =>
        have hR : RowIs K T.C_Share k H (.ref t) true := by
          have h := RowIs.row (K := K) (k := k) ht hs
          rwa [decide_eq_true (show (0 : Int) ≤ (o : Int) by omega), decide_eq_true (show (o : Int) ≤ (k.hv : Int) - 1 by omega), decide_eq_true (show (z.1, z.2) ∈ k.fnd from hz)] at h
        refine ⟨_, rfl, _, rfl, a, dw, di, dm, kw, ki, km, k, .ref t, true, rfl, hA3, hR.same s3, fun H4 s4 => ⟨_, rfl, iteF ?_⟩⟩
        have s04 := s3.trans s4
        have ht4 := s04 _ _ ht
        have e4 := s4 _ _ e3
        refine ⟨_, rfl, t, _, rfl, SqT.of ht4, rfl, _, _, rfl, _, _, rfl, _, _, rfl, _, _, rfl, rfl, ?_⟩
        refine ⟨_, rfl, _, rfl, (by show 2 ≤ sizeLine; decide), fun t2 ht2 => ?_⟩
        have z2 := same_upd ht2 (o := .tup [.int z.1, .int z.2])
        have eo : o < ds.length := by rw [l2]; exact ho
        have hd : ds[o]? = some ds[o] := List.getElem?_eq_getElem eo
        generalize ds[o] = d at hd
        obtain ⟨qs, hqs, kvs, ekv, hQ⟩ := t3.2.2.get hd
        have md := List.mem_of_getElem? hd
        have hd' : (ds.map V.ref)[o]? = some (.ref d) := by rw [List.getElem?_map, hd]; rfl
        have egd : R.getD o [] = qs := by rw [List.getD_eq_getElem?_getD, hqs]; rfl
        refine ⟨_, rfl, _, rfl, D, _, (o : Int), _, rfl, rfl, SqL.of (z2 _ _ e4), atI_nat hd', ?_⟩
        refine ⟨d, _, rfl, .inr ⟨kvs, key2 z, t2, .inl (z2 _ _ (s4 _ _ ekv)), rfl, upd_same, rfl⟩, _, rfl, ?_⟩
        rw [dctQ_has hQ.1]
        have er' : putRows rs (List.replicate k.hv []) = if z ∈ qs.map Prod.fst then none else putRows (rs.drop (j + 1)) (R.set o (qs ++ [(z, x)])) := by
          rw [er]
          show (if z ∈ (R.getD o []).map Prod.fst then none else putRows (rs.drop (j + 1)) (R.set o (R.getD o [] ++ [(z, x)]))) = _
          rw [egd]
        by_cases c : z ∈ qs.map Prod.fst
        · rw [if_pos c] at er'
          rw [decide_eq_true c]
          exact iteT (q0 er' _ (s04.trans z2))
        · rw [if_neg c] at er'
          rw [decide_eq_false c]
          refine iteF ⟨_, rfl, _, rfl, _, rfl, D, _, (o : Int), _, rfl, rfl, SqL.of (z2 _ _ e4), atI_nat hd', _, rfl, _, rfl, (by show 2 ≤ sizeLine; decide), fun t3' ht3 => ?_⟩
          have z3 := same_upd ht3 (o := .tup [.int z.1, .int z.2])
          have ez3 : (upd (upd H4 t2 (.tup [.int z.1, .int z.2])) t3' (.tup [.int z.1, .int z.2])) t3' = some (.tup [.int z.1, .int z.2]) := upd_same
          have s35 : Same H3 (upd (upd H4 t2 (.tup [.int z.1, .int z.2])) t3' (.tup [.int z.1, .int z.2])) := s4.trans (z2.trans z3)
          generalize upd (upd H4 t2 (.tup [.int z.1, .int z.2])) t3' (.tup [.int z.1, .int z.2]) = H5 at z3 ez3 s35
          have e5d := s35 _ _ ekv
          have lq := bR qs (List.mem_of_getElem? hqs)
          have lk : kvs.length = qs.length := by
            have := congrArg List.length hQ.1
            rwa [List.length_map, List.length_map] at this
          have jl : j < rs.length := (List.getElem?_eq_some_iff.mp hro).1
          have nHd := t3.2.1 d md
          have s05 := s3.trans s35
          refine ⟨d, _, rfl, DPut.t (k := key2 z) e5d ez3 (Nat.lt_of_le_of_lt (show kvs.length ≤ 10000 by omega) (by decide)), ?_⟩
          refine ⟨_, _, _, _, _, R.set o (qs ++ [(z, x)]), rfl, er', by rw [List.length_set]; exact lR, fun q hq => ?_, fun b u e => ?_, ?_, t3.1, t3.2.1, ?_⟩
          · rcases List.mem_or_eq_of_mem_set hq with hq | rfl
            · exact Nat.le_succ_of_le (bR q hq)
            · rw [List.length_append]
              exact Nat.succ_le_succ lq
          · rw [upd_ne (ne_of_none e nHd)]
            exact s05 _ _ e
          · rw [upd_ne (nD d md).symm]
            exact s35 _ _ e3
          · refine FF.of (by rw [List.length_set, lR]; exact l2) fun i d' qi h1 h2 => ?_
            rw [List.getElem?_set] at h2
            by_cases c2 : o = i
            · subst c2
              have ed' : d' = d := by
                rw [hd] at h1
                exact (Option.some.inj h1).symm
              subst ed'
              rw [if_pos rfl, if_pos (show o < R.length by rw [lR]; exact ho)] at h2
              cases h2
              exact ⟨_, upd_same, ((hQ.oi (OI.of s35)).put c (hs.same (NL.of s05))).oi (OI.at_ e5d fun _ _ _ z => by cases z)⟩
            · rw [if_neg c2] at h2
              obtain ⟨qi', hqi', kvi, eki, hQi⟩ := t3.2.2.get h1
              rw [h2] at hqi'
              cases hqi'
              have ne : d' ≠ d := fun w => by
                obtain ⟨a1, b1⟩ := List.getElem?_eq_some_iff.mp hd
                obtain ⟨a2, b2⟩ := List.getElem?_eq_some_iff.mp h1
                exact c2 ((List.getElem_inj (h₀ := a1) (h₁ := a2) t3.1).mp (by rw [b1, b2, w]))
              exact ⟨kvi, by rw [upd_ne ne]; exact s35 _ _ eki, (hQi.oi (OI.of s35)).oi (OI.at_ e5d fun _ _ _ z => by cases z)⟩
    · rintro σ H3 ⟨w3, w4, w5, w6, w7, R, rfl, er, lR, bR, s3, e3, t3⟩
      rw [hF.len, List.drop_length] at er
      exact ⟨_, rfl, q1 R er H3 D ds s3 hD e3 t3⟩
end
end KB
namespace KB
open PySem PySem.Spec PyProof.Rows L2 KA

section
variable {P : Program} {w : World} {K : PySem.W.Frag} {mg : Str → Option Value} {base : Heap}
/-! ### has each pair its row -/
def okAt (k : Ak) (out : Nat) (hq iq : List (Pr × Sh)) (z : Pr) : Bool := if goesOn k z out iq = [] then true else match findQ hq z with | none => false | some x => !belowS x (worthWith k z (great (goesOn k z out iq)))
def hasAll (k : Ak) (out : Nat) (hq iq : List (Pr × Sh)) : Bool := k.fnd.all (okAt k out hq iq)
def spHasAll (CA CS : Addr) : Sp := fun vs H Q _ => ∃ (a d1 d2 dw di dm : Addr) (out : Nat) (kw : List (Key × V)) (ki km k1 k2 : List (List Key × V)) (k : Ak) (hq iq : List (Pr × Sh)) (m : Nat), vs = [.ref a, .int (out : Int), .ref d1, .ref d2] ∧ AkIn CA CS H a dw di dm kw ki km k ∧ H di = some (.dT ki) ∧ GoodAk k ∧ d1 ≠ di ∧ H d1 = some (.dT k1) ∧ DctQ CS H k1 hq ∧ (∀ p ∈ hq, Ok 2000 p.2) ∧ d2 ≠ di ∧ H d2 = some (.dT k2) ∧ DctQ CS H k2 iq ∧ (∀ p ∈ iq, Ok m p.2) ∧ 110 ≤ m ∧ m ≤ 1778 ∧
  ∀ H', Same H H' → Q (.bl (hasAll k out hq iq)) H'
theorem ok_has_all (T : Tx K mg) : FnOk P w K mg base CX0 7 T.A_has_all T.fd_has_all ["asked", "out", "here", "inner"] (spHasAll T.C_Asked T.C_Share) := by
  refine T.F_has_all.ok sc_has_all (fun vs H Q E h => ?_) (fun cdv A outer s H vs Q E hr h => ?_)
  · obtain ⟨a, d1, d2, dw, di, dm, out, kw, ki, km, k1, k2, k, hq, iq, m, rfl, hA, hdi, hG, n1, e1, hQ1, o1, n2, e2, hQ2, o2, hm1, hm2, q⟩ := h
    rfl
  obtain ⟨a, d1, d2, dw, di, dm, out, kw, ki, km, k1, k2, k, hq, iq, m, rfl, hA, hdi, hG, n1, e1, hQ1, o1, n2, e2, hQ2, o2, hm1, hm2, q⟩ := h
  refine ⟨_, (pss_cons (ps_lock (ps_for PassesOwn.never rfl (pi_keys (pe_fld (pv 0) rfl)) (pg_name (i := 4) sc_has_all.nd rfl (Or.inl rfl))
        (pss_cons (ps_set (i := 5) sc_has_all.nd rfl (Or.inl rfl) (pe_meth (pv 0) T.cl_Asked T.m_Asked_goes_on_by (ok_Asked_goes_on_by T) (hr.mono (by decide)) T.b_Asked_goes_on_by .nil pass0 (pa_cons (pv 4) (pa_cons (pv 1) (pa_cons (pv 3) pa_nil)))))
      (pss_one (ps_if (pt_cmpR op_gt (pe_callB call_len_seq (by rfl) T.z_len PySem.boot_len (pa_cons (pv 5) pa_nil)) pe_int (nomark _)) (pss_one (ps_if (PW.pt (pw_or (pt_cmp (pc_dnotin (Nat.lt_of_le_of_lt (Nat.add_le_add_left (by decide) _) hr.units) (pv 4) (pv 2))) (pw_or1 (pt_val (pe_meth (pe_dget (Nat.lt_of_le_of_lt (Nat.add_le_add_left (by decide) _) hr.units) (pv 2) (pv 4) (fun _ _ => rfl)) T.cl_Share T.m_Share_is_below (ok_Share_is_below T) (hr.mono (by decide)) T.b_Share_is_below .nil pass0 (pa_cons (pe_meth (pv 0) T.cl_Asked T.m_Asked_worth_with (ok_Asked_worth_with T) (hr.mono (by decide)) T.b_Asked_worth_with .nil pass0 (pa_cons (pv 4) (pa_cons (pe_call (ok_greatest T) (hr.mono (by decide)) (by rfl) T.g_greatest T.F_greatest.kp T.b_greatest .nil pass0 (pa_cons (pv 5) pa_nil)) pa_nil))) pa_nil)))))) (pss_one (ps_ret pe_bl)) pss_nil)) pss_nil)))))
      (pss_one (ps_ret pe_bl))), ?_⟩
  obtain ⟨_, ⟨dx, ha⟩, hw, hdw, hi, hdi', hm, hdm⟩ := id hA
  have lki : ki.length = k.fnd.length := by
    have := congrArg List.length hdi'.1
    rwa [List.length_map, List.length_map] at this
  refine ⟨di, .dT ki, hdi, trivial, fun od => ?_⟩
  have hAL := hA.lock hdi od
  have eL1 : (upd H di (.frz od (.dT ki))) d1 = some (.dT k1) := by rw [upd_ne n1]; exact e1
  have eL2 : (upd H di (.frz od (.dT ki))) d2 = some (.dT k2) := by rw [upd_ne n2]; exact e2
  have hL1 : DctQ T.C_Share (upd H di (.frz od (.dT ki))) k1 hq := hQ1.oi (OI.at_ hdi fun _ _ _ z => by cases z)
  have hL2 : DctQ T.C_Share (upd H di (.frz od (.dT ki))) k2 iq := hQ2.oi (OI.at_ hdi fun _ _ _ z => by cases z)
  have eLdi : (upd H di (.frz od (.dT ki))) di = some (.frz od (.dT ki)) := upd_same
  have fin : ∀ (H3 : Hp), Same (upd H di (.frz od (.dT ki))) H3 → Same H (upd H3 di (.dT ki)) := fun H3 s3 => unlock hdi s3
  obtain ⟨_, ⟨dx', ha'⟩, _⟩ := id hAL
  revert hAL eL1 eL2 hL1 hL2 eLdi fin ha'
  generalize upd H di (.frz od (.dT ki)) = HL
  intro hAL eL1 eL2 hL1 hL2 eLdi fin ha'
  refine ⟨_, rfl, a, _, dx', _, _, rfl, ha', T.cl_Asked, T.n_Asked_within, af_within .., di, od, rfl, .inr ⟨ki, eLdi, for_walk walk_keysT (fun j σ H' => ∃ (w4 w5 : Option V), σ = [some (.ref a), some (.int (out : Int)), some (.ref d1), some (.ref d2), w4, w5] ∧ Same HL H' ∧ (k.fnd.take j).all (okAt k out hq iq) = true) ⟨_, _, rfl, Same.refl _, rfl⟩ (fun j σ H' _ h => ?_) ?_ ?_⟩⟩
  · obtain ⟨_, _, _, s, _⟩ := h
    exact s _ _ eLdi
  · rintro j x σ H3 H3' hj ⟨w4, w5, rfl, s3, hall⟩ ⟨rfl, kk, v, qd, hkj, rfl, hqd⟩
    have hz : k.fnd[j]? = some k.fnd[j] := List.getElem?_eq_getElem (by omega)
    generalize k.fnd[j] = z at hz
    have ek : kk = key2 z := by
      have e1 : (ki.map Prod.fst)[j]? = some kk := by rw [List.getElem?_map, hkj]; rfl
      rw [hdi'.1, List.getElem?_map, hz] at e1
      exact (Option.some.inj e1).symm
    subst ek
    have mz : z ∈ k.fnd := List.mem_of_getElem? hz
    have tk : k.fnd.take (j + 1) = k.fnd.take j ++ [z] := by rw [List.take_add_one, hz]; rfl
    have go : ∀ b, okAt k out hq iq z = b → (k.fnd.take (j + 1)).all (okAt k out hq iq) = b := fun b e => by
      rw [tk, List.all_append, hall, Bool.true_and]
      show (okAt k out hq iq z && true) = b
      rw [Bool.and_true, e]
    have bad : okAt k out hq iq z = false → hasAll k out hq iq = false := fun e => List.all_eq_false.mpr ⟨z, mz, by rw [e]; exact Bool.false_ne_true⟩
    have hA3 := hAL.same s3
    obtain ⟨_, ⟨dx3, ha3⟩, _⟩ := id hA3
    refine ⟨_, rfl, a, dx3, _, rfl, ha3, af_no _ _ _ _ _ (by decide +kernel) (by decide +kernel) (by decide +kernel) (by decide +kernel) (by decide +kernel), _, rfl, _, rfl, _, rfl, a, qd, d2, dw, di, dm, _, kw, ki, km, k2, k, z, iq, rfl, hA3, hG, hqd, mz, s3 _ _ eL2, hL2.oi (OI.of s3), fun H4 l4 acc4 s4 hl4 el4 f4 => ?_⟩
    refine ⟨_, rfl, l4, acc4, rfl, .inl (SqL.of el4), _, _, rfl, rfl, _, rfl, ?_⟩
    have s34 := s3.trans s4
    by_cases c : goesOn k z out iq = []
    · have e4 : acc4.length = 0 := by rw [f4.len, c]; rfl
      rw [decide_eq_false (by rw [e4]; decide)]
      exact iteF ⟨_, _, rfl, s34, go true (if_pos c)⟩
    · have e4 : 0 < acc4.length := by
        rw [f4.len]
        exact List.length_pos_iff.mpr c
      rw [decide_eq_true (show (0 : Int) < (acc4.length : Int) by omega)]
      have ec : okAt k out hq iq z = match findQ hq z with | none => false | some x => !belowS x (worthWith k z (great (goesOn k z out iq))) := if_neg c
      have hA4 := hA3.same s4
      obtain ⟨_, ⟨dx4, ha4⟩, _⟩ := id hA4
      have gok := goesOn_ok (z := z) (out := out) hG o2 hm1
      have grk : Ok m (great (goesOn k z out iq)) := by
        unfold great
        refine fold_of (p := fun s => Ok m s) _ _ ?_ gok
        cases hl : goesOn k z out iq with
        | nil => exact absurd hl c
        | cons s l => exact gok s (by rw [hl]; exact List.mem_cons_self ..)
      have hQ4 := hL1.oi (OI.of s34)
      refine iteT ⟨_, rfl, _, rfl, d1, _, rfl, .inr ⟨k1, key2 z, qd, .inl (s34 _ _ eL1), rfl, s4 _ _ hqd, rfl⟩, _, rfl, ?_⟩
      rcases hQ4.get z with ⟨ef, ev⟩ | ⟨x, p, ef, ev, hx⟩
      · rw [ev]
        rw [ef] at ec
        have qq := q _ (fin H4 s34)
        rw [bad ec] at qq
        exact iteT (iteT ⟨s34 _ _ eLdi, qq⟩)
      · rw [ev]
        rw [ef] at ec
        have ec : okAt k out hq iq z = !belowS x (worthWith k z (great (goesOn k z out iq))) := ec
        obtain ⟨dp, fp⟩ := id hx
        refine iteF ⟨_, rfl, _, rfl, d1, _, rfl, .inr ⟨k1, key2 z, qd, .inl (s34 _ _ eL1), rfl, s4 _ _ hqd, ev.symm⟩, p, dp, _, rfl, fp, sf_no _ (by decide +kernel) (by decide +kernel), ?_⟩
        refine ⟨_, rfl, a, dx4, _, rfl, ha4, af_no _ _ _ _ _ (by decide +kernel) (by decide +kernel) (by decide +kernel) (by decide +kernel) (by decide +kernel), _, rfl, _, rfl, l4, acc4, _, m, rfl, SqL.of el4, f4, c, gok, by omega, fun r hr => ?_⟩
        refine ⟨a, qd, r, dw, di, dm, kw, ki, km, k, z, _, m, rfl, hA4, hG, s4 _ _ hqd, mz, hr, grk, by omega, fun H5 r5 s5 h5 => ?_⟩
        have s35 := s34.trans s5
        refine ⟨p, r5, x, _, 2000, m + 222, rfl, hx.same (NL.of s5), h5, o1 _ (findQ_some ef), worthWith_ok hG z grk, by decide, by omega, _, rfl, ?_⟩
        cases hb : belowS x (worthWith k z (great (goesOn k z out iq))) with
        | true =>
          rw [hb] at ec
          have qq := q _ (fin H5 s35)
          rw [bad ec] at qq
          rw [show decide (x.1 * (worthWith k z (great (goesOn k z out iq))).2 < (worthWith k z (great (goesOn k z out iq))).1 * x.2) = true from hb]
          exact iteT ⟨s35 _ _ eLdi, qq⟩
        | false =>
          rw [hb] at ec
          rw [show decide (x.1 * (worthWith k z (great (goesOn k z out iq))).2 < (worthWith k z (great (goesOn k z out iq))).1 * x.2) = false from hb]
          exact iteF ⟨_, _, rfl, s35, go true ec⟩
  · rintro σ H3 ⟨w4, w5, rfl, s3, hall⟩
    rw [lki, List.take_length] at hall
    refine ⟨s3 _ _ eLdi, ?_⟩
    have e : hasAll k out hq iq = true := hall
    rw [e] at q
    exact q _ (fin H3 s3)
def spNone (K : PySem.W.Frag) (CS : Addr) : Sp := fun vs H Q _ => ∃ (l p : Addr) (xs : List V) (ls : List Sh) (x : Sh), vs = [.ref l, .ref p] ∧ H l = some (.lst xs) ∧ FF (SV CS H) xs ls ∧ ls.length ≤ 10000 ∧ (∀ s ∈ ls, Ok 2000 s) ∧ ShAt CS H p x ∧ Ok 2000 x ∧
  ∀ H', Same H H' → Q (.bl (!(ls.any fun s => belowS x s))) H'
theorem ok_none_above (T : Tx K mg) : FnOk P w K mg base CX0 2 T.A_none_above T.fd_none_above ["shares", "most"] (spNone K T.C_Share) := by
  refine T.F_none_above.ok sc_none_above (fun vs H Q E h => ?_) (fun cdv A outer s H vs Q E hr h => ?_)
  · obtain ⟨l, p, xs, ls, x, rfl, hl, hF, hn, hO, hp, hx, q⟩ := h
    rfl
  obtain ⟨l, p, xs, ls, x, rfl, hl, hF, hn, hO, hp, hx, q⟩ := h
  refine ⟨_, (pss_one (ps_ret (pe_not (pe_callB (cr_any rfl) (by rfl) T.z_any (by decide +kernel) (pa_cons (pe_lc (own := [("share", 2)]) (g := gName 2) (tt := tYes) rfl sc_none_above.nd (pi_list (pv 0)) (blkOk_by (N := ["shares", "most", "share"]) (sc := defScope s_none_above) (by decide +kernel)) (fun _ _ _ _ _ => (pg_name (i := 2) sc_none_above.nd rfl (Or.inl rfl))) (fun _ _ _ _ _ => pts_nil) (fun _ _ _ _ _ => (pe_meth (pv 1) T.cl_Share T.m_Share_is_below (ok_Share_is_below T) (hr.mono (by decide)) T.b_Share_is_below .nil pass0 (pa_cons (pv 2) pa_nil)))) pa_nil))))), ?_⟩
  refine ⟨_, rfl, l, rfl, ⟨_, SqL.of hl⟩, fun D hD => lc_listR (K := K) (ts := ls) hD (SqL.of hl) hF.len hn (fun _ => true) (fun v s _ => v = .bl (belowS x s)) (fun _ _ _ _ _ h => h) (fun j y s G2 R C hy hs s2 yes no => ?_) fun H2 acc s2 e2 f2 => ?_⟩
  · obtain ⟨v, hv, b, rfl, hb⟩ := hF.at_ hs
    rw [hv] at hy
    cases hy
    obtain ⟨dp, fp⟩ := id hp
    exact ⟨rfl, yesT ⟨_, rfl, p, dp, _, rfl, s2 _ _ fp, sf_no _ (by decide +kernel) (by decide +kernel), _, rfl, p, b, x, s, 2000, 2000, rfl, hp.same (NL.of s2), hb.same (NL.of s2), hx, hO s (List.mem_of_getElem? hs), by decide, by decide, yes rfl _ _ (Same.refl _) rfl⟩⟩
  · rw [List.filter_eq_self.mpr fun _ _ => rfl] at f2
    have ea : acc = (ls.map (belowS x)).map V.bl := by
      rw [List.map_map]
      exact f2.eq
    refine ⟨D, ls.map (belowS x), rfl, SqL.of (by rw [← ea]; exact e2), _, rfl, ?_⟩
    rw [List.any_map]
    exact q H2 s2
end
end KB
namespace KB
open PySem PySem.Spec PyProof.Rows L2 KA

section
variable {P : Program} {w : World} {K : PySem.W.Frag} {mg : Str → Option Value} {base : Heap}
theorem valV_at {κ : Type} [DecidableEq κ] : ∀ {kvs : List (κ × V)}, (kvs.map Prod.fst).Nodup → ∀ {i : Nat} {p : κ × V}, kvs[i]? = some p → valV kvs p.1 = some p.2
  | q :: kvs, nd, 0, p, h => by
    cases h
    exact valV_pos rfl
  | q :: kvs, nd, i + 1, p, h => by
    rw [List.map_cons, List.nodup_cons] at nd
    have m : p ∈ kvs := List.mem_of_getElem? (i := i) h
    rw [valV_neg (fun e => nd.1 (by rw [e]; exact List.mem_map_of_mem m))]
    exact valV_at nd.2 (i := i) h
theorem DctS.vals {CS : Addr} {H : Hp} {kvs : List (Key × V)} {ws : List (Int × Sh)} (h : DctS CS H kvs ws) (nd : (ws.map Prod.fst).Nodup) : FF (SV CS H) (kvs.map (·.2)) (ws.map Prod.snd) := by
  have l : kvs.length = ws.length := by
    have := congrArg List.length h.1
    rwa [List.length_map, List.length_map] at this
  have ndk : (kvs.map Prod.fst).Nodup := by
    rw [h.1]
    have := List.Pairwise.map (S := fun a b => a ≠ b) (fun n : Int => (Sum.inl n : Key)) (fun a b h e => h (Sum.inl.inj e)) nd
    rwa [List.map_map] at this
  refine FF.of (by rw [List.length_map, List.length_map, l]) fun i v x hv hx => ?_
  rw [List.getElem?_map, Option.map_eq_some_iff] at hv hx
  obtain ⟨kv, hkv, rfl⟩ := hv
  obtain ⟨p, hp, rfl⟩ := hx
  have ek : kv.1 = Sum.inl p.1 := by
    have e1 : (kvs.map Prod.fst)[i]? = some kv.1 := by rw [List.getElem?_map, hkv]; rfl
    rw [h.1, List.getElem?_map, hp] at e1
    exact (Option.some.inj e1).symm
  obtain ⟨a, e1, e2⟩ := h.2 p (List.mem_of_getElem? hp)
  have e3 := valV_at ndk hkv
  rw [ek, e1] at e3
  exact ⟨a, (Option.some.inj e3).symm, e2⟩
theorem DctQ.vals {CS : Addr} {H : Hp} {kvs : List (List Key × V)} {qs : List (Pr × Sh)} (h : DctQ CS H kvs qs) (nd : (qs.map Prod.fst).Nodup) : FF (SV CS H) (kvs.map (·.2)) (qs.map Prod.snd) := by
  have l : kvs.length = qs.length := by
    have := congrArg List.length h.1
    rwa [List.length_map, List.length_map] at this
  have ndk : (kvs.map Prod.fst).Nodup := by
    rw [h.1]
    have := List.Pairwise.map (S := fun a b => a ≠ b) key2 (fun a b h e => h (key2_inj e)) nd
    rwa [List.map_map] at this
  refine FF.of (by rw [List.length_map, List.length_map, l]) fun i v x hv hx => ?_
  rw [List.getElem?_map, Option.map_eq_some_iff] at hv hx
  obtain ⟨kv, hkv, rfl⟩ := hv
  obtain ⟨p, hp, rfl⟩ := hx
  have ek : kv.1 = key2 p.1 := by
    have e1 : (kvs.map Prod.fst)[i]? = some kv.1 := by rw [List.getElem?_map, hkv]; rfl
    rw [h.1, List.getElem?_map, hp] at e1
    exact (Option.some.inj e1).symm
  obtain ⟨a, e1, e2⟩ := h.2 p (List.mem_of_getElem? hp)
  have e3 := valV_at ndk hkv
  rw [ek, e1] at e3
  exact ⟨a, (Option.some.inj e3).symm, e2⟩
theorem putRows_ok {m : Nat} : ∀ (rs : List (Option Rwp)) (R T : List (List (Pr × Sh))), putRows rs R = some T → (∀ r, some r ∈ rs → Ok m r.2.2) → (∀ qs ∈ R, (∀ p ∈ qs, Ok m p.2) ∧ (qs.map Prod.fst).Nodup) → T.length = R.length ∧ ∀ qs ∈ T, (∀ p ∈ qs, Ok m p.2) ∧ (qs.map Prod.fst).Nodup
  | [], R, T, h, _, hR => by
    cases h
    exact ⟨rfl, hR⟩
  | none :: rs, R, T, h, _, _ => nomatch h
  | some (z, o, x) :: rs, R, T, h, hr, hR => by
    have h : (if z ∈ (R.getD o []).map Prod.fst then none else putRows rs (R.set o (R.getD o [] ++ [(z, x)]))) = some T := h
    by_cases c : z ∈ (R.getD o []).map Prod.fst
    · rw [if_pos c] at h; cases h
    · rw [if_neg c] at h
      have ih := putRows_ok rs _ T h (fun r hm => hr r (List.mem_cons_of_mem _ hm)) fun qs hq => ?_
      · rw [List.length_set] at ih
        exact ih
      · rcases List.mem_or_eq_of_mem_set hq with hq | rfl
        · exact hR qs hq
        · have g : (∀ p ∈ R.getD o [], Ok m p.2) ∧ ((R.getD o []).map Prod.fst).Nodup := by
            rw [List.getD_eq_getElem?_getD]
            cases e : R[o]? with
            | none => exact ⟨fun p hp => (List.not_mem_nil hp).elim, List.nodup_nil⟩
            | some q => exact hR q (List.mem_of_getElem? e)
          refine ⟨fun p hp => ?_, ?_⟩
          · rcases List.mem_append.mp hp with hp | hp
            · exact g.1 p hp
            · rw [List.mem_singleton.mp hp]
              exact hr _ (List.mem_cons_self ..)
          · rw [List.map_append]
            refine List.nodup_append.mpr ⟨g.2, List.pairwise_singleton .., fun a ha b hb => ?_⟩
            rw [List.mem_singleton.mp hb]
            exact fun e => c (by have e' : a = z := e; rw [← e']; exact ha)
theorem putRows_len : ∀ (rs : List (Option Rwp)) (B : Nat) (R T : List (List (Pr × Sh))), putRows rs R = some T → (∀ qs ∈ R, qs.length ≤ B) → ∀ qs ∈ T, qs.length ≤ B + rs.length
  | [], B, R, T, h, hR => by
    cases h
    exact hR
  | none :: rs, B, R, T, h, _ => nomatch h
  | some (z, o, x) :: rs, B, R, T, h, hR => by
    have h : (if z ∈ (R.getD o []).map Prod.fst then none else putRows rs (R.set o (R.getD o [] ++ [(z, x)]))) = some T := h
    by_cases c : z ∈ (R.getD o []).map Prod.fst
    · rw [if_pos c] at h; cases h
    · rw [if_neg c] at h
      intro qs hq
      have ih := putRows_len rs (B + 1) _ T h (fun qs hq => by
        rcases List.mem_or_eq_of_mem_set hq with hq | rfl
        · exact Nat.le_succ_of_le (hR qs hq)
        · rw [List.length_append, List.getD_eq_getElem?_getD]
          cases e : R[o]? with
          | none => exact Nat.le_add_left _ _
          | some q => exact Nat.succ_le_succ (hR q (List.mem_of_getElem? e))) qs hq
      rw [List.length_cons]
      omega
theorem FF.take {α β : Type} {R : α → β → Prop} : ∀ {xs : List α} {ys : List β}, FF R xs ys → ∀ n, FF R (xs.take n) (ys.take n)
  | _, _, _, 0 => by
    rw [List.take_zero, List.take_zero]
    exact .nil
  | _, _, .nil, _ + 1 => .nil
  | _, _, .cons h t, n + 1 => .cons h (FF.take t n)
/-! ### does a paper bar -/
def barsT (k : Ak) (long : Nat) (most : Sh) (T : List (List (Pr × Sh))) : Bool :=
  if long = 1 then !((k.ws.map Prod.snd).any fun s => belowS most s)
  else if ((List.range T.length).all fun i => hasAll k i (T.getD i []) (T.getD (i + 1) [])) = true then !(((T.take 1).flatMap fun qs => qs.map Prod.snd).any fun s => belowS most s) else false
def barsO (k : Ak) (long : Nat) (most : Sh) : Option (List (List (Pr × Sh))) → Bool
  | none => false
  | some T => barsT k long most T
def spBars (K : PySem.W.Frag) (CB CS CR C0 C1 C2 : Addr) : Sp := fun vs H Q E => ∃ (b m tf pm : Addr) (long : Nat) (g o : Int) (xs : List V) (rs : List Rw) (u : Rl) (kvs : List (List Str × Int)) (most : Sh) (v : V), vs = [.ref b, .ref m, .int (long : Int), .ref tf, .ref pm, v, .int g, .int o] ∧ Inp CB CR H b m tf long g o xs rs u kvs ∧ ErrOf C0 C1 C2 E H g o rs u kvs ∧ ShAt CS H pm most ∧ Ok 2000 most ∧
  (u.far < u.lo → badOf kvs g o rs = none →
    (∃ t, TyX K H v t ∧ PySem.W.kitOne K t (.type "list") = some false ∧ ∀ H', Same H H' → Q (.bl false) H') ∨
    ∃ (p : Addr) (ys : List V) (ps : List (Option Rwp)), v = .ref p ∧ H p = some (.lst ys) ∧ FF (PRow K CS (akH u rs long kvs g o) H) ys ps ∧ ps.length ≤ 10000 ∧ (∀ r, some r ∈ ps → Ok 1770 r.2.2) ∧
      ∀ H', Same H H' → Q (.bl (barsO (akH u rs long kvs g o) long most (putRows ps (List.replicate (akH u rs long kvs g o).hv [])))) H')
theorem PRow.same {K : PySem.W.Frag} {CS : Addr} {k : Ak} {H H' : Hp} {v : V} {ro : Option Rwp} (s : Same H H') (h : PRow K CS k H v ro) : PRow K CS k H' v ro := by
  cases h with
  | row ht hs ho hz => exact .row (s _ _ ht) (hs.same (NL.of s)) ho hz
  | none h => exact .none (h.same s)
theorem ok_bars_better (T : Tx K mg) : FnOk P w K mg base (L2.CX P w) 12 T.A_bars_better T.fd_bars_better ["beads", "rule", "long", "rates", "most", "paper", "base", "drilled"] (spBars K T.C_Bead T.C_Share T.C_Rule T.C_BadRule T.C_NoSuch T.C_NoShare) := by
  refine T.F_bars_better.ok (CX := L2.CX P w) sc_bars_better (fun vs H Q E h => ?_) (fun cdv A outer s H vs Q E hr h => ?_)
  · obtain ⟨b, m, tf, pm, long, g, o, xs, rs, u, kvs, most, v, rfl, I, er, hpm, omost, q⟩ := h
    rfl
  obtain ⟨b, m, tf, pm, long, g, o, xs, rs, u, kvs, most, v, rfl, I, er, hpm, omost, q⟩ := h
  refine ⟨_, (pss_cons (ps_set (i := 8) sc_bars_better.nd rfl (Or.inl rfl) (pe_call (CX := L2.CX P w) (E := E) (ok_asked_with T) (hr.mono (by decide)) (by rfl) T.g_asked_with T.F_asked_with.kp T.b_asked_with .nil (passes_call (takes_of rfl rfl rfl rfl) (fun _ _ _ _ h => h)) (pa_cons (pv 0) (pa_cons (pv 1) (pa_cons (pv 2) (pa_cons (pv 3) (pa_cons (pv 6) (pa_cons (pv 7) pa_nil))))))))
      (pss_cons (ps_set (i := 9) sc_bars_better.nd rfl (Or.inl rfl) (pe_call (ok_shares_by_out T) (hr.mono (by decide)) (by rfl) T.g_shares_by_out T.F_shares_by_out.kp T.b_shares_by_out .nil pass0 (pa_cons (pv 8) (pa_cons (pv 5) pa_nil))))
      (pss_cons (ps_if (pt_cmpR op_isN (pv 9) pe_non (nomark _)) (pss_one (ps_ret pe_bl)) pss_nil)
      (pss_cons (ps_if (pt_cmpR op_eq (pv 2) pe_int (nomark _)) (pss_one (ps_ret (pe_call (ok_none_above T) (hr.mono (by decide)) (by rfl) T.g_none_above T.F_none_above.kp T.b_none_above .nil pass0 (pa_cons (pe_callTy (call_listVals rfl) (by rfl) T.z_list (by decide +kernel) (pa_cons (pe_bm0 PySem.F.plainAttrs_dict PySem.F.slot_dict_values PySem.F.type_dict_values mt_valsK (pe_fld (pv 8) rfl)) pa_nil)) (pa_cons (pv 4) pa_nil))))) pss_nil)
      (pss_cons (ps_set (i := 10) sc_bars_better.nd rfl (Or.inl rfl) (pe_op op_cat (pe_slice sl_list (pv 9) (po_some pe_int) po_none) (pe_lst (pa_cons pe_dnewT pa_nil))))
      (pss_cons (ps_for (passes_of rfl) rfl (pi_enum (by rfl) T.z_enumerate (pa_cons (pv 9) pa_nil)) (pg_tup (by rfl) (pgs_cons (pg_name (i := 11) sc_bars_better.nd rfl (Or.inl rfl)) (pgs_cons (pg_name (i := 12) sc_bars_better.nd rfl (Or.inl rfl)) pgs_nil)))
        (pss_one (ps_if (pt_not (pt_val (pe_call (ok_has_all T) (hr.mono (by decide)) (by rfl) T.g_has_all T.F_has_all.kp T.b_has_all .nil pass0 (pa_cons (pv 8) (pa_cons (pv 11) (pa_cons (pv 12) (pa_cons (pe_ix ix_list (pv 10) (pv 11) (fun _ _ => rfl)) pa_nil))))))) (pss_one (ps_ret pe_bl)) pss_nil)))
      (pss_one (ps_ret (pe_call (ok_none_above T) (hr.mono (by decide)) (by rfl) T.g_none_above T.F_none_above.kp T.b_none_above .nil pass0 (pa_cons (pe_lock (pe_lc2 (own := [("here", 12), ("share", 13)]) (vs1 := [13]) (g := gName 12) (g1 := gName 13) (tt := tYes) (tt1 := tYes) rfl sc_bars_better.nd (pi_list (pe_slice sl_list (pv 9) po_none (po_some pe_int))) (blkOk_by (N := ["beads", "rule", "long", "rates", "most", "paper", "base", "drilled", "asked", "told", "behind", "out", "here", "share"]) (sc := defScope s_bars_better) (by decide +kernel)) (by decide) (fun _ _ _ _ _ => (pg_name (i := 12) sc_bars_better.nd rfl (Or.inl rfl))) (fun _ _ _ _ _ => pts_nil) (fun _ _ _ _ _ => (pi_valuesT (pv 12))) (fun _ _ _ _ _ => (pg_name (i := 13) sc_bars_better.nd rfl (Or.inl rfl))) (fun _ _ _ _ _ => pts_nil) (fun _ _ _ _ _ => (pv 13)))) (pa_cons (pv 4) pa_nil))))))))))), ?_⟩
  refine ⟨_, rfl, _, rfl, _, rfl, _, rfl, _, rfl, _, rfl, b, m, tf, long, g, o, xs, rs, u, kvs, rfl, I.hb, I.hB, I.hm, I.nd, I.hl, I.hlong, I.hG, I.ht, I.hT, I.hg, I.ho, er.1, fun hf => ⟨er.2 hf, fun hn H1 a s1 hAk => ?_⟩⟩
  have q := q hf hn
  have hG := I.good
  generalize hk : akH u rs long kvs g o = k at q hG hAk
  have hk2 : akOf u rs long (shsU kvs g o rs) = k := hk
  rw [hk2] at hAk
  have lhv : k.hv = long / 2 := by rw [← hk]; rfl
  obtain ⟨dw, di, dm, kw, ki, km, hdi, hA⟩ := hAk
  obtain ⟨_, ⟨dx, ha⟩, hw, hdw, hi, hdi', hm', hdm⟩ := id hA
  refine ⟨_, rfl, _, rfl, a, dw, di, dm, kw, ki, km, k, v, rfl, hA, hG.hv, ?_⟩
  rcases q with ⟨t, ty, kit, q⟩ | ⟨p, ys, ps, rfl, hp, hF, hl, hO, q⟩
  · refine .inl ⟨t, tyx_same s1 ty, kit, ?_⟩
    refine ⟨_, rfl, rfl, _, rfl, ?_⟩
    rw [decide_eq_true (rfl : V.non = V.non)]
    exact iteT (q H1 s1)
  refine .inr ⟨p, ys, ps, rfl, s1 _ _ hp, hF.mono fun v r h => h.same s1, hl, fun en H2 s2 => ?_, fun R eR H2 l ds s2 nl el hT => ?_⟩
  · rw [en] at q
    refine ⟨_, rfl, rfl, _, rfl, ?_⟩
    rw [decide_eq_true (rfl : V.non = V.non)]
    exact iteT (q H2 (s1.trans s2))
  rw [eR] at q
  have q : ∀ H', Same H H' → _ := q
  have lR := putRows_ok (m := 1770) ps _ R eR hO fun qs hq => by
    rw [(List.mem_replicate.mp hq).2]
    exact ⟨fun p hp => (List.not_mem_nil hp).elim, List.nodup_nil⟩
  rw [List.length_replicate] at lR
  obtain ⟨lR, okR⟩ := lR
  have s12 := s1.trans s2
  refine ⟨_, rfl, rfl, _, rfl, ?_⟩
  rw [decide_eq_false (show ¬ V.ref l = V.non from fun z => by cases z)]
  refine iteF ⟨_, rfl, rfl, _, rfl, ?_⟩
  have eb : barsO k long most (some R) = barsT k long most R := rfl
  rw [eb] at q
  by_cases h1 : long = 1
  · rw [decide_eq_true (show V.int (long : Int) = V.int 1 by rw [h1]; rfl)]
    have eb : barsT k long most R = !((k.ws.map Prod.snd).any fun s => belowS most s) := if_pos h1
    rw [eb] at q
    refine iteT ⟨_, rfl, a, _, dx, _, _, rfl, s2 _ _ ha, T.cl_Asked, T.n_Asked_worths, af_worths .., ?_⟩
    have hw2 := s2 _ _ hw
    refine ⟨.inr (.inr (.inl ⟨rfl, .inl ⟨kw, hw2⟩⟩)), dw, kw, rfl, rfl, hw2, fun pv hpv => ?_⟩
    have zv := same_upd hpv (o := vwO pv dw)
    refine ⟨pv, dw, kw, rfl, upd_same, zv _ _ hw2, fun pl hpl => ?_⟩
    have z3 := zv.trans (same_upd hpl (o := .lst (kw.map (·.2))))
    have s14 := s12.trans z3
    refine ⟨_, rfl, pl, pm, _, k.ws.map Prod.snd, most, rfl, upd_same, (hdw.vals hG.wn).mono fun v x h => h.nl (NL.of (s2.trans z3)), ?_, fun x hx => ?_, hpm.same (NL.of s14), omost, fun H' s' => q H' (s14.trans s')⟩
    · rw [List.length_map]
      exact Nat.le_trans hG.wl (by decide)
    · obtain ⟨w', hw', rfl⟩ := List.mem_map.mp hx
      exact (hG.wo w' hw').mono (by decide)
  · rw [decide_eq_false (show ¬ V.int (long : Int) = V.int 1 from fun e => h1 (by injection e; omega))]
    have eb : barsT k long most R = if ((List.range R.length).all fun i => hasAll k i (R.getD i []) (R.getD (i + 1) [])) = true then !(((R.take 1).flatMap fun qs => qs.map Prod.snd).any fun s => belowS most s) else false := if_neg h1
    rw [eb] at q
    refine iteF ⟨_, rfl, 1, rfl, l, _, rfl, SqL.of el, fun l1 hl1 => fun dn hdn => ⟨(by show 1 ≤ sizeLine; decide), fun l2 hl2 => ?_⟩⟩
    rw [show cutV (ds.map V.ref) (some 1) none = (ds.drop 1).map V.ref from (cut_from _ 1).trans (List.map_drop ..).symm] at hdn hl2 ⊢
    have e31 : (upd (upd (upd H2 l1 (.lst ((ds.drop 1).map V.ref))) dn (.dT [])) l2 (.lst [.ref dn])) l1 = some (.lst ((ds.drop 1).map V.ref)) := (same_upd hdn).trans (same_upd hl2) _ _ upd_same
    have e3n : (upd (upd (upd H2 l1 (.lst ((ds.drop 1).map V.ref))) dn (.dT [])) l2 (.lst [.ref dn])) dn = some (.dT []) := same_upd hl2 _ _ upd_same
    have e32 : (upd (upd (upd H2 l1 (.lst ((ds.drop 1).map V.ref))) dn (.dT [])) l2 (.lst [.ref dn])) l2 = some (.lst [.ref dn]) := upd_same
    have s23 : Same H2 (upd (upd (upd H2 l1 (.lst ((ds.drop 1).map V.ref))) dn (.dT [])) l2 (.lst [.ref dn])) := (same_upd hl1).trans ((same_upd hdn).trans (same_upd hl2))
    have ndi : dn ≠ di := (ne_of_none (same_upd hl1 _ _ (s2 _ _ hdi)) hdn).symm
    generalize upd (upd (upd H2 l1 (.lst ((ds.drop 1).map V.ref))) dn (.dT [])) l2 (.lst [.ref dn]) = H3 at e31 e3n e32 s23
    have lds : ds.length = R.length := hT.2.2.len
    have hv8 := hG.hv
    refine ⟨l1, l2, _, _, rfl, rfl, e31, e32, ?_, fun l3 hl3 => ?_⟩
    · rw [List.length_map, List.length_drop]
      exact Nat.le_trans (show ds.length - 1 + 1 ≤ 9 by omega) (by decide)
    have e4b : (upd H3 l3 (.lst ((ds.drop 1).map V.ref ++ [.ref dn]))) l3 = some (.lst ((ds.drop 1).map V.ref ++ [.ref dn])) := upd_same
    have s34 := same_upd hl3 (o := .lst ((ds.drop 1).map V.ref ++ [.ref dn]))
    generalize upd H3 l3 (.lst ((ds.drop 1).map V.ref ++ [.ref dn])) = H4 at e4b s34
    have s24 := s23.trans s34
    have s14 := s2.trans s24
    have e4n := s34 _ _ e3n
    have hT4 : FF (fun d qs => ∃ kvs, H4 d = some (.dT kvs) ∧ DctQ T.C_Share H4 kvs qs) ds R := hT.2.2.mono fun d qs h => by
      obtain ⟨kvs, h1, h2⟩ := h
      exact ⟨kvs, s24 _ _ h1, h2.oi (OI.of s24)⟩
    have el4 := s24 _ _ el
    have nds : ∀ d ∈ ds, d ≠ di := fun d hd => (ne_of_none hdi (hT.2.1 d hd)).symm
    refine ⟨_, rfl, l, _, rfl, SqL.of el4, for_walk (walk_enum (K := K) (a := l) (xs := ds.map V.ref)) (fun i σ H' => ∃ (w11 w12 : Option V), σ = [some (.ref b), some (.ref m), some (.int (long : Int)), some (.ref tf), some (.ref pm), some (.ref p), some (.int g), some (.int o), some (.ref a), some (.ref l), some (.ref l3), w11, w12, none] ∧ Same H4 H' ∧ ((List.range i).all fun i => hasAll k i (R.getD i []) (R.getD (i + 1) [])) = true) ⟨_, _, rfl, Same.refl _, rfl⟩ (fun i σ H' _ h => ?_) ?_ ?_⟩
    · obtain ⟨_, _, _, s, _⟩ := h
      exact SqL.of (s _ _ el4)
    · rintro i x σ H5 H6 hi ⟨w11, w12, rfl, s5, hall⟩ ⟨tq, x', y', rfl, hT', rfl, hx, hy⟩
      cases hx
      have hy : (ds.map V.ref)[i]? = some y' := hy
      rw [List.getElem?_map, Option.map_eq_some_iff] at hy
      obtain ⟨d1, hd1, rfl⟩ := hy
      have md1 := List.mem_of_getElem? hd1
      have hids : i < ds.length := (List.getElem?_eq_some_iff.mp hd1).1
      have s46 := s5.trans (same_upd hT' (o := .tup [.int (i : Nat), .ref d1]))
      obtain ⟨hq, hhq, k1, ek1, hQ1⟩ := hT4.get hd1
      have eg1 : R.getD i [] = hq := by rw [List.getD_eq_getElem?_getD, hhq]; rfl
      obtain ⟨d2, k2, iq, hd2, n2, ek2, hQ2, eg2, o2⟩ : ∃ (d2 : Addr) (k2 : List (List Key × V)) (iq : List (Pr × Sh)), ((ds.drop 1).map V.ref ++ [.ref dn])[i]? = some (.ref d2) ∧ d2 ≠ di ∧ H4 d2 = some (.dT k2) ∧ DctQ T.C_Share H4 k2 iq ∧ R.getD (i + 1) [] = iq ∧ ∀ p ∈ iq, Ok 1770 p.2 := by
        by_cases c : i + 1 < ds.length
        · have hd2 : ds[i + 1]? = some ds[i + 1] := List.getElem?_eq_getElem c
          generalize ds[i + 1] = d2 at hd2
          obtain ⟨iq, hiq, k2, ek2, hQ2⟩ := hT4.get hd2
          refine ⟨d2, k2, iq, ?_, nds d2 (List.mem_of_getElem? hd2), ek2, hQ2, by rw [List.getD_eq_getElem?_getD, hiq]; rfl, (okR iq (List.mem_of_getElem? hiq)).1⟩
          rw [List.getElem?_append_left (by rw [List.length_map, List.length_drop]; omega), List.getElem?_map, List.getElem?_drop, Nat.add_comm, hd2]
          rfl
        · refine ⟨dn, [], [], ?_, ndi, e4n, ⟨rfl, fun p hp => (List.not_mem_nil hp).elim⟩, ?_, fun p hp => (List.not_mem_nil hp).elim⟩
          · rw [List.getElem?_append_right (by rw [List.length_map, List.length_drop]; omega), List.length_map, List.length_drop, show i - (ds.length - 1) = 0 by omega]
            rfl
          · rw [List.getD_eq_getElem?_getD, List.getElem?_eq_none (by omega)]
            rfl
      have fi : hasAll k i (R.getD i []) (R.getD (i + 1) []) = hasAll k i hq iq := by rw [eg1, eg2]
      have s16 := s14.trans s46
      refine ⟨tq, _, rfl, SqT.of upd_same, rfl, _, _, rfl, _, _, rfl, rfl, ?_⟩
      refine ⟨_, rfl, _, rfl, _, rfl, _, rfl, _, rfl, l3, _, (i : Int), _, rfl, rfl, SqL.of (s46 _ _ e4b), atI_nat hd2, a, d1, d2, dw, di, dm, i, kw, ki, km, k1, k2, k, hq, iq, 1770, rfl, hA.same ((s2.trans s24).trans s46), s46 _ _ (s24 _ _ (s2 _ _ hdi)), hG, nds d1 md1, s46 _ _ ek1, hQ1.oi (OI.of s46), fun p hp => ((okR hq (List.mem_of_getElem? hhq)).1 p hp).mono (by decide), n2, s46 _ _ ek2, hQ2.oi (OI.of s46), o2, by decide, by decide, fun H7 s7 => ⟨_, rfl, ?_⟩⟩
      have s17 := s1.trans ((s2.trans s24).trans (s46.trans s7))
      cases hb : hasAll k i hq iq with
      | false =>
        have hall2 : ((List.range R.length).all fun i => hasAll k i (R.getD i []) (R.getD (i + 1) [])) = false := List.all_eq_false.mpr ⟨i, List.mem_range.mpr (by omega), by rw [fi, hb]; exact Bool.false_ne_true⟩
        rw [hall2, if_neg Bool.false_ne_true] at q
        exact iteT (q H7 s17)
      | true =>
        refine iteF ⟨_, _, rfl, s46.trans s7, ?_⟩
        rw [List.range_succ, List.all_append, hall, Bool.true_and]
        show (hasAll k i (R.getD i []) (R.getD (i + 1) []) && true) = true
        rw [Bool.and_true, fi, hb]
    · rintro σ H5 ⟨w11, w12, rfl, s5, hall⟩
      rw [List.length_map, lds] at hall
      rw [hall, if_pos rfl] at q
      have s15 := s1.trans ((s2.trans s24).trans s5)
      have hT5 : FF (fun d qs => ∃ kvs, H5 d = some (.dT kvs) ∧ DctQ T.C_Share H5 kvs qs) ds R := hT4.mono fun d qs h => by
        obtain ⟨kvs, h1, h2⟩ := h
        exact ⟨kvs, s5 _ _ h1, h2.oi (OI.of s5)⟩
      obtain ⟨dl, kl, edl, hdl⟩ : ∃ (dl : Addr) (kl : List (List Key × V)), H5 dl = some (.dT kl) ∧ ∀ d ∈ ds.take 1, d = dl := by
        cases hds : ds with
        | nil => exact ⟨di, ki, s5 _ _ (s24 _ _ (s2 _ _ hdi)), fun d hd => (List.not_mem_nil hd).elim⟩
        | cons d0 ds' =>
          rw [hds] at hT5
          cases hT5 with
          | cons h t =>
            obtain ⟨kvs, h1, h2⟩ := h
            exact ⟨d0, kvs, h1, fun d hd => List.mem_singleton.mp hd⟩
      have el5 := s5 _ _ el4
      refine ⟨dl, .dT kl, edl, trivial, fun od => ?_⟩
      have elL : (upd H5 dl (.frz od (.dT kl))) l = some (.lst (ds.map .ref)) := by rw [upd_ne (fun w => by rw [w, edl] at el5; cases el5)]; exact el5
      have eLd : (upd H5 dl (.frz od (.dT kl))) dl = some (.frz od (.dT kl)) := upd_same
      have sU : ∀ H6, Same (upd H5 dl (.frz od (.dT kl))) H6 → Same H5 (upd H6 dl (.dT kl)) := fun H6 s => unlock edl s
      have oiL : OI H5 (upd H5 dl (.frz od (.dT kl))) := OI.at_ edl fun _ _ _ z => by cases z
      generalize upd H5 dl (.frz od (.dT kl)) = HL at elL eLd sU oiL
      refine ⟨_, rfl, 1, rfl, l, _, rfl, SqL.of elL, fun lp hlp => ?_⟩
      rw [show cutV (ds.map V.ref) none (some 1) = (ds.take 1).map V.ref from (cut_to _ 1).trans (List.map_take ..).symm]
      have zp := same_upd hlp (o := .lst ((ds.take 1).map V.ref))
      have elp : (upd HL lp (.lst ((ds.take 1).map V.ref))) lp = some (.lst ((ds.take 1).map V.ref)) := upd_same
      generalize upd HL lp (.lst ((ds.take 1).map V.ref)) = HP at zp elp
      have ePd := zp _ _ eLd
      have lenT : ∀ qs ∈ R, qs.length ≤ 10000 := fun qs hq => by
        have := putRows_len ps 0 _ R eR (fun qs hq => by
          rw [(List.mem_replicate.mp hq).2]
          exact Nat.le_refl _) qs hq
        omega
      have vals : ∀ d qs, ds[0]? = some d → R[0]? = some qs → d = dl ∧ FF (SV T.C_Share HP) (kl.map (·.2)) (qs.map Prod.snd) := fun d qs hd hq => by
        have ed : d = dl := hdl d (by
          cases hds : ds with
          | nil => rw [hds] at hd; cases hd
          | cons c cs => rw [hds] at hd; cases hd; exact List.mem_cons_self ..)
        obtain ⟨qs', hqs', kvs', ekv, hQ⟩ := hT5.get hd
        rw [hq] at hqs'
        cases hqs'
        rw [ed, edl] at ekv
        cases ekv
        exact ⟨ed, (hQ.oi (oiL.trans (OI.of zp))).vals (okR qs (List.mem_of_getElem? hq)).2⟩
      refine ⟨lp, rfl, ⟨_, SqL.of elp⟩, fun D hD => itl_loop (K := K) (a := lp) (xs := (ds.take 1).map V.ref) (fun i H' => Same HP H' ∧ ∃ acc, H' D = some (.lst acc) ∧ FF (SV T.C_Share H') acc (((R.take 1).take i).flatMap fun qs => qs.map Prod.snd)) ⟨same_upd hD, [], upd_same, .nil⟩ (fun i H' _ h => SqL.of (h.1 _ _ elp)) ?_ ?_⟩
      · rintro i x H6 hx ⟨s6, acc, eacc, facc⟩
        have i0 : i = 0 := by
          have h1 := (List.getElem?_eq_some_iff.mp hx).1
          rw [List.length_map, List.length_take] at h1
          omega
        subst i0
        rw [List.getElem?_map, Option.map_eq_some_iff] at hx
        obtain ⟨d, hd, rfl⟩ := hx
        have hd0 : ds[0]? = some d := by
          rw [List.getElem?_take] at hd
          exact hd
        obtain ⟨qs, hq0, _⟩ := hT5.get hd0
        obtain ⟨rfl, fv⟩ := vals d qs hd0 hq0
        have facc : FF (SV T.C_Share H6) acc [] := facc
        cases facc
        have e1 : ((R.take 1).take (0 + 1)).flatMap (fun qs => qs.map Prod.snd) = qs.map Prod.snd := by
          cases hR : R with
          | nil => rw [hR] at hq0; cases hq0
          | cons q0 R' =>
            rw [hR] at hq0
            cases hq0
            show (qs.map Prod.snd) ++ [] = _
            rw [List.append_nil]
        refine ⟨rfl, yesT ⟨_, rfl, d, od, kl, rfl, s6 _ _ ePd, walk_loop walk_valuesT (fun j H' => Same HP H' ∧ ∃ acc, H' D = some (.lst acc) ∧ FF (SV T.C_Share H') acc ((qs.map Prod.snd).take j)) ⟨s6, [], eacc, .nil⟩ (fun j H' _ h => h.1 _ _ ePd) ?_ ?_⟩⟩
        · rintro j x H7 H8 hj ⟨s7, acc, e7, f7⟩ ⟨rfl, kk, hkj⟩
          have hv : (kl.map (·.2))[j]? = some x := by rw [List.getElem?_map, hkj]; rfl
          obtain ⟨s0, hs0, hsv⟩ := fv.get hv
          have tk : (qs.map Prod.snd).take (j + 1) = (qs.map Prod.snd).take j ++ [s0] := by rw [List.take_add_one, hs0]; rfl
          have lq := lenT qs (List.mem_of_getElem? hq0)
          have la := f7.len
          rw [List.length_take, List.length_map] at la
          have nz := NL.at_ e7 (o := .lst (acc ++ [x]))
          refine ⟨rfl, yesT ⟨_, rfl, acc, e7, Nat.lt_of_le_of_lt (show acc.length ≤ 10000 by omega) (by decide), fun b o e => ?_, acc ++ [x], upd_same, ?_⟩⟩
          · rw [upd_ne (ne_of_none e hD)]
            exact s7 _ _ e
          · rw [tk]
            exact FF.snoc (hsv.nl ((NL.of s7).trans nz)) (f7.mono fun v s h => h.nl nz)
        · rintro H7 ⟨s7, acc, e7, f7⟩
          have lkl : kl.length = (qs.map Prod.snd).length := by rw [← fv.len, List.length_map]
          rw [lkl, List.take_length] at f7
          refine ⟨s7, acc, e7, ?_⟩
          rw [e1]
          exact f7
      · rintro H6 ⟨s6, acc, eacc, facc⟩
        rw [List.length_map, List.length_take, lds, ← List.length_take, List.take_length] at facc
        have e6d := s6 _ _ ePd
        refine ⟨e6d, ?_⟩
        have s57 := sU H6 (zp.trans s6)
        have eD7 : (upd H6 dl (.dT kl)) D = some (.lst acc) := by rw [upd_ne (ne_of_none ePd hD).symm]; exact eacc
        have f7 : FF (SV T.C_Share (upd H6 dl (.dT kl))) acc ((R.take 1).flatMap fun qs => qs.map Prod.snd) := facc.mono fun v s h => by
          obtain ⟨c, e, h⟩ := h
          exact ⟨c, e, h.oi (OI.at_ e6d fun _ _ _ z => by cases z)⟩
        generalize upd H6 dl (.dT kl) = H7 at s57 eD7 f7
        have s17 := s15.trans s57
        refine ⟨_, rfl, D, pm, acc, _, most, rfl, eD7, f7, ?_, fun s hs => ?_, hpm.same (NL.of s17), omost, fun H8 s8 => q H8 (s17.trans s8)⟩
        · cases hR : R with
          | nil => exact Nat.zero_le _
          | cons q0 R' =>
            show ((q0.map Prod.snd) ++ []).length ≤ 10000
            rw [List.append_nil, List.length_map]
            exact lenT q0 (by rw [hR]; exact List.mem_cons_self ..)
        · obtain ⟨qs, hqs, hs⟩ := List.mem_flatMap.mp hs
          obtain ⟨pp, hpp, rfl⟩ := List.mem_map.mp hs
          exact ((okR qs (List.mem_of_mem_take hqs)).1 pp hpp).mono (by decide)
end
end KB
namespace KB
open PySem PySem.Spec PyProof.Rows L2 KA

section
variable {P : Program} {w : World} {K : PySem.W.Frag} {mg : Str → Option Value} {base : Heap}
def PT : Int → Prop := fun _ => True
theorem dr_nl {PP : Int → Prop} {d : Addr} {n : Nat} {H H' : Hp} (dr : Dr PP d n H) (b : But d H H') : NL H H' := fun c o hn hc => by
  obtain ⟨_, _, _, e, _⟩ := dr
  exact b c o (fun z => by rw [z, e] at hc; exact hn _ (Option.some.inj hc).symm) hc
def spCell (K : PySem.W.Frag) : Sp := fun vs H Q _ => ∃ (a : Addr) (ns : List Int), vs = [.ref a, .int 0] ∧ SqL K H a (ns.map V.int) ∧ Q (.int (ns.headD 0)) H
theorem ok_cell_at (T : Tx K mg) : FnOk P w K mg base CX0 1 T.A_cell_at T.fd_cell_at ["_law_script", "_law_k"] (spCell K) := by
  refine T.F_cell_at.ok sc_cell_at (fun vs H Q E h => ?_) (fun cdv A outer s H vs Q E hr h => ?_)
  · obtain ⟨a, ns, rfl, hS, q⟩ := h
    rfl
  obtain ⟨a, ns, rfl, hS, q⟩ := h
  refine ⟨_, (pss_cons (ps_if (pt_cmpR op_lt (pv 1) (pe_callB call_len_seq (by rfl) T.z_len PySem.boot_len (pa_cons (pv 0) pa_nil)) (nomark _)) (pss_one (ps_ret (pe_ix ix_list (pv 0) (pv 1) (fun _ _ => rfl)))) pss_nil)
      (pss_one (ps_ret pe_int))), ?_⟩
  refine ⟨_, rfl, _, rfl, a, _, rfl, .inl hS, _, _, rfl, rfl, _, rfl, ?_⟩
  cases ns with
  | nil => exact iteF q
  | cons n r =>
    rw [decide_eq_true (show (0 : Int) < (((n :: r).map V.int).length : Int) by rw [List.length_map, List.length_cons]; omega)]
    exact iteT ⟨_, rfl, _, rfl, a, _, _, _, rfl, rfl, hS, atI_nat (j := 0) rfl, q⟩
def spWell : Sp := fun vs H Q _ => ∃ (n : Int), vs = [.int n] ∧ ∀ (d : Addr) (H' : Hp), H d = none → Same H H' → Dr PT d 0 H' → Q (.ref d) H'
theorem ok_well (T : Tx K mg) : FnOk P w K mg base CX0 1 T.A_well T.fd_well ["_law_cell"] (spWell) := by
  refine T.F_well.ok sc_well (fun vs H Q E h => ?_) (fun cdv A outer s H vs Q E hr h => ?_)
  · obtain ⟨n, rfl, q⟩ := h
    rfl
  obtain ⟨n, rfl, q⟩ := h
  refine ⟨_, (pss_one (ps_ret (pe_lst (pa_cons (pe_ix ix_list (pe_lst (pa_cons pe_int (pa_cons (pv 0) pa_nil))) (pe_callTy call_int1 (by rfl) T.z_int (by decide +kernel) (pa_cons (pe_cmpR op_ge (pv 0) (pe_op op_pow pe_int pe_int) (nomark _)) pa_nil)) (fun _ _ => rfl)) (pa_cons (pv 0) (pa_cons pe_int pa_nil)))))), ?_⟩
  refine ⟨_, rfl, (by show 2 ≤ sizeLine; decide), fun l hl => ?_⟩
  refine ⟨_, rfl, _, _, rfl, rfl, ⟨by decide, by decide, by decide⟩, _, _, rfl, rfl, .inr ⟨_, rfl, ?_⟩⟩
  obtain ⟨a, ha⟩ : ∃ a : Int, atI [V.int 0, V.int n] (if decide (10 ^ (18 : Int).toNat ≤ n) = true then (1 : Int) else 0) = some (.int a) := by
    split
    · exact ⟨n, rfl⟩
    · exact ⟨0, rfl⟩
  refine ⟨l, _, _, _, rfl, rfl, SqL.of upd_same, ha, _, rfl, (by show 3 ≤ sizeLine; decide), fun d hd => ?_⟩
  have s1 : Same H (upd H l (.lst [.int 0, .int n])) := same_upd hl
  exact q d _ (s1.free hd) (s1.trans (same_upd hd)) ⟨_, _, _, upd_same, trivial, Int.le_refl _, Int.le_refl _⟩
def spDraw : Sp := fun vs H Q _ => ∃ (d : Addr) (m : Int) (n : Nat), vs = [.ref d, .int m] ∧ 0 < m ∧ m.natAbs.log2 < 9000 ∧ Dr PT d n H ∧ n ≤ 1000000 ∧
  ∀ (H' : Hp) (r : Int), 0 ≤ r → r < m → But d H H' → Dr PT d (n + 1) H' → Q (.int r) H'
theorem ok_draw (T : Tx K mg) : FnOk P w K mg base CX0 1 T.A_draw T.fd_draw ["_law_well_here", "_law_many"] (spDraw) := by
  refine T.F_draw.ok sc_draw (fun vs H Q E h => ?_) (fun cdv A outer s H vs Q E hr h => ?_)
  · obtain ⟨d, m, n, rfl, hm, hl, ⟨a, b, c, hd, _, hc0, hc1⟩, hn, q⟩ := h
    rfl
  obtain ⟨d, m, n, rfl, hm, hl, ⟨a, b, c, hd, _, hc0, hc1⟩, hn, q⟩ := h
  refine ⟨_, (pss_cons (ps_if (pt_cmpR op_gt (pe_ix ix_list (pv 0) pe_int (fun _ _ => rfl)) pe_int (nomark _)) (pss_cons (ps_set (i := 2) sc_draw.nd rfl (Or.inl rfl) (pe_op op_mod (pe_ix ix_list (pv 0) pe_int (fun _ _ => rfl)) (pv 1)))
      (pss_cons (ps_asg (pe_op op_fdivW (pe_ix ix_list (pv 0) pe_int (fun _ _ => rfl)) (pv 1)) (pg_sub (pv 0) pe_int set_list))
      (pss_one (ps_ret (pv 2))))) pss_nil)
      (pss_cons (ps_asg (pe_op op_add (pe_ix ix_list (pv 0) pe_int (fun _ _ => rfl)) pe_int) (pg_sub (pv 0) pe_int set_list))
      (pss_cons (ps_set (i := 3) sc_draw.nd rfl (Or.inl rfl) (pe_op op_mod (pe_op op_fdivW (pe_ix ix_list (pv 0) pe_int (fun _ _ => rfl)) pe_int) pe_int))
      (pss_cons (ps_set (i := 4) sc_draw.nd rfl (Or.inl rfl) (pe_op op_mod (pe_op op_pow (pe_op op_add (pe_op op_add (pe_op op_add (pe_op op_mod (pe_ix ix_list (pv 0) pe_int (fun _ _ => rfl)) pe_int) (pe_op op_mul pe_int (pe_ix ix_list (pv 0) pe_int (fun _ _ => rfl)))) (pv 3)) pe_int) pe_int) pe_int))
      (pss_cons (ps_set (i := 4) sc_draw.nd rfl (Or.inl rfl) (pe_op op_mod (pe_op op_mul (pv 4) (pe_op op_add (pe_op op_add (pe_op op_fdiv (pv 4) pe_int) pe_int) (pe_ix ix_list (pv 0) pe_int (fun _ _ => rfl)))) pe_int))
      (pss_one (ps_ret (pe_op op_mod (pe_op op_mod (pe_op op_mul (pv 4) (pe_op op_add (pe_op op_fdiv (pv 4) pe_int) pe_int)) pe_int) (pv 1))))))))), ?_⟩
  refine ⟨_, rfl, d, _, _, _, rfl, rfl, SqL.of hd, atI_nat (j := 0) rfl, _, _, rfl, rfl, _, rfl, ite2 (fun e => ?_) (fun e => ?_)⟩
  · refine ⟨_, rfl, d, _, _, _, rfl, rfl, SqL.of hd, atI_nat (j := 0) rfl, _, rfl, _, _, rfl, rfl, hm, ?_⟩
    refine ⟨_, rfl, d, _, _, _, rfl, rfl, SqL.of hd, atI_nat (j := 0) rfl, _, rfl, _, _, rfl, rfl, ⟨hm, hl⟩, ?_⟩
    refine ⟨_, rfl, d, _, _, 0, rfl, rfl, hd, rfl, ?_⟩
    exact ⟨_, rfl, q _ _ (Int.emod_nonneg _ (by omega)) (Int.emod_lt_of_pos _ hm) But.at_ ⟨_, _, _, upd_same, trivial, hc0, by omega⟩⟩
  · refine ⟨_, rfl, d, _, _, _, rfl, rfl, SqL.of hd, atI_nat (j := 2) rfl, _, _, rfl, rfl, ?_⟩
    refine ⟨_, rfl, d, _, _, 2, rfl, rfl, hd, rfl, ?_⟩
    have hd' : (upd H d (.lst [.int a, .int b, .int (c + 1)])) d = some (.lst [.int a, .int b, .int (c + 1)]) := upd_same
    have e64 : (2 : Int) ^ 64 = 18446744073709551616 := by decide
    refine ⟨_, rfl, d, _, _, _, rfl, rfl, SqL.of hd', atI_nat (j := 1) rfl, _, _, rfl, rfl, ⟨by decide, by decide⟩, _, _, rfl, rfl, (by show (0 : Int) < 65521; decide), ?_⟩
    have hz0 : 0 ≤ b / 2147483629 % 65521 := Int.emod_nonneg _ (by decide)
    have hz1 : b / 2147483629 % 65521 < 65521 := Int.emod_lt_of_pos _ (by decide)
    have hb0 : 0 ≤ b % 2147483629 := Int.emod_nonneg _ (by decide)
    have hb1 : b % 2147483629 < 2147483629 := Int.emod_lt_of_pos _ (by decide)
    refine ⟨_, rfl, d, _, _, _, rfl, rfl, SqL.of hd', atI_nat (j := 1) rfl, _, _, rfl, rfl, (by show (0 : Int) < 2147483629; decide), _, rfl, d, _, _, _, rfl, rfl, SqL.of hd', atI_nat (j := 2) rfl, _, _, rfl, rfl, .inl ⟨by decide, by decide⟩, _, _, rfl, rfl, _, rfl, _, _, rfl, rfl, _, _, rfl, rfl, _, _, rfl, rfl, ⟨by decide, by decide, ?_⟩, _, _, rfl, rfl, (by show (0 : Int) < 2147483647; decide), ?_⟩
    · have e64 : (2 : Nat) ^ 64 = 18446744073709551616 := by decide
      rw [e64]
      show (b % 2147483629 + 7919 * (c + 1) + b / 2147483629 % 65521 + 1).natAbs < _
      omega
    · generalize hx : (b % 2147483629 + 7919 * (c + 1) + b / 2147483629 % 65521 + 1) ^ (5 : Int).toNat % 2147483647 = x
      have hx0 : 0 ≤ x := by rw [← hx]; exact Int.emod_nonneg _ (by decide)
      have hx1 : x < 2147483647 := by rw [← hx]; exact Int.emod_lt_of_pos _ (by decide)
      refine ⟨_, rfl, _, rfl, _, _, rfl, rfl, ⟨by decide, by decide⟩, _, _, rfl, rfl, _, rfl, d, _, _, _, rfl, rfl, SqL.of hd', atI_nat (j := 2) rfl, _, _, rfl, rfl, _, _, rfl, rfl, .inl ⟨?_, ?_⟩, _, _, rfl, rfl, (by show (0 : Int) < 2147483629; decide), ?_⟩
      · rw [e64]; omega
      · rw [e64]; omega
      · generalize hy : x * (x / 1009 + 69621 + (c + 1)) % 2147483629 = y
        have hy0 : 0 ≤ y := by rw [← hy]; exact Int.emod_nonneg _ (by decide)
        have hy1 : y < 2147483629 := by rw [← hy]; exact Int.emod_lt_of_pos _ (by decide)
        refine ⟨_, rfl, _, rfl, _, _, rfl, rfl, ⟨by decide, by decide⟩, _, _, rfl, rfl, _, _, rfl, rfl, .inl ⟨?_, ?_⟩, _, _, rfl, rfl, (by show (0 : Int) < 2147483399; decide), _, rfl, _, _, rfl, rfl, hm, ?_⟩
        · rw [e64]; omega
        · rw [e64]; omega
        · exact q _ _ (Int.emod_nonneg _ (by omega)) (Int.emod_lt_of_pos _ hm) But.at_ ⟨_, _, _, upd_same, trivial, by omega, by omega⟩
def spOf (K : PySem.W.Frag) : Sp := fun vs H Q _ => ∃ (d b : Addr) (n : Nat) (xs : List V), vs = [.ref d, .ref b] ∧ b ≠ d ∧ SqL K H b xs ∧ xs ≠ [] ∧ xs.length ≤ 1000 ∧ Dr PT d n H ∧ n ≤ 1000000 ∧
  ∀ (H' : Hp) (v : V), v ∈ xs → But d H H' → Dr PT d (n + 1) H' → Q v H'
theorem ok_one (T : Tx K mg) : FnOk P w K mg base CX0 2 T.A_one T.fd_one ["_law_well_here", "_law_some"] (spOf K) := by
  refine T.F_one.ok sc_one (fun vs H Q E h => ?_) (fun cdv A outer s H vs Q E hr h => ?_)
  · obtain ⟨d, b, n, xs, rfl, hbd, hS, hne, hlen, dr, hn, q⟩ := h
    rfl
  obtain ⟨d, b, n, xs, rfl, hbd, hS, hne, hlen, dr, hn, q⟩ := h
  refine ⟨_, (pss_one (ps_ret (pe_ix ix_list (pv 1) (pe_call (ok_draw T) (hr.mono (by decide)) (by rfl) T.g_draw T.F_draw.kp T.b_draw .nil pass0 (pa_cons (pv 0) (pa_cons (pe_callB call_len_seq (by rfl) T.z_len PySem.boot_len (pa_cons (pv 1) pa_nil)) pa_nil))) (fun _ _ => rfl)))), ?_⟩
  have hl : 0 < (xs.length : Int) := by
    cases xs with
    | nil => exact absurd rfl hne
    | cons x r => rw [List.length_cons]; omega
  refine ⟨_, rfl, _, rfl, _, rfl, b, xs, rfl, .inl hS, d, _, n, rfl, hl, log_tiny hl (by omega), dr, hn, fun H' r h0 h1 bt dr' => ?_⟩
  obtain ⟨j, rfl⟩ : ∃ j : Nat, r = (j : Int) := ⟨r.toNat, by omega⟩
  have hj : j < xs.length := by omega
  exact ⟨b, xs, _, _, rfl, rfl, but_seq bt hbd hS, atI_nat (List.getElem?_eq_getElem hj), q H' _ (List.getElem_mem hj) bt dr'⟩
/-! ### the law's own fractions -/
def lPlus (x y : Int × Int) : Int × Int := (x.1 * y.2 + y.1 * x.2, x.2 * y.2)
def lLess (x y : Int × Int) : Bool := decide (x.1 * y.2 < y.1 * x.2)
def Sz2 (k : Nat) (x : Int × Int) : Prop := Sz k x.1 ∧ Sz k x.2
def spLPlus : Sp := fun vs H Q _ => ∃ (p q : Addr) (x y : Int × Int) (k m : Nat), vs = [.ref p, .ref q] ∧ H p = some (.tup [.int x.1, .int x.2]) ∧ H q = some (.tup [.int y.1, .int y.2]) ∧ Sz2 k x ∧ Sz2 m y ∧ k ≤ 2000 ∧ m ≤ 2000 ∧
  ∀ (H' : Hp) (r : Addr), Same H H' → H' r = some (.tup [.int (lPlus x y).1, .int (lPlus x y).2]) → Q (.ref r) H'
theorem ok_plus (T : Tx K mg) : FnOk P w K mg base CX0 1 T.A_plus T.fd_plus ["_law_one_here", "_law_other"] (spLPlus) := by
  refine T.F_plus.ok sc_plus (fun vs H Q E h => ?_) (fun cdv A outer s H vs Q E hr h => ?_)
  · obtain ⟨p, q', x, y, k, m, rfl, hp, hq, ⟨x1, x2⟩, ⟨y1, y2⟩, hk, hm, q⟩ := h
    rfl
  obtain ⟨p, q', x, y, k, m, rfl, hp, hq, ⟨x1, x2⟩, ⟨y1, y2⟩, hk, hm, q⟩ := h
  refine ⟨_, (pss_one (ps_ret (pe_tup (pa_cons (pe_op op_add (pe_op op_mulW (pe_ix ix_tup (pv 0) pe_int (fun _ _ => rfl)) (pe_ix ix_tup (pv 1) pe_int (fun _ _ => rfl))) (pe_op op_mulW (pe_ix ix_tup (pv 1) pe_int (fun _ _ => rfl)) (pe_ix ix_tup (pv 0) pe_int (fun _ _ => rfl)))) (pa_cons (pe_op op_mulW (pe_ix ix_tup (pv 0) pe_int (fun _ _ => rfl)) (pe_ix ix_tup (pv 1) pe_int (fun _ _ => rfl))) pa_nil))))), ?_⟩
  refine ⟨_, rfl, p, _, 0, _, rfl, rfl, SqT.of hp, rfl, _, rfl, q', _, 1, _, rfl, rfl, SqT.of hq, rfl, _, _, rfl, rfl, x1.mw y2 (by omega), ?_⟩
  refine ⟨_, rfl, q', _, 0, _, rfl, rfl, SqT.of hq, rfl, _, rfl, p, _, 1, _, rfl, rfl, SqT.of hp, rfl, _, _, rfl, rfl, y1.mw x2 (by omega), _, _, rfl, rfl, ?_⟩
  exact ⟨_, rfl, p, _, 1, _, rfl, rfl, SqT.of hp, rfl, _, rfl, q', _, 1, _, rfl, rfl, SqT.of hq, rfl, _, _, rfl, rfl, x2.mw y2 (by omega), (by show 2 ≤ sizeLine; decide), fun t ht => q _ t (same_upd ht) upd_same⟩
def spLess : Sp := fun vs H Q _ => ∃ (p q : Addr) (x y : Int × Int) (k m : Nat), vs = [.ref p, .ref q] ∧ H p = some (.tup [.int x.1, .int x.2]) ∧ H q = some (.tup [.int y.1, .int y.2]) ∧ Sz2 k x ∧ Sz2 m y ∧ k ≤ 2000 ∧ m ≤ 2000 ∧ Q (.bl (lLess x y)) H
theorem ok_less (T : Tx K mg) : FnOk P w K mg base CX0 1 T.A_less T.fd_less ["_law_one_here", "_law_other"] (spLess) := by
  refine T.F_less.ok sc_less (fun vs H Q E h => ?_) (fun cdv A outer s H vs Q E hr h => ?_)
  · obtain ⟨p, q', x, y, k, m, rfl, hp, hq, ⟨x1, x2⟩, ⟨y1, y2⟩, hk, hm, q⟩ := h
    rfl
  obtain ⟨p, q', x, y, k, m, rfl, hp, hq, ⟨x1, x2⟩, ⟨y1, y2⟩, hk, hm, q⟩ := h
  refine ⟨_, (pss_one (ps_ret (pe_cmpR op_lt (pe_op op_mulW (pe_ix ix_tup (pv 0) pe_int (fun _ _ => rfl)) (pe_ix ix_tup (pv 1) pe_int (fun _ _ => rfl))) (pe_op op_mulW (pe_ix ix_tup (pv 1) pe_int (fun _ _ => rfl)) (pe_ix ix_tup (pv 0) pe_int (fun _ _ => rfl))) (nomark _)))), ?_⟩
  exact ⟨_, rfl, p, _, 0, _, rfl, rfl, SqT.of hp, rfl, _, rfl, q', _, 1, _, rfl, rfl, SqT.of hq, rfl, _, _, rfl, rfl, x1.mw y2 (by omega), _, rfl, q', _, 0, _, rfl, rfl, SqT.of hq, rfl, _, rfl, p, _, 1, _, rfl, rfl, SqT.of hp, rfl, _, _, rfl, rfl, y1.mw x2 (by omega), _, _, rfl, rfl, q⟩
def fourV (u : Rl) : List V := [.int u.lo, .int u.hi, .int u.far, .bl u.shd]
def lNext (o i : Rw) (u : Rl) : Bool := decide (u.lo ≤ i.ac - o.ac) && decide (i.ac - o.ac ≤ u.hi)
def spNextIn : Sp := fun vs H Q _ => ∃ (a b f : Addr) (o r : Rw) (u : Rl), vs = [.ref a, .ref b, .ref f] ∧ H a = some (.tup (rowVals o)) ∧ H b = some (.tup (rowVals r)) ∧ H f = some (.tup (fourV u)) ∧ Q (.bl (lNext o r u)) H
theorem ok_next_in (T : Tx K mg) : FnOk P w K mg base CX0 1 T.A_next_in T.fd_next_in ["_law_outer", "_law_inner_here", "_law_four_here"] (spNextIn) := by
  refine T.F_next_in.ok sc_next_in (fun vs H Q E h => ?_) (fun cdv A outer s H vs Q E hr h => ?_)
  · obtain ⟨a, b, f, o, r, u, rfl, ha, hb, hf, q⟩ := h
    rfl
  obtain ⟨a, b, f, o, r, u, rfl, ha, hb, hf, q⟩ := h
  refine ⟨_, (pss_one (ps_ret (pe_chain op_le op_le (pe_ix ix_tup (pv 2) pe_int (fun _ _ => rfl)) (pe_op op_sub (pe_ix ix_tup (pv 1) pe_int (fun _ _ => rfl)) (pe_ix ix_tup (pv 0) pe_int (fun _ _ => rfl))) (pe_ix ix_tup (pv 2) pe_int (fun _ _ => rfl))))), ?_⟩
  refine ⟨_, rfl, f, _, 0, _, rfl, rfl, SqT.of hf, rfl, _, rfl, b, _, 1, _, rfl, rfl, SqT.of hb, rfl, _, rfl, a, _, 1, _, rfl, rfl, SqT.of ha, rfl, _, _, rfl, rfl, _, _, rfl, rfl, _, rfl, ?_⟩
  have e : lNext o r u = (decide (u.lo ≤ r.ac - o.ac) && decide (r.ac - o.ac ≤ u.hi)) := rfl
  cases h : decide (u.lo ≤ r.ac - o.ac) with
  | true =>
    rw [h, Bool.true_and] at e
    rw [e] at q
    exact iteT ⟨_, rfl, f, _, 1, _, rfl, rfl, SqT.of hf, rfl, _, _, rfl, rfl, q⟩
  | false =>
    rw [h, Bool.false_and] at e
    rw [e] at q
    exact iteF q
theorem mem_ints {v : V} {l : List Int} (h : v ∈ l.map V.int) : ∃ i ∈ l, v = .int i := by
  obtain ⟨i, hi, e⟩ := List.mem_map.mp h
  exact ⟨i, hi, e.symm⟩
/-- four as the law draws them -/
def Good4 (u : Rl) : Prop := 1 ≤ u.lo ∧ u.lo ≤ 31 ∧ u.lo ≤ u.hi ∧ u.hi ≤ 71 ∧ 0 ≤ u.far ∧ u.far < u.lo
def spFour : Sp := fun vs H Q _ => ∃ (d : Addr) (n : Nat), vs = [.ref d] ∧ Dr PT d n H ∧ n ≤ 100000 ∧
  ∀ (H' : Hp) (t : Addr) (u : Rl), But d H H' → Dr PT d (n + 7) H' → H' t = some (.tup (fourV u)) → t ≠ d → Good4 u → Q (.ref t) H'
theorem ok_four (T : Tx K mg) : FnOk P w K mg base CX0 3 T.A_four T.fd_four ["_law_well_here"] (spFour) := by
  refine T.F_four.ok sc_four (fun vs H Q E h => ?_) (fun cdv A outer s H vs Q E hr h => ?_)
  · obtain ⟨d, n, rfl, dr, hn, q⟩ := h
    rfl
  obtain ⟨d, n, rfl, dr, hn, q⟩ := h
  refine ⟨_, (pss_cons (ps_set (i := 1) sc_four.nd rfl (Or.inl rfl) (pe_op op_add pe_int (pe_call (ok_one T) (hr.mono (by decide)) (by rfl) T.g_one T.F_one.kp T.b_one .nil pass0 (pa_cons (pv 0) (pa_cons (pe_lst (pa_cons pe_int (pa_cons pe_int (pa_cons pe_int (pa_cons (pe_call (ok_draw T) (hr.mono (by decide)) (by rfl) T.g_draw T.F_draw.kp T.b_draw .nil pass0 (pa_cons (pv 0) (pa_cons pe_int pa_nil))) pa_nil))))) pa_nil)))))
      (pss_cons (ps_set (i := 2) sc_four.nd rfl (Or.inl rfl) (pe_op op_add (pv 1) (pe_call (ok_one T) (hr.mono (by decide)) (by rfl) T.g_one T.F_one.kp T.b_one .nil pass0 (pa_cons (pv 0) (pa_cons (pe_lst (pa_cons pe_int (pa_cons pe_int (pa_cons pe_int (pa_cons (pe_call (ok_draw T) (hr.mono (by decide)) (by rfl) T.g_draw T.F_draw.kp T.b_draw .nil pass0 (pa_cons (pv 0) (pa_cons pe_int pa_nil))) pa_nil))))) pa_nil)))))
      (pss_cons (ps_set (i := 3) sc_four.nd rfl (Or.inl rfl) (pe_call (ok_one T) (hr.mono (by decide)) (by rfl) T.g_one T.F_one.kp T.b_one .nil pass0 (pa_cons (pv 0) (pa_cons (pe_lst (pa_cons pe_int (pa_cons (pe_op op_sub (pv 1) pe_int) (pa_cons (pe_call (ok_draw T) (hr.mono (by decide)) (by rfl) T.g_draw T.F_draw.kp T.b_draw .nil pass0 (pa_cons (pv 0) (pa_cons (pv 1) pa_nil))) pa_nil)))) pa_nil))))
      (pss_one (ps_ret (pe_tup (pa_cons (pv 1) (pa_cons (pv 2) (pa_cons (pv 3) (pa_cons (pe_cmpR op_gt (pe_call (ok_draw T) (hr.mono (by decide)) (by rfl) T.g_draw T.F_draw.kp T.b_draw .nil pass0 (pa_cons (pv 0) (pa_cons pe_int pa_nil))) pe_int (nomark _)) pa_nil)))))))))), ?_⟩
  refine ⟨_, rfl, _, rfl, d, 30, n, rfl, by decide, log_tiny (by decide) (by decide), dr, by omega, fun H1 r1 g0 g1 b1 dr1 => ?_⟩
  refine ⟨(by show 4 ≤ sizeLine; decide), fun l1 hl1 => ?_⟩
  have nl1 : l1 ≠ d := fun z => by
    obtain ⟨_, _, _, e, _⟩ := dr1
    rw [z, e] at hl1
    cases hl1
  refine ⟨d, l1, n + 1, [.int 0, .int 1, .int 4, .int r1], rfl, nl1, SqL.of upd_same, List.cons_ne_nil _ _, by show 4 ≤ 1000; decide, dr1.upd nl1, by omega, fun H2 v hv b2 dr2 => ?_⟩
  obtain ⟨i1, hi1, rfl⟩ := mem_ints (l := [0, 1, 4, r1]) hv
  have q1 : 0 ≤ i1 ∧ i1 ≤ 30 := by
    simp only [List.mem_cons, List.not_mem_nil, or_false] at hi1
    omega
  have B2 : But d H H2 := (b1.trans (But.new hl1)).trans b2
  refine ⟨_, _, rfl, rfl, _, rfl, _, rfl, _, rfl, d, 40, n + 2, rfl, by decide, log_tiny (by decide) (by decide), dr2, by omega, fun H3 r2 g2 g3 b3 dr3 => ?_⟩
  refine ⟨(by show 4 ≤ sizeLine; decide), fun l2 hl2 => ?_⟩
  have nl2 := dr3.ne hl2
  refine ⟨d, l2, n + 3, [.int 0, .int 2, .int 9, .int r2], rfl, nl2, SqL.of upd_same, List.cons_ne_nil _ _, by show 4 ≤ 1000; decide, dr3.upd nl2, by omega, fun H4 v hv b4 dr4 => ?_⟩
  obtain ⟨i2, hi2, rfl⟩ := mem_ints (l := [0, 2, 9, r2]) hv
  have q2 : 0 ≤ i2 ∧ i2 ≤ 39 := by
    simp only [List.mem_cons, List.not_mem_nil, or_false] at hi2
    omega
  have B4 : But d H H4 := ((B2.trans b3).trans (But.new hl2)).trans b4
  refine ⟨_, _, rfl, rfl, ?_⟩
  refine ⟨_, rfl, _, rfl, _, _, rfl, rfl, _, rfl, _, rfl, d, 1 + i1, n + 4, rfl, by omega, log_tiny (by omega) (by omega), dr4, by omega, fun H5 r3 g4 g5 b5 dr5 => ?_⟩
  refine ⟨(by show 3 ≤ sizeLine; decide), fun l3 hl3 => ?_⟩
  have nl3 := dr5.ne hl3
  refine ⟨d, l3, n + 5, [.int 0, .int (1 + i1 - 1), .int r3], rfl, nl3, SqL.of upd_same, List.cons_ne_nil _ _, by show 3 ≤ 1000; decide, dr5.upd nl3, by omega, fun H6 v hv b6 dr6 => ?_⟩
  obtain ⟨i3, hi3, rfl⟩ := mem_ints (l := [0, 1 + i1 - 1, r3]) hv
  have q3 : 0 ≤ i3 ∧ i3 < 1 + i1 := by
    simp only [List.mem_cons, List.not_mem_nil, or_false] at hi3
    omega
  have B6 : But d H H6 := ((B4.trans b5).trans (But.new hl3)).trans b6
  refine ⟨_, rfl, _, rfl, _, rfl, _, rfl, d, 3, n + 6, rfl, by decide, log_tiny (by decide) (by decide), dr6, by omega, fun H7 r4 g6 g7 b7 dr7 => ?_⟩
  refine ⟨_, _, rfl, rfl, (by show 4 ≤ sizeLine; decide), fun t ht => ?_⟩
  have nt := dr7.ne ht
  exact q _ t ⟨1 + i1, 1 + i1 + i2, i3, decide (0 < r4)⟩ ((B6.trans b7).trans (But.new ht)) (dr7.upd nt) upd_same nt ⟨by show 1 ≤ 1 + i1; omega, by show 1 + i1 ≤ 31; omega, by show 1 + i1 ≤ 1 + i1 + i2; omega, by show 1 + i1 + i2 ≤ 71; omega, q3.1, q3.2⟩
end
end KB
namespace KB
open PySem PySem.Spec PyProof.Rows L2 KA

section
variable {P : Program} {w : World} {K : PySem.W.Frag} {mg : Str → Option Value} {base : Heap}
/-! ### the law's worth -/
def lParts (r : Rw) (u o : Int) : Int := u * (if r.dr = true then o else 1)
def lWorth (x : Int) (r : Rw) (u o : Int) : Int × Int := if lParts r u o < 0 then (0 - x * r.we ^ 2, 0 - lParts r u o) else (x * r.we ^ 2, lParts r u o)
def spLWorth : Sp := fun vs H Q _ => ∃ (t tf : Addr) (r : Rw) (kvs : List (List Str × Int)) (x u o : Int), vs = [.ref t, .ref tf, .int u, .int o] ∧ H t = some (.tup (rowVals r)) ∧ GoodRw r ∧ H tf = some (.dT (dictV kvs)) ∧ rateO kvs r = some (.int x) ∧ 0 ≤ x ∧ x < 147573952589676412928 ∧ Sml u ∧ Sml o ∧
  ∀ (H' : Hp) (p : Addr), Same H H' → H' p = some (.tup [.int (lWorth x r u o).1, .int (lWorth x r u o).2]) → Q (.ref p) H'
theorem ok_Lworth (T : Tx K mg) : FnOk P w K mg base CX0 1 T.A_Lworth T.fd_Lworth ["_law_row", "_law_rates_here", "_law_unit", "_law_over"] (spLWorth) := by
  refine T.F_Lworth.ok sc_Lworth (fun vs H Q E h => ?_) (fun cdv A outer s H vs Q E hr h => ?_)
  · obtain ⟨t, tf, r, kvs, x, u, o, rfl, ht, hG, htf, hx, x0, x1, hu, ho, q⟩ := h
    rfl
  obtain ⟨t, tf, r, kvs, x, u, o, rfl, ht, hG, htf, hx, x0, x1, hu, ho, q⟩ := h
  refine ⟨_, (pss_cons (ps_set (i := 4) sc_Lworth.nd rfl (Or.inl rfl) (pe_op op_mulW (pe_dget (Nat.lt_of_le_of_lt (Nat.add_le_add_left (by decide) _) hr.units) (pv 1) (pe_slice sl_tupA (pv 0) (po_some pe_int) (po_some pe_int)) (fun _ _ => rfl)) (pe_op op_pow (pe_ix ix_tup (pv 0) pe_int (fun _ _ => rfl)) pe_int)))
      (pss_cons (ps_set (i := 5) sc_Lworth.nd rfl (Or.inl rfl) (pe_op op_mulW (pv 2) (pe_ix ix_list (pe_lst (pa_cons pe_int (pa_cons (pv 3) pa_nil))) (pe_callTy call_int1 (by rfl) T.z_int (by decide +kernel) (pa_cons (pe_ix ix_tup (pv 0) pe_int (fun _ _ => rfl)) pa_nil)) (fun _ _ => rfl))))
      (pss_one (ps_ret (pe_ix ix_list (pe_lst (pa_cons (pe_tup (pa_cons (pv 4) (pa_cons (pv 5) pa_nil))) (pa_cons (pe_tup (pa_cons (pe_op op_sub pe_int (pv 4)) (pa_cons (pe_op op_sub pe_int (pv 5)) pa_nil))) pa_nil))) (pe_callTy call_int1 (by rfl) T.z_int (by decide +kernel) (pa_cons (pe_cmpR op_lt (pv 5) pe_int (nomark _)) pa_nil)) (fun _ _ => rfl)))))), ?_⟩
  refine ⟨_, rfl, _, rfl, 3, rfl, 5, rfl, sla_of ht fun H1 p1 s1 e1 => ?_⟩
  have e1' : H1 p1 = some (.tup ([Sum.inr r.sh, Sum.inr r.fo].map kV)) := e1
  have gd : DGet H1 tf (.ref p1) (some (.int x)) := by
    have h := DGet.t (k := [Sum.inr r.sh, Sum.inr r.fo]) (s1 _ _ htf) e1'
    rwa [show valV (dictV kvs) [Sum.inr r.sh, Sum.inr r.fo] = some (.int x) from hx] at h
  have hw := whl_of hG.2.2.1
  refine ⟨tf, _, rfl, gd, _, rfl, t, _, 2, _, rfl, rfl, SqT.of (s1 _ _ ht), rfl, _, _, rfl, rfl, ⟨by decide, by decide, ?_⟩, ?_⟩
  · have e64 : (2 : Nat) ^ 64 = 18446744073709551616 := by decide
    rw [e64]
    omega
  have wz : Sz 20 r.we := sml_sz ⟨by omega, by omega⟩
  have wz2 : Sz 40 (r.we ^ 2) := by
    rw [Int.pow_succ, Int.pow_succ, Int.pow_zero, Int.one_mul]
    exact wz.mul wz
  refine ⟨_, _, rfl, rfl, (rate_sz x0 x1).mw wz2 (by omega), ?_⟩
  refine ⟨_, rfl, _, rfl, (by show 2 ≤ sizeLine; decide), fun l hl => ?_⟩
  have z1 := same_upd hl (o := .lst [.int 1, .int o])
  have el : (upd H1 l (.lst [.int 1, .int o])) l = some (.lst [.int 1, .int o]) := upd_same
  generalize upd H1 l (.lst [.int 1, .int o]) = H2 at z1 el
  have s2 := s1.trans z1
  have ei : atI [V.int 1, V.int o] (if r.dr = true then (1 : Int) else 0) = some (.int (if r.dr = true then o else 1)) := by
    cases r.dr <;> rfl
  refine ⟨_, rfl, t, _, 5, _, rfl, rfl, SqT.of (s2 _ _ ht), rfl, .inr ⟨r.dr, rfl, l, _, _, _, rfl, rfl, SqL.of el, ei, ?_⟩⟩
  have sp : Sz 20 (if r.dr = true then o else 1) := by
    split
    · exact sml_sz ho
    · exact sml_sz ⟨by omega, by omega⟩
  refine ⟨_, _, rfl, rfl, (sml_sz hu).mw sp (by omega), ?_⟩
  have e2n : (Int.toNat 2) = 2 := rfl
  refine ⟨_, rfl, _, rfl, (by show 2 ≤ sizeLine; decide), fun p1' hp1 => ?_⟩
  refine ⟨_, rfl, _, _, rfl, rfl, _, rfl, _, _, rfl, rfl, (by show 2 ≤ sizeLine; decide), fun p2 hp2 => ?_⟩
  refine ⟨(by show 2 ≤ sizeLine; decide), fun l2 hl2 => ?_⟩
  have ew : lWorth x r u o = if lParts r u o < 0 then (0 - x * r.we ^ 2, 0 - lParts r u o) else (x * r.we ^ 2, lParts r u o) := rfl
  by_cases c : lParts r u o < 0
  · rw [if_pos c] at ew
    rw [ew] at q
    refine ⟨_, rfl, _, _, rfl, rfl, .inr ⟨decide (lParts r u o < 0), rfl, l2, _, _, .ref p2, rfl, rfl, SqL.of upd_same, by rw [decide_eq_true c]; rfl, q _ p2 (s2.trans ((same_upd hp1).trans ((same_upd hp2).trans (same_upd hl2)))) (same_upd hl2 _ _ upd_same)⟩⟩
  · rw [if_neg c] at ew
    rw [ew] at q
    refine ⟨_, rfl, _, _, rfl, rfl, .inr ⟨decide (lParts r u o < 0), rfl, l2, _, _, .ref p1', rfl, rfl, SqL.of upd_same, by rw [decide_eq_false c]; rfl, q _ p1' (s2.trans ((same_upd hp1).trans ((same_upd hp2).trans (same_upd hl2)))) (((same_upd hp2).trans (same_upd hl2)) _ _ upd_same)⟩⟩
end
end KB
namespace KB
open PySem PySem.Spec PyProof.Rows L2 KA

section
variable {P : Program} {w : World} {K : PySem.W.Frag} {mg : Str → Option Value} {base : Heap}
/-! ### the law's beads, rates and pairs -/
def RwF (H : Hp) (v : V) (r : Rw) : Prop := ∃ t, v = .ref t ∧ H t = some (.tup (rowVals r))
theorem RwF.nl {H H' : Hp} {v : V} {r : Rw} (h : RwF H v r) (s : NL H H') : RwF H' v r := by
  obtain ⟨t, e, h⟩ := h
  exact ⟨t, e, s _ _ (fun _ z => by cases z) h⟩
def spBeads (CB : Addr) : Sp := fun vs H Q _ => ∃ (a : Addr) (xs : List V) (rs : List Rw), vs = [.ref a] ∧ H a = some (.lst xs) ∧ FF (RwF H) xs rs ∧ rs.length ≤ 100 ∧ (∀ r ∈ rs, GoodRw r) ∧
  ∀ (H' : Hp) (l : Addr) (ys : List V), Same H H' → H l = none → H' l = some (.lst ys) → BdL CB H' ys rs → Q (.ref l) H'
theorem ok_beads (T : Tx K mg) : FnOk P w K mg base CX0 6 T.A_beads T.fd_beads ["_law_rows_here"] (spBeads T.C_Bead) := by
  refine T.F_beads.ok sc_beads (fun vs H Q E h => ?_) (fun cdv A outer s H vs Q E hr h => ?_)
  · obtain ⟨a, xs, rs, rfl, ha, hF, hl, hG, q⟩ := h
    rfl
  obtain ⟨a, xs, rs, rfl, ha, hF, hl, hG, q⟩ := h
  refine ⟨_, (pss_one (ps_ret (pe_lc (own := [("_law_row", 1)]) (g := gName 1) (tt := tYes) rfl sc_beads.nd (pi_list (pv 0)) (blkOk_by (N := ["_law_rows_here", "_law_row"]) (sc := defScope s_beads) (by decide +kernel)) (fun _ _ _ _ _ => (pg_name (i := 1) sc_beads.nd rfl (Or.inl rfl))) (fun _ _ _ _ _ => pts_nil) (fun _ _ _ _ _ => (pe_make T.mk_Bead (ok_Bead_init T) (hr.mono (by decide)) (by rfl) T.g_Bead T.b_Bead_init .nil pass0 (pa_cons (pe_ix (ix_tupK (K' := K) rfl) (pv 1) pe_int (fun _ _ => rfl)) (pa_cons (pe_ix (ix_tupK (K' := K) rfl) (pv 1) pe_int (fun _ _ => rfl)) (pa_cons (pe_ix (ix_tupK (K' := K) rfl) (pv 1) pe_int (fun _ _ => rfl)) (pa_cons (pe_ix (ix_tupK (K' := K) rfl) (pv 1) pe_int (fun _ _ => rfl)) (pa_cons (pe_ix (ix_tupK (K' := K) rfl) (pv 1) pe_int (fun _ _ => rfl)) (pa_cons (pe_ix (ix_tupK (K' := K) rfl) (pv 1) pe_int (fun _ _ => rfl)) pa_nil))))))))))), ?_⟩
  refine ⟨_, rfl, a, rfl, ⟨_, SqL.of ha⟩, fun D hD => lc_listR (K := K) (ts := rs) hD (SqL.of ha) hF.len (by omega) (fun _ => true) (fun v r H => ∃ p, v = .ref p ∧ BeadAt T.C_Bead H p r) (fun v r H1 H2 s h => ?_) (fun j x r H2 R C hx hr s2 yes no => ?_) fun H2 acc s2 e2 f2 => ?_⟩
  · obtain ⟨p, e, h⟩ := h
    exact ⟨p, e, h.nl s⟩
  · obtain ⟨v, hv, t, rfl, ht⟩ := hF.at_ hr
    rw [hv] at hx
    cases hx
    have t2 := SqT.of (K := K) (s2 _ _ ht)
    refine ⟨rfl, yesT ⟨_, rfl, t, _, 0, _, rfl, rfl, t2, rfl, _, rfl, t, _, 1, _, rfl, rfl, t2, rfl, _, rfl, t, _, 2, _, rfl, rfl, t2, rfl, _, rfl, t, _, 3, _, rfl, rfl, t2, rfl, _, rfl, t, _, 4, _, rfl, rfl, t2, rfl, _, rfl, t, _, 5, _, rfl, rfl, t2, rfl, fun p dp hp hdp hne => ?_⟩⟩
    exact ⟨p, dp, r, rfl, upd_same, hG r (List.mem_of_getElem? hr), fun H1 hb k1 => ⟨rfl, yes rfl H1 _ (made_same hp hdp k1) ⟨p, rfl, hb⟩⟩⟩
  · rw [List.filter_eq_self.mpr fun _ _ => rfl] at f2
    refine q H2 D acc s2 hD e2 ⟨f2.len, fun i r hr => ?_⟩
    obtain ⟨v, hv, p, rfl, h⟩ := f2.at_ hr
    exact ⟨p, hv, h⟩
end
end KB
namespace KB
open PySem PySem.Spec PyProof.Rows L2 KA

section
variable {P : Program} {w : World} {K : PySem.W.Frag} {mg : Str → Option Value} {base : Heap}
theorem nopart {σ : L2.St} {H : Hp} {R : Option Int → Hp → Prop} (h : R none H) : tNoPart σ H R := h
def absI (i : Int) : Int := if i < 0 then -i else i
def lAlike (u : Rl) (l r : Rw) : Bool := !u.shd || (decide (l.sh = r.sh) && (decide (l.fo = r.fo) && (decide (l.dr = r.dr) && true)))
def lPair (u : Rl) (l r : Rw) : Bool := decide (l.num ≠ r.num) && (lAlike u l r && decide (absI (l.ac - r.ac) ≤ u.far))
def lPairsB (u : Rl) (rs : List Rw) (l : Rw) : List (Rw × Rw) := (rs.filter (lPair u l)).map fun r => (l, r)
def lPairs (u : Rl) (rs : List Rw) : List (Rw × Rw) := rs.flatMap (lPairsB u rs)
def RR2 (H : Hp) (v : V) (z : Rw × Rw) : Prop := ∃ t a b, v = .ref t ∧ H t = some (.tup [.ref a, .ref b]) ∧ H a = some (.tup (rowVals z.1)) ∧ H b = some (.tup (rowVals z.2))
theorem RR2.nl {H H' : Hp} {v : V} {z : Rw × Rw} (h : RR2 H v z) (s : NL H H') : RR2 H' v z := by
  obtain ⟨t, a, b, e, h1, h2, h3⟩ := h
  exact ⟨t, a, b, e, s _ _ (fun _ z => by cases z) h1, s _ _ (fun _ z => by cases z) h2, s _ _ (fun _ z => by cases z) h3⟩
theorem tail3 (K : PySem.W.Frag) {H : Hp} {p q : Addr} {l r : Rw} (hp : H p = some (.tup (cutV (rowVals l) (some 3) none))) (hq : H q = some (.tup (cutV (rowVals r) (some 3) none))) : BTup K BFlat (.ref p) (.ref q) (decide (l.sh = r.sh) && (decide (l.fo = r.fo) && (decide (l.dr = r.dr) && true))) H := by
  refine ⟨p, q, _, _, fun j => match j with | 0 => decide (l.sh = r.sh) | 1 => decide (l.fo = r.fo) | _ => decide (l.dr = r.dr), rfl, rfl, SqT.of hp, SqT.of hq, fun j v1 v2 h1 h2 => ?_, rfl⟩
  match j, h1, h2 with
  | 0, h1, h2 =>
    cases h1
    cases h2
    exact ⟨rfl, rfl, by show (l.sh == r.sh) = decide (l.sh = r.sh); rw [Bool.eq_iff_iff]; simp⟩
  | 1, h1, h2 =>
    cases h1
    cases h2
    exact ⟨rfl, rfl, by show (l.fo == r.fo) = decide (l.fo = r.fo); rw [Bool.eq_iff_iff]; simp⟩
  | 2, h1, h2 =>
    cases h1
    cases h2
    exact ⟨rfl, rfl, by show (l.dr == r.dr) = decide (l.dr = r.dr); cases l.dr <;> cases r.dr <;> rfl⟩
  | j + 3, h1, _ => exact nomatch h1
def spLPairs : Sp := fun vs H Q _ => ∃ (a f : Addr) (xs : List V) (rs : List Rw) (u : Rl), vs = [.ref a, .ref f] ∧ H a = some (.lst xs) ∧ FF (RwF H) xs rs ∧ H f = some (.tup (fourV u)) ∧ rs.length ≤ 30 ∧
  ∀ (H' : Hp) (l : Addr) (ys : List V), Same H H' → H l = none → H' l = some (.lst ys) → FF (RR2 H') ys (lPairs u rs) → Q (.ref l) H'
theorem ok_pairs (T : Tx K mg) : FnOk P w K mg base CX0 3 T.A_pairs T.fd_pairs ["_law_rows_here", "_law_four_here"] (spLPairs) := by
  refine T.F_pairs.ok sc_pairs (fun vs H Q E h => ?_) (fun cdv A outer s H vs Q E hr h => ?_)
  · obtain ⟨a, f, xs, rs, u, rfl, ha, hF, hf, hl, q⟩ := h
    rfl
  obtain ⟨a, f, xs, rs, u, rfl, ha, hF, hf, hl, q⟩ := h
  refine ⟨_, (pss_cons (ps_set (i := 2) sc_pairs.nd rfl (Or.inl rfl) (pe_lst pa_nil))
      (pss_cons (ps_for PassesOwn.never rfl (pi_list (pv 0)) (pg_name (i := 3) sc_pairs.nd rfl (Or.inl rfl))
        (pss_one (ps_for PassesOwn.never rfl (pi_list (pv 0)) (pg_name (i := 4) sc_pairs.nd rfl (Or.inl rfl))
        (pss_cons (ps_set (i := 5) sc_pairs.nd rfl (Or.inl rfl) (pe_or (pe_not (pe_ix ix_tup (pv 1) pe_int (fun _ _ => rfl))) (pe_one (pe_cmpR (op_eqB (rcB_tup (X := _) false monB_flat eqB_flat) (hr.mono (by decide))) (pe_slice sl_tupA (pv 3) (po_some pe_int) po_none) (pe_slice sl_tupA (pv 4) (po_some pe_int) po_none) (nomark _)))))
      (pss_one (ps_if (PW.pt (pw_and (pt_cmpR op_ne (pe_ix ix_tup (pv 3) pe_int (fun _ _ => rfl)) (pe_ix ix_tup (pv 4) pe_int (fun _ _ => rfl)) (nomark _)) (pw_and (pt_val (pv 5)) (pw_and1 (pt_cmpR op_le (pe_callB call_abs (by rfl) T.z_abs (by decide +kernel) (pa_cons (pe_op op_sub (pe_ix ix_tup (pv 3) pe_int (fun _ _ => rfl)) (pe_ix ix_tup (pv 4) pe_int (fun _ _ => rfl))) pa_nil)) (pe_ix ix_tup (pv 1) pe_int (fun _ _ => rfl)) (nomark _)))))) (pss_one (ps_expr (pe_bm PySem.F.plainAttrs_list PySem.F.slot_list_append PySem.F.type_list_append mt_append (pv 2) (pa_cons (pe_tup (pa_cons (pv 3) (pa_cons (pv 4) pa_nil))) pa_nil)))) pss_nil))))))
      (pss_one (ps_ret (pv 2))))), ?_⟩
  refine ⟨(by show 0 ≤ sizeLine; decide), fun D hD => ?_⟩
  have lenB : ∀ i, ((rs.take i).flatMap (lPairsB u rs)).length ≤ 900 := fun i => by
    have := flat_len (f := lPairsB u rs) (n := rs.length) (fun x => by unfold lPairsB; rw [List.length_map]; exact List.length_filter_le _ _) (rs.take i)
    rw [List.length_take] at this
    have : min i rs.length * rs.length ≤ 30 * 30 := Nat.mul_le_mul (by omega) hl
    omega
  refine ⟨_, rfl, a, rfl, ⟨_, SqL.of (same_upd hD _ _ ha)⟩, for_list (K := K) (a := a) (xs := xs) (fun i σ H' => ∃ (w3 w4 w5 : Option V) (ys : List V), σ = [some (.ref a), some (.ref f), some (.ref D), w3, w4, w5] ∧ Same H H' ∧ H' D = some (.lst ys) ∧ FF (RR2 H') ys ((rs.take i).flatMap (lPairsB u rs))) ⟨_, _, _, [], rfl, same_upd hD, upd_same, .nil⟩ (fun i σ H' _ h => ?_) ?_ ?_⟩
  · obtain ⟨_, _, _, _, _, s, _⟩ := h
    exact SqL.of (s _ _ ha)
  · rintro i x σ H2 hi ⟨w3, w4, w5, ys, rfl, s2, e2, f2⟩
    obtain ⟨l, hli, tl, rfl, htl⟩ := hF.get hi
    have tk : rs.take (i + 1) = rs.take i ++ [l] := by rw [List.take_add_one, hli]; rfl
    refine ⟨_, rfl, a, rfl, ⟨_, SqL.of (s2 _ _ ha)⟩, for_list (K := K) (a := a) (xs := xs) (fun j σ H' => ∃ (w4 w5 : Option V) (ys : List V), σ = [some (.ref a), some (.ref f), some (.ref D), some (.ref tl), w4, w5] ∧ Same H H' ∧ H' D = some (.lst ys) ∧ FF (RR2 H') ys ((rs.take i).flatMap (lPairsB u rs) ++ ((rs.take j).filter (lPair u l)).map fun r => (l, r))) ⟨_, _, ys, rfl, s2, e2, by rw [List.take_zero]; show FF _ ys (_ ++ []); rw [List.append_nil]; exact f2⟩ (fun j σ H' _ h => ?_) ?_ ?_⟩
    · obtain ⟨_, _, _, _, s, _⟩ := h
      exact SqL.of (s _ _ ha)
    · rintro j x σ H3 hj ⟨w4, w5, zs, rfl, s3, e3, f3⟩
      obtain ⟨r, hrj, tr, rfl, htr⟩ := hF.get hj
      have tj : rs.take (j + 1) = rs.take j ++ [r] := by rw [List.take_add_one, hrj]; rfl
      have htl3 := s3 _ _ htl
      have htr3 := s3 _ _ htr
      have hf3 := s3 _ _ hf
      have no6 : lPair u l r = false → ∀ (b : Bool) (H6 : Hp), Same H3 H6 → ∃ (w4 w5 : Option V) (ys : List V), [some (V.ref a), some (.ref f), some (.ref D), some (.ref tl), some (.ref tr), some (.bl b)] = [some (.ref a), some (.ref f), some (.ref D), some (.ref tl), w4, w5] ∧ Same H H6 ∧ H6 D = some (.lst ys) ∧ FF (RR2 H6) ys ((rs.take i).flatMap (lPairsB u rs) ++ ((rs.take (j + 1)).filter (lPair u l)).map fun r => (l, r)) := fun e b H6 s6 => by
        refine ⟨_, _, zs, rfl, s3.trans s6, s6 _ _ e3, ?_⟩
        rw [tj, List.filter_append, List.filter_cons_of_neg (by rw [e]; exact Bool.false_ne_true)]
        show FF _ zs (_ ++ (_ ++ []).map _)
        rw [List.append_nil]
        exact f3.mono fun v z h => h.nl (NL.of s6)
      have yes6 : lPair u l r = true → ∀ (b : Bool) (H6 : Hp) (t : Addr), Same H3 H6 → H6 t = some (.tup [.ref tl, .ref tr]) → ∃ (w4 w5 : Option V) (ys : List V), [some (V.ref a), some (.ref f), some (.ref D), some (.ref tl), some (.ref tr), some (.bl b)] = [some (.ref a), some (.ref f), some (.ref D), some (.ref tl), w4, w5] ∧ Same H (upd H6 D (.lst (zs ++ [.ref t]))) ∧ (upd H6 D (.lst (zs ++ [.ref t]))) D = some (.lst ys) ∧ FF (RR2 (upd H6 D (.lst (zs ++ [.ref t])))) ys ((rs.take i).flatMap (lPairsB u rs) ++ ((rs.take (j + 1)).filter (lPair u l)).map fun r => (l, r)) := fun e b H6 t s6 ht => by
        have e6 := s6 _ _ e3
        have nz := NL.at_ e6 (o := .lst (zs ++ [.ref t]))
        refine ⟨_, _, zs ++ [.ref t], rfl, fun c o h => ?_, upd_same, ?_⟩
        · rw [upd_ne (ne_of_none h hD)]
          exact s6 _ _ (s3 _ _ h)
        · rw [tj, List.filter_append, List.filter_cons_of_pos e, List.map_append, ← List.append_assoc]
          exact FF.snoc (R := RR2 (upd H6 D (.lst (zs ++ [.ref t])))) (b := (l, r)) ⟨t, tl, tr, rfl, nz _ _ (fun _ z => by cases z) ht, nz _ _ (fun _ z => by cases z) (s6 _ _ htl3), nz _ _ (fun _ z => by cases z) (s6 _ _ htr3)⟩ (f3.mono fun v z h => h.nl ((NL.of s6).trans nz))
      refine ⟨_, rfl, f, _, 3, _, rfl, rfl, SqT.of hf3, rfl, _, rfl, _, rfl, ?_⟩
      cases hs : u.shd with
      | false =>
        have ea : lAlike u l r = true := by unfold lAlike; rw [hs]; rfl
        refine iteT ?_
        have S3 : Same H3 H3 := Same.refl _
        refine ⟨_, rfl, tl, _, 0, _, rfl, rfl, SqT.of (S3 _ _ htl3), rfl, _, rfl, tr, _, 0, _, rfl, rfl, SqT.of (S3 _ _ htr3), rfl, rfl, _, rfl, ?_⟩
        by_cases c1 : l.num = r.num
        · rw [show (!decide (V.int l.num = V.int r.num)) = false by rw [c1, decide_eq_true rfl]; rfl]
          exact iteF (iteF (no6 (by unfold lPair; rw [decide_eq_false (fun z => z c1)]; rfl) _ _ S3))
        · rw [show (!decide (V.int l.num = V.int r.num)) = true by rw [decide_eq_false (fun e => c1 (by injection e))]; rfl]
          have ep : lPair u l r = (true && decide (absI (l.ac - r.ac) ≤ u.far)) := by
            unfold lPair
            rw [decide_eq_true (show l.num ≠ r.num from c1), ea, Bool.true_and]
          refine iteT ⟨_, rfl, _, rfl, iteT ?_⟩
          refine ⟨_, rfl, tl, _, 1, _, rfl, rfl, SqT.of (S3 _ _ htl3), rfl, _, rfl, tr, _, 1, _, rfl, rfl, SqT.of (S3 _ _ htr3), rfl, _, _, rfl, rfl, _, rfl, _, rfl, f, _, 2, _, rfl, rfl, SqT.of (S3 _ _ hf3), rfl, _, _, rfl, rfl, _, rfl, ?_⟩
          cases hc : decide (absI (l.ac - r.ac) ≤ u.far) with
          | false =>
            rw [show decide ((if l.ac - r.ac < 0 then -(l.ac - r.ac) else l.ac - r.ac) ≤ u.far) = false from hc]
            exact iteF (no6 (by rw [ep, hc]; rfl) _ _ S3)
          | true =>
            rw [show decide ((if l.ac - r.ac < 0 then -(l.ac - r.ac) else l.ac - r.ac) ≤ u.far) = true from hc]
            refine iteT ⟨_, rfl, .inl ⟨rfl, _, SqL.of (S3 _ _ e3)⟩, _, rfl, _, rfl, (by show 2 ≤ sizeLine; decide), fun t ht => ?_⟩
            have zt := same_upd ht (o := .tup [.ref tl, .ref tr])
            have lz : zs.length ≤ 1800 := by
              rw [f3.len, List.length_append, List.length_map]
              have h1 := lenB i
              have h2 := List.length_filter_le (lPair u l) (rs.take j)
              rw [List.length_take] at h2
              omega
            refine ⟨D, zs, _, rfl, rfl, (S3.trans zt) _ _ e3, Nat.lt_of_le_of_lt lz (by decide), ?_⟩
            exact yes6 (by rw [ep, hc]; rfl) _ _ t (S3.trans zt) upd_same
      | true =>
        have ea : lAlike u l r = (decide (l.sh = r.sh) && (decide (l.fo = r.fo) && (decide (l.dr = r.dr) && true))) := by unfold lAlike; rw [hs]; rfl
        refine iteF ⟨_, rfl, 3, rfl, ?_⟩
        refine nopart (sla_of htl3 fun H4 p4 s4 e4 => ?_)
        refine ⟨_, rfl, 3, rfl, ?_⟩
        refine nopart (sla_of (s4 _ _ htr3) fun H5 p5 s5 e5 => ?_)
        refine ⟨_, tail3 K (s5 _ _ e4) e5, fun H6 x6 => ?_⟩
        have S6 : Same H3 H6 := fun b o e => x6 b o (s5 b o (s4 b o e))
        rw [Bool.false_xor]
        refine ⟨_, rfl, tl, _, 0, _, rfl, rfl, SqT.of (S6 _ _ htl3), rfl, _, rfl, tr, _, 0, _, rfl, rfl, SqT.of (S6 _ _ htr3), rfl, rfl, _, rfl, ?_⟩
        by_cases c1 : l.num = r.num
        · rw [show (!decide (V.int l.num = V.int r.num)) = false by rw [c1, decide_eq_true rfl]; rfl]
          exact iteF (iteF (no6 (by unfold lPair; rw [decide_eq_false (fun z => z c1)]; rfl) _ _ S6))
        · rw [show (!decide (V.int l.num = V.int r.num)) = true by rw [decide_eq_false (fun e => c1 (by injection e))]; rfl]
          have ep : lPair u l r = ((decide (l.sh = r.sh) && (decide (l.fo = r.fo) && (decide (l.dr = r.dr) && true))) && decide (absI (l.ac - r.ac) ≤ u.far)) := by
            unfold lPair
            rw [decide_eq_true (show l.num ≠ r.num from c1), ea, Bool.true_and]
          refine iteT ⟨_, rfl, _, rfl, ?_⟩
          cases hb : (decide (l.sh = r.sh) && (decide (l.fo = r.fo) && (decide (l.dr = r.dr) && true))) with
          | false => exact iteF (iteF (no6 (by rw [ep, hb]; rfl) _ _ S6))
          | true =>
            rw [hb] at ep
            refine iteT ?_
            refine ⟨_, rfl, tl, _, 1, _, rfl, rfl, SqT.of (S6 _ _ htl3), rfl, _, rfl, tr, _, 1, _, rfl, rfl, SqT.of (S6 _ _ htr3), rfl, _, _, rfl, rfl, _, rfl, _, rfl, f, _, 2, _, rfl, rfl, SqT.of (S6 _ _ hf3), rfl, _, _, rfl, rfl, _, rfl, ?_⟩
            cases hc : decide (absI (l.ac - r.ac) ≤ u.far) with
            | false =>
              rw [show decide ((if l.ac - r.ac < 0 then -(l.ac - r.ac) else l.ac - r.ac) ≤ u.far) = false from hc]
              exact iteF (no6 (by rw [ep, hc]; rfl) _ _ S6)
            | true =>
              rw [show decide ((if l.ac - r.ac < 0 then -(l.ac - r.ac) else l.ac - r.ac) ≤ u.far) = true from hc]
              refine iteT ⟨_, rfl, .inl ⟨rfl, _, SqL.of (S6 _ _ e3)⟩, _, rfl, _, rfl, (by show 2 ≤ sizeLine; decide), fun t ht => ?_⟩
              have zt := same_upd ht (o := .tup [.ref tl, .ref tr])
              have lz : zs.length ≤ 1800 := by
                rw [f3.len, List.length_append, List.length_map]
                have h1 := lenB i
                have h2 := List.length_filter_le (lPair u l) (rs.take j)
                rw [List.length_take] at h2
                omega
              refine ⟨D, zs, _, rfl, rfl, (S6.trans zt) _ _ e3, Nat.lt_of_le_of_lt lz (by decide), ?_⟩
              exact yes6 (by rw [ep, hc]; rfl) _ _ t (S6.trans zt) upd_same
    · rintro σ H3 ⟨w4, w5, zs, rfl, s3, e3, f3⟩
      refine ⟨_, w4, w5, zs, rfl, s3, e3, ?_⟩
      rw [hF.len, List.take_length] at f3
      rw [tk, List.flatMap_append]
      show FF _ zs (_ ++ (lPairsB u rs l ++ []))
      rw [List.append_nil]
      exact f3
  · rintro σ H2 ⟨w3, w4, w5, ys, rfl, s2, e2, f2⟩
    rw [hF.len, List.take_length] at f2
    exact ⟨_, rfl, q H2 D ys s2 hD e2 f2⟩
end
end KB
namespace KB
open PySem PySem.Spec PyProof.Rows L2 KA

section
variable {P : Program} {w : World} {K : PySem.W.Frag} {mg : Str → Option Value} {base : Heap}
/-! ### the law's rates -/
def ks3 : List (List Str) := [["rose", "round"], ["rose", "oval"], ["grey", "round"]]
def spRates : Sp := fun vs H Q _ => ∃ (d : Addr) (n : Nat), vs = [.ref d] ∧ Dr PT d n H ∧ n ≤ 100000 ∧
  ∀ (H' : Hp) (tf : Addr) (xs : List Int), But d H H' → Dr PT d (n + 12) H' → tf ≠ d → H tf = none → H' tf = some (.dT (dictV (ks3.zip xs))) → xs.length = 3 → (∀ x ∈ xs, 0 ≤ x ∧ x < 147573952589676412928) → Q (.ref tf) H'
theorem ok_rates (T : Tx K mg) : FnOk P w K mg base CX0 3 T.A_rates T.fd_rates ["_law_well_here"] (spRates) := by
  refine T.F_rates.ok sc_rates (fun vs H Q E h => ?_) (fun cdv A outer s H vs Q E hr h => ?_)
  · obtain ⟨d, n, rfl, dr, hn, q⟩ := h
    rfl
  obtain ⟨d, n, rfl, dr, hn, q⟩ := h
  refine ⟨_, (pss_cons (ps_set (i := 1) sc_rates.nd rfl (Or.inl rfl) pe_dnewT)
      (pss_cons (ps_for PassesOwn.never rfl (pi_list (pe_lst (pa_cons (pe_tup (pa_cons pe_str (pa_cons pe_str pa_nil))) (pa_cons (pe_tup (pa_cons pe_str (pa_cons pe_str pa_nil))) (pa_cons (pe_tup (pa_cons pe_str (pa_cons pe_str pa_nil))) pa_nil))))) (pg_name (i := 2) sc_rates.nd rfl (Or.inl rfl))
        (pss_cons (ps_set (i := 3) sc_rates.nd rfl (Or.inl rfl) (pe_lst (pa_cons pe_int (pa_cons pe_int (pa_cons pe_int (pa_cons (pe_call (ok_draw T) (hr.mono (by decide)) (by rfl) T.g_draw T.F_draw.kp T.b_draw .nil pass0 (pa_cons (pv 0) (pa_cons (pe_op op_pow pe_int pe_int) pa_nil))) (pa_cons (pe_op op_add (pe_op op_pow pe_int pe_int) (pe_call (ok_draw T) (hr.mono (by decide)) (by rfl) T.g_draw T.F_draw.kp T.b_draw .nil pass0 (pa_cons (pv 0) (pa_cons pe_int pa_nil)))) (pa_cons (pe_op op_sub (pe_op op_pow pe_int pe_int) (pe_call (ok_draw T) (hr.mono (by decide)) (by rfl) T.g_draw T.F_draw.kp T.b_draw .nil pass0 (pa_cons (pv 0) (pa_cons pe_int pa_nil)))) pa_nil))))))))
      (pss_one (ps_dput (Nat.lt_of_le_of_lt (Nat.add_le_add_left (by decide) _) hr.units) (pv 1) (pv 2) (pe_call (ok_one T) (hr.mono (by decide)) (by rfl) T.g_one T.F_one.kp T.b_one .nil pass0 (pa_cons (pv 0) (pa_cons (pv 3) pa_nil))) rfl))))
      (pss_one (ps_ret (pv 1))))), ?_⟩
  intro D hD
  have nD := dr.ne hD
  refine ⟨(by show 2 ≤ sizeLine; decide), fun t1 ht1 => ⟨(by show 2 ≤ sizeLine; decide), fun t2 ht2 => ⟨(by show 2 ≤ sizeLine; decide), fun t3 ht3 => ⟨(by show 3 ≤ sizeLine; decide), fun l hl => ?_⟩⟩⟩⟩
  have s4 : Same (upd H D (.dT [])) (upd (upd (upd (upd (upd H D (.dT [])) t1 (.tup [.str "rose", .str "round"])) t2 (.tup [.str "rose", .str "oval"])) t3 (.tup [.str "grey", .str "round"])) l (.lst [.ref t1, .ref t2, .ref t3])) := (same_upd ht1).trans ((same_upd ht2).trans ((same_upd ht3).trans (same_upd hl)))
  have e1 := ((same_upd ht2 (o := .tup [.str "rose", .str "oval"])).trans ((same_upd ht3 (o := .tup [.str "grey", .str "round"])).trans (same_upd hl (o := .lst [.ref t1, .ref t2, .ref t3])))) _ _ upd_same
  have e2 := ((same_upd ht3 (o := .tup [.str "grey", .str "round"])).trans (same_upd hl (o := .lst [.ref t1, .ref t2, .ref t3]))) _ _ upd_same
  have e3 := (same_upd hl (o := .lst [.ref t1, .ref t2, .ref t3])) _ _ (upd_same (H := upd (upd (upd H D (.dT [])) t1 (.tup [.str "rose", .str "round"])) t2 (.tup [.str "rose", .str "oval"])) (a := t3) (o := .tup [.str "grey", .str "round"]))
  have el : (upd (upd (upd (upd (upd H D (.dT [])) t1 (.tup [.str "rose", .str "round"])) t2 (.tup [.str "rose", .str "oval"])) t3 (.tup [.str "grey", .str "round"])) l (.lst [.ref t1, .ref t2, .ref t3])) l = some (.lst [.ref t1, .ref t2, .ref t3]) := upd_same
  have drD : Dr PT d n (upd H D (.dT [])) := dr.upd nD
  have nl := (((drD.upd (drD.ne ht1)).upd ((drD.upd (drD.ne ht1)).ne ht2)).upd (((drD.upd (drD.ne ht1)).upd ((drD.upd (drD.ne ht1)).ne ht2)).ne ht3)).ne hl
  have dr4 := (((drD.upd (o := .tup [.str "rose", .str "round"]) (drD.ne ht1)).upd (o := .tup [.str "rose", .str "oval"]) ((drD.upd (drD.ne ht1)).ne ht2)).upd (o := .tup [.str "grey", .str "round"]) (((drD.upd (drD.ne ht1)).upd ((drD.upd (drD.ne ht1)).ne ht2)).ne ht3)).upd (o := .lst [.ref t1, .ref t2, .ref t3]) nl
  have eD4 := s4 _ _ (upd_same (H := H) (a := D) (o := .dT []))
  have sH4 := (same_upd hD (o := .dT [])).trans s4
  generalize upd (upd (upd (upd (upd H D (.dT [])) t1 (.tup [.str "rose", .str "round"])) t2 (.tup [.str "rose", .str "oval"])) t3 (.tup [.str "grey", .str "round"])) l (.lst [.ref t1, .ref t2, .ref t3]) = H4 at *
  have nlD : l ≠ D := fun z => by rw [z, eD4] at el; cases el
  refine ⟨l, rfl, ⟨_, SqL.of el⟩, for_list (K := K) (a := l) (xs := [.ref t1, .ref t2, .ref t3]) (fun j σ H' => ∃ (w2 w3 : Option V) (xs : List Int), σ = [some (.ref d), some (.ref D), w2, w3] ∧ Dr PT d (n + 4 * j) H' ∧ (∀ b o, b ≠ d → b ≠ D → H4 b = some o → H' b = some o) ∧ H' D = some (.dT (dictV ((ks3.take j).zip xs))) ∧ xs.length = j ∧ ∀ x ∈ xs, 0 ≤ x ∧ x < 147573952589676412928) ⟨_, _, [], rfl, dr4, fun _ _ _ _ e => e, eD4, rfl, fun _ h => nomatch h⟩ (fun j σ H' _ h => ?_) ?_ ?_⟩
  · obtain ⟨_, _, _, _, _, kp, _⟩ := h
    exact SqL.of (kp _ _ nl nlD el)
  · rintro j v σ H5 hj ⟨w2, w3, xs, rfl, dr5, kp5, eD5, lx, bx⟩
    obtain ⟨t, kk, hkk, rfl, ht4⟩ : ∃ (t : Addr) (k : List Str), ks3[j]? = some k ∧ v = .ref t ∧ H4 t = some (.tup (k.map V.str)) := by
      match j, hj with
      | 0, hj => cases hj; exact ⟨t1, _, rfl, rfl, e1⟩
      | 1, hj => cases hj; exact ⟨t2, _, rfl, rfl, e2⟩
      | 2, hj => cases hj; exact ⟨t3, _, rfl, rfl, e3⟩
      | j + 3, hj => exact nomatch hj
    have hj3 : j < 3 := (List.getElem?_eq_some_iff.mp hkk).1
    have ntd : t ≠ d := fun z => by
      obtain ⟨_, _, _, e, _⟩ := dr4
      rw [z, e] at ht4
      cases ht4
    have ntD : t ≠ D := fun z => by rw [z, eD4] at ht4; cases ht4
    refine ⟨_, rfl, _, _, rfl, rfl, ⟨by decide, by decide, by decide⟩, d, _, n + 4 * j, rfl, by decide, log_tiny (by decide) (by decide), dr5, by omega, fun H6 r1 g0 g1 b6 dr6 => ?_⟩
    refine ⟨_, _, rfl, rfl, ⟨by decide, by decide, by decide⟩, _, rfl, d, 3, n + 4 * j + 1, rfl, by decide, log_tiny (by decide) (by decide), dr6, by omega, fun H7 r2 g2 g3 b7 dr7 => ⟨_, _, rfl, rfl, ?_⟩⟩
    refine ⟨_, _, rfl, rfl, ⟨by decide, by decide, by decide⟩, _, rfl, d, 4, n + 4 * j + 2, rfl, by decide, log_tiny (by decide) (by decide), dr7, by omega, fun H8 r3 g4 g5 b8 dr8 => ⟨_, _, rfl, rfl, (by show 6 ≤ sizeLine; decide), fun ln hln => ?_⟩⟩
    have nln := dr8.ne hln
    have b58 : But d H5 H8 := (b6.trans b7).trans b8
    refine ⟨_, rfl, _, rfl, d, ln, n + 4 * j + 3, [.int 0, .int 1, .int 7, .int r1, .int (10 ^ Int.toNat 9 + r2), .int (10 ^ Int.toNat 20 - r3)], rfl, nln, SqL.of upd_same, List.cons_ne_nil _ _, by show 6 ≤ 1000; decide, dr8.upd nln, by omega, fun H9 v hv b9 dr9 => ?_⟩
    obtain ⟨x, hx, rfl⟩ := mem_ints (l := [0, 1, 7, r1, 10 ^ Int.toNat 9 + r2, 10 ^ Int.toNat 20 - r3]) hv
    have bxx : 0 ≤ x ∧ x < 147573952589676412928 := by
      have p6 : (10 : Int) ^ Int.toNat 6 = 1000000 := by decide
      have p9 : (10 : Int) ^ Int.toNat 9 = 1000000000 := by decide
      have p20 : (10 : Int) ^ Int.toNat 20 = 100000000000000000000 := by decide
      rw [p6] at g1
      rw [p9, p20] at hx
      simp only [List.mem_cons, List.not_mem_nil, or_false] at hx
      omega
    have b59 : But d H5 H9 := (b58.trans (But.new hln)).trans b9
    have eD9 := b59 _ _ nD eD5
    have ht9 := b59 _ _ ntd (kp5 _ _ ntd ntD ht4)
    have lk : ((ks3.take j).zip xs).length ≤ 3 := by
      rw [List.length_zip, List.length_take]
      omega
    refine ⟨_, rfl, _, rfl, D, _, rfl, DPut.t (k := kk.map Sum.inr) eD9 (by rw [List.map_map]; exact ht9) (Nat.lt_of_le_of_lt (show (dictV ((ks3.take j).zip xs)).length ≤ 3 by unfold dictV; rw [List.length_map]; exact lk) (by decide)), ?_⟩
    refine ⟨_, _, xs ++ [x], rfl, ?_, fun b o n1 n2 e => ?_, ?_, by rw [List.length_append, lx]; rfl, fun y hy => ?_⟩
    · have := dr9.upd (o := .dT (putK (dictV ((ks3.take j).zip xs)) (kk.map Sum.inr) (.int x))) nD
      rw [show n + 4 * (j + 1) = n + 4 * j + 3 + 1 by omega]
      exact this
    · rw [upd_ne n2]
      exact b59 _ _ n1 (kp5 _ _ n1 n2 e)
    · have tk : ks3.take (j + 1) = ks3.take j ++ [kk] := by rw [List.take_add_one, hkk]; rfl
      have lz : (ks3.take j).length = xs.length := by rw [List.length_take, lx]; show min j 3 = j; omega
      have kf : (dictV ((ks3.take j).zip xs)).map Prod.fst = (ks3.map fun k => (k.map Sum.inr : List Key)).take j := by
        unfold dictV
        rw [List.map_map, ← List.map_take]
        have : ∀ (as : List (List Str)) (bs : List Int), as.length = bs.length → (as.zip bs).map ((Prod.fst : List Key × V → List Key) ∘ fun p => (p.1.map Sum.inr, V.int p.2)) = as.map fun k => (k.map Sum.inr : List Key) := fun as bs h => by
          rw [show ((Prod.fst : List Key × V → List Key) ∘ fun p : List Str × Int => (p.1.map Sum.inr, V.int p.2)) = (fun k : List Str => (k.map Sum.inr : List Key)) ∘ Prod.fst from rfl, ← List.map_map, List.map_fst_zip (by omega)]
        exact this _ _ lz
      have nw := val_new (κ := List Key) (ks := ks3.map fun k => (k.map Sum.inr : List Key)) (i := j) (k := kk.map Sum.inr) (by decide +kernel) (by rw [List.getElem?_map, hkk]; rfl) kf
      rw [upd_same, putK_new _ nw, tk, List.zip_append lz]
      unfold dictV
      rw [List.map_append]
      rfl
    · rcases List.mem_append.mp hy with hy | hy
      · exact bx y hy
      · rw [List.mem_singleton.mp hy]
        exact bxx
  · rintro σ H5 ⟨w2, w3, xs, rfl, dr5, kp5, eD5, lx, bx⟩
    refine ⟨_, rfl, q H5 D xs (fun b o n e => kp5 b o n (ne_of_none e hD) (sH4 _ _ e)) dr5 nD hD eD5 lx bx⟩
end
end KB
namespace KB
open PySem PySem.Spec PyProof.Rows L2 KA

section
variable {P : Program} {w : World} {K : PySem.W.Frag} {mg : Str → Option Value} {base : Heap}
/-! ### what may stand within a pair -/
inductive LItem where
  | two (z : Rw × Rw)
  | zero
  | one (r : Rw)
def ItV (H : Hp) (v : V) : LItem → Prop
  | .two z => RR2 H v z
  | .zero => ∃ t, v = .ref t ∧ H t = some (.tup [])
  | .one r => ∃ t b, v = .ref t ∧ H t = some (.tup [.ref b]) ∧ H b = some (.tup (rowVals r))
def lIn2 (u : Rl) (p z : Rw × Rw) : Bool := lNext p.1 z.1 u && lNext p.2 z.2 u
def lIn1 (u : Rl) (p : Rw × Rw) (r : Rw) : Bool := lNext p.1 r u && lNext p.2 r u
def lInner (u : Rl) (rs : List Rw) (ps : List (Rw × Rw)) (p : Rw × Rw) (out long : Nat) : List LItem :=
  if out + 1 < long / 2 then (ps.filter (lIn2 u p)).map .two else if long % 2 = 0 then [.zero] else (rs.filter (lIn1 u p)).map .one
def spInner : Sp := fun vs H Q _ => ∃ (pr l1 r1 a b f : Addr) (xs ys : List V) (rs : List Rw) (ps : List (Rw × Rw)) (p : Rw × Rw) (u : Rl) (out long : Nat), vs = [.ref pr, .ref a, .ref b, .int (out : Int), .ref f, .int (long : Int)] ∧ H pr = some (.tup [.ref l1, .ref r1]) ∧ H l1 = some (.tup (rowVals p.1)) ∧ H r1 = some (.tup (rowVals p.2)) ∧ H a = some (.lst xs) ∧ FF (RwF H) xs rs ∧ H b = some (.lst ys) ∧ FF (RR2 H) ys ps ∧ H f = some (.tup (fourV u)) ∧ rs.length ≤ 1000 ∧ ps.length ≤ 1000 ∧
  ∀ (H' : Hp) (l : Addr) (zs : List V), Same H H' → H l = none → H' l = some (.lst zs) → FF (ItV H') zs (lInner u rs ps p out long) → Q (.ref l) H'
theorem ok_inner (T : Tx K mg) : FnOk P w K mg base CX0 2 T.A_inner T.fd_inner ["_law_pair", "_law_rows_here", "_law_pairs_here", "_law_out", "_law_four_here", "_law_long"] (spInner) := by
  refine T.F_inner.ok sc_inner (fun vs H Q E h => ?_) (fun cdv A outer s H vs Q E hr h => ?_)
  · obtain ⟨pr, l1, r1, a, b, f, xs, ys, rs, ps, p, u, out, long, rfl, hpr, hl1, hr1, ha, hFa, hb, hFb, hf, hla, hlb, q⟩ := h
    rfl
  obtain ⟨pr, l1, r1, a, b, f, xs, ys, rs, ps, p, u, out, long, rfl, hpr, hl1, hr1, ha, hFa, hb, hFb, hf, hla, hlb, q⟩ := h
  refine ⟨_, (pss_cons (ps_if (pt_cmpR op_lt (pe_op op_add (pv 3) pe_int) (pe_op op_fdiv (pv 5) pe_int) (nomark _)) (pss_one (ps_ret (pe_lc (own := [("_law_one_here", 7)]) (g := gName 7) (tt := _) rfl sc_inner.nd (pi_list (pv 2)) (blkOk_by (N := ["_law_pair", "_law_rows_here", "_law_pairs_here", "_law_out", "_law_four_here", "_law_long", "_law_row", "_law_one_here"]) (sc := defScope s_inner) (by decide +kernel)) (fun _ _ _ _ _ => (pg_name (i := 7) sc_inner.nd rfl (Or.inl rfl))) (fun _ _ _ _ _ => (pts_one (PW.pt (pw_and (pt_val (pe_call (ok_next_in T) (hr.mono (by decide)) (by rfl) T.g_next_in T.F_next_in.kp T.b_next_in .nil pass0 (pa_cons (pe_ix (ix_tupK (K' := K) rfl) (pv 0) pe_int (fun _ _ => rfl)) (pa_cons (pe_ix (ix_tupK (K' := K) rfl) (pv 7) pe_int (fun _ _ => rfl)) (pa_cons (pv 4) pa_nil))))) (pw_and1 (pt_val (pe_call (ok_next_in T) (hr.mono (by decide)) (by rfl) T.g_next_in T.F_next_in.kp T.b_next_in .nil pass0 (pa_cons (pe_ix (ix_tupK (K' := K) rfl) (pv 0) pe_int (fun _ _ => rfl)) (pa_cons (pe_ix (ix_tupK (K' := K) rfl) (pv 7) pe_int (fun _ _ => rfl)) (pa_cons (pv 4) pa_nil)))))))))) (fun _ _ _ _ _ => (pv 7))))) pss_nil)
      (pss_cons (ps_if (pt_cmpR op_eq (pe_op op_mod (pv 5) pe_int) pe_int (nomark _)) (pss_one (ps_ret (pe_lst (pa_cons (pe_tup pa_nil) pa_nil)))) pss_nil)
      (pss_one (ps_ret (pe_lc (own := [("_law_row", 6)]) (g := gName 6) (tt := _) rfl sc_inner.nd (pi_list (pv 1)) (blkOk_by (N := ["_law_pair", "_law_rows_here", "_law_pairs_here", "_law_out", "_law_four_here", "_law_long", "_law_row", "_law_one_here"]) (sc := defScope s_inner) (by decide +kernel)) (fun _ _ _ _ _ => (pg_name (i := 6) sc_inner.nd rfl (Or.inl rfl))) (fun _ _ _ _ _ => (pts_one (PW.pt (pw_and (pt_val (pe_call (ok_next_in T) (hr.mono (by decide)) (by rfl) T.g_next_in T.F_next_in.kp T.b_next_in .nil pass0 (pa_cons (pe_ix (ix_tupK (K' := K) rfl) (pv 0) pe_int (fun _ _ => rfl)) (pa_cons (pv 6) (pa_cons (pv 4) pa_nil))))) (pw_and1 (pt_val (pe_call (ok_next_in T) (hr.mono (by decide)) (by rfl) T.g_next_in T.F_next_in.kp T.b_next_in .nil pass0 (pa_cons (pe_ix (ix_tupK (K' := K) rfl) (pv 0) pe_int (fun _ _ => rfl)) (pa_cons (pv 6) (pa_cons (pv 4) pa_nil)))))))))) (fun _ _ _ _ _ => (pe_tup (pa_cons (pv 6) pa_nil)))))))), ?_⟩
  have eq : lInner u rs ps p out long = if out + 1 < long / 2 then (ps.filter (lIn2 u p)).map .two else if long % 2 = 0 then [.zero] else (rs.filter (lIn1 u p)).map .one := rfl
  refine ⟨_, rfl, _, _, rfl, rfl, _, rfl, _, _, rfl, rfl, ⟨by decide, by decide⟩, _, _, rfl, rfl, _, rfl, ?_⟩
  by_cases h1 : out + 1 < long / 2
  · rw [decide_eq_true (show (out : Int) + 1 < (long : Int) / 2 by omega)]
    rw [if_pos h1] at eq
    refine iteT ⟨_, rfl, b, rfl, ⟨_, SqL.of hb⟩, fun D hD => lc_listR (K := K) (ts := ps) hD (SqL.of hb) hFb.len (by omega) (lIn2 u p) (fun v z H => RR2 H v z) (fun v z H1 H2 s h => h.nl s) (fun j x z H2 R C hx hz s2 yes no => ?_) fun H2 acc s2 e2 f2 => ?_⟩
    · obtain ⟨v, hv, t, l2, r2, rfl, ht, hl2, hr2⟩ := hFb.at_ hz
      rw [hv] at hx
      cases hx
      have go : lIn2 u p z = (lNext p.1 z.1 u && lNext p.2 z.2 u) := rfl
      refine ⟨rfl, _, rfl, pr, _, 0, _, rfl, rfl, SqT.of (s2 _ _ hpr), rfl, _, rfl, t, _, 0, _, rfl, rfl, SqT.of (s2 _ _ ht), rfl, _, rfl, l1, l2, f, p.1, z.1, u, rfl, s2 _ _ hl1, s2 _ _ hl2, s2 _ _ hf, _, rfl, ?_⟩
      cases hA : lNext p.1 z.1 u with
      | false => exact iteF (iteF (no (by rw [go, hA]; rfl) _ (Same.refl _)))
      | true =>
        refine iteT ⟨_, rfl, pr, _, 1, _, rfl, rfl, SqT.of (s2 _ _ hpr), rfl, _, rfl, t, _, 1, _, rfl, rfl, SqT.of (s2 _ _ ht), rfl, _, rfl, r1, r2, f, p.2, z.2, u, rfl, s2 _ _ hr1, s2 _ _ hr2, s2 _ _ hf, _, rfl, ?_⟩
        cases hB : lNext p.2 z.2 u with
        | false => exact iteF (no (by rw [go, hA, hB]; rfl) _ (Same.refl _))
        | true => exact iteT ⟨_, rfl, yes (by rw [go, hA, hB]; rfl) _ _ (Same.refl _) ⟨t, l2, r2, rfl, s2 _ _ ht, s2 _ _ hl2, s2 _ _ hr2⟩⟩
    · refine q H2 D acc s2 hD e2 ?_
      rw [eq]
      exact FF.map (R := ItV H2) (f := LItem.two) f2
  rw [if_neg h1] at eq
  rw [decide_eq_false (show ¬ (out : Int) + 1 < (long : Int) / 2 by omega)]
  refine iteF ⟨_, rfl, _, _, rfl, rfl, (by show (0 : Int) < 2; decide), rfl, _, rfl, ?_⟩
  by_cases h2 : long % 2 = 0
  · rw [if_pos h2] at eq
    rw [decide_eq_true (show V.int ((long : Int) % 2) = V.int 0 by rw [show (long : Int) % 2 = 0 by omega])]
    refine iteT ⟨(by show 0 ≤ sizeLine; decide), fun t ht => ⟨(by show 1 ≤ sizeLine; decide), fun l hl => ?_⟩⟩
    refine q _ l [.ref t] ((same_upd ht).trans (same_upd hl)) (none_back (same_upd ht) hl) upd_same ?_
    rw [eq]
    exact .cons ⟨t, rfl, same_upd hl _ _ upd_same⟩ .nil
  · rw [if_neg h2] at eq
    rw [decide_eq_false (show ¬ V.int ((long : Int) % 2) = V.int 0 from fun e => h2 (by injection e; omega))]
    refine iteF ⟨_, rfl, a, rfl, ⟨_, SqL.of ha⟩, fun D hD => lc_listR (K := K) (ts := rs) hD (SqL.of ha) hFa.len (by omega) (lIn1 u p) (fun v r H => ItV H v (.one r)) (fun v r H1 H2 s h => ?_) (fun j x r H2 R C hx hr s2 yes no => ?_) fun H2 acc s2 e2 f2 => ?_⟩
    · obtain ⟨t, b', e, h1, h2⟩ := h
      exact ⟨t, b', e, s _ _ (fun _ z => by cases z) h1, s _ _ (fun _ z => by cases z) h2⟩
    · obtain ⟨v, hv, t, rfl, ht⟩ := hFa.at_ hr
      rw [hv] at hx
      cases hx
      have go : lIn1 u p r = (lNext p.1 r u && lNext p.2 r u) := rfl
      refine ⟨rfl, _, rfl, pr, _, 0, _, rfl, rfl, SqT.of (s2 _ _ hpr), rfl, _, rfl, _, rfl, l1, t, f, p.1, r, u, rfl, s2 _ _ hl1, s2 _ _ ht, s2 _ _ hf, _, rfl, ?_⟩
      cases hA : lNext p.1 r u with
      | false => exact iteF (iteF (no (by rw [go, hA]; rfl) _ (Same.refl _)))
      | true =>
        refine iteT ⟨_, rfl, pr, _, 1, _, rfl, rfl, SqT.of (s2 _ _ hpr), rfl, _, rfl, _, rfl, r1, t, f, p.2, r, u, rfl, s2 _ _ hr1, s2 _ _ ht, s2 _ _ hf, _, rfl, ?_⟩
        cases hB : lNext p.2 r u with
        | false => exact iteF (no (by rw [go, hA, hB]; rfl) _ (Same.refl _))
        | true => exact iteT ⟨_, rfl, (by show 1 ≤ sizeLine; decide), fun t' ht' => yes (by rw [go, hA, hB]; rfl) _ _ (same_upd ht') ⟨t', t, rfl, upd_same, (s2.trans (same_upd ht')) _ _ ht⟩⟩
    · refine q H2 D acc s2 hD e2 ?_
      rw [eq]
      exact FF.map (R := ItV H2) (f := LItem.one) f2
end
end KB
namespace KB
open PySem PySem.Spec PyProof.Rows L2 KA

section
variable {P : Program} {w : World} {K : PySem.W.Frag} {mg : Str → Option Value} {base : Heap}
/-! ### == of shares -/
def likeS (x y : Int × Int) : Bool := decide (x.1 = y.1) && decide (x.2 = y.2)
def RS (C : Addr) : Addr → V → Bool → Hp → Prop := fun a y b H => ∃ x, ShAt C H a x ∧ ∃ p x', y = .ref p ∧ ShAt C H p x' ∧ b = likeS x x'
theorem dec_int2 (a b : Int) : decide (V.int a = V.int b) = decide (a = b) := by
  rw [decide_eq_decide]
  exact ⟨fun e => by injection e, fun e => by rw [e]⟩
theorem ok_Share_eq (T : Tx K mg) : FnOk P w K mg base CX0 1 T.A_Share_eq T.fd_Share_eq ["self", "other"] (spEqO (RS T.C_Share)) := by
  refine T.F_Share_eq.ok sc_Share_eq (fun vs H Q E h => ?_) (fun cdv A outer s H vs Q E hr h => ?_)
  · obtain ⟨p, y, b, rfl, ⟨x, ⟨dx, hp⟩, hy⟩, q⟩ := h
    rfl
  obtain ⟨p, y, b, rfl, ⟨x, ⟨dx, hp⟩, hy⟩, q⟩ := h
  refine ⟨_, (pss_one (ps_ret (pe_and (pe_callB call_isi (by rfl) T.z_isinstance (by decide +kernel) (pa_cons (pv 1) (pa_cons (pe_glob (v := .ref T.C_Share) (by rfl) T.g_Share rfl) pa_nil))) (pe_and (pe_cmpR op_eq (pe_fld (pv 0) rfl) (pe_fld (pv 1) rfl) (nomark _)) (pe_one (pe_cmpR op_eq (pe_fld (pv 0) rfl) (pe_fld (pv 1) rfl) (nomark _))))))), ?_⟩
  have q := q H Ext.rfl'
  obtain ⟨p', x', rfl, ⟨dx', hp'⟩, rfl⟩ := hy
  refine ⟨_, rfl, .ref p', .ref T.C_Share, .ref T.C_Share, .ref T.C_Share, true, rfl, .own _, T.i_Share.ty T.cl_Share hp', T.i_Share.kit, _, rfl, iteT ?_⟩
  refine ⟨_, rfl, p, _, dx, _, _, rfl, hp, T.cl_Share, T.n_Share_num, sf_num x, _, rfl, p', _, dx', _, _, rfl, hp', T.cl_Share, T.n_Share_num, sf_num x', rfl, _, rfl, ?_⟩
  rw [dec_int2]
  have e : likeS x x' = (decide (x.1 = x'.1) && decide (x.2 = x'.2)) := rfl
  refine ite2 (fun h1 => ?_) (fun h1 => ?_)
  · rw [h1, Bool.true_and] at e
    refine ⟨_, rfl, p, _, dx, _, _, rfl, hp, T.cl_Share, T.n_Share_over, sf_over x, _, rfl, p', _, dx', _, _, rfl, hp', T.cl_Share, T.n_Share_over, sf_over x', rfl, ?_⟩
    rw [dec_int2, ← e]
    exact q
  · rw [Bool.not_eq_true] at h1
    rw [h1] at e
    rw [e] at q
    exact q
def spIs (CS : Addr) : Sp := fun vs H Q _ => ∃ (s p : Addr) (x z : Int × Int) (k : Nat), vs = [.ref s, .ref p] ∧ ShAt CS H s x ∧ H p = some (.tup [.int z.1, .int z.2]) ∧ z.2 ≠ 0 ∧ Sz k z.1 ∧ Sz k z.2 ∧ k ≤ 2000 ∧
  ∀ H', Same H H' → Q (.bl (likeS x (shr z.1 z.2))) H'
theorem ok_is (T : Tx K mg) : FnOk P w K mg base CX0 5 T.A_is T.fd_is ["_law_share", "_law_pair"] (spIs T.C_Share) := by
  refine T.F_is.ok sc_is (fun vs H Q E h => ?_) (fun cdv A outer s H vs Q E hr h => ?_)
  · obtain ⟨s, p, x, z, k, rfl, hs, hp, hz, k1, k2, hk, q⟩ := h
    rfl
  obtain ⟨s, p, x, z, k, rfl, hs, hp, hz, k1, k2, hk, q⟩ := h
  refine ⟨_, (pss_one (ps_ret (pe_cmpR (op_own (E := E0) (ok_Share_eq T) T.m_Share_eq.at_ T.m_Share_eq.fn T.b_Share_eq pass0 (hr.mono (by decide))) (pv 0) (pe_make T.mk_Share (ok_Share_init T) (hr.mono (by decide)) (by rfl) T.g_Share T.b_Share_init .nil passF (pa_cons (pe_ix ix_tup (pv 1) pe_int (fun _ _ => rfl)) (pa_cons (pe_ix ix_tup (pv 1) pe_int (fun _ _ => rfl)) pa_nil))) (nomark _)))), ?_⟩
  refine ⟨_, rfl, _, rfl, p, _, 0, _, rfl, rfl, SqT.of hp, rfl, _, rfl, p, _, 1, _, rfl, rfl, SqT.of hp, rfl, fun c cc hc hcc hne => ?_⟩
  refine ⟨c, cc, z.1, z.2, k, rfl, upd_same, k2, by omega, fun _ H1 h1 kp => ⟨rfl, ?_⟩, fun e => absurd e hz⟩
  have s1 := made_same hc hcc kp
  obtain ⟨ds, hs'⟩ := id hs
  obtain ⟨d1, h1'⟩ := id h1
  exact ⟨s, ds, _, _, rfl, s1 _ _ hs', T.i_Share.ty T.cl_Share h1', by simp [PySem.W.notFirst], s, .ref c, _, rfl, ⟨x, hs.same (NL.of s1), c, _, rfl, h1, rfl⟩, fun H' x' => ⟨⟨_, rfl⟩, q H' (fun b o e => x' b o (s1 b o e))⟩⟩
end
end KB
namespace KB
open PySem PySem.Spec PyProof.Rows L2 KA

section
variable {P : Program} {w : World} {K : PySem.W.Frag} {mg : Str → Option Value} {base : Heap}
/-! ### shares to be asked of -/
def lShares (top : Option (Int × Int)) (y : Sh) : List (Sh × Bool) := match top with
  | none => [(shr 0 1, true), (y, true)]
  | some z => [(shr z.1 z.2, true), (fPlus (shr z.1 z.2) y, true), (fMinus (shr z.1 z.2) (fPlus y (shr 1 9)), false)]
def ShB (CS : Addr) (H : Hp) (v : V) (c : Sh × Bool) : Prop := ∃ t p, v = .ref t ∧ H t = some (.tup [.ref p, .bl c.2]) ∧ ShAt CS H p c.1
def TopV (H : Hp) (v : V) : Option (Int × Int) → Prop
  | none => v = .non
  | some z => ∃ p, v = .ref p ∧ H p = some (.tup [.int z.1, .int z.2]) ∧ z.2 ≠ 0 ∧ Sz 1000 z.1 ∧ Sz 1000 z.2
def spLShares (CS : Addr) : Sp := fun vs H Q _ => ∃ (v : V) (s : Addr) (top : Option (Int × Int)) (y : Sh), vs = [v, .ref s] ∧ TopV H v top ∧ ShAt CS H s y ∧ Ok 110 y ∧
  ∀ (H' : Hp) (l : Addr) (xs : List V), Same H H' → H' l = some (.lst xs) → FF (ShB CS H') xs (lShares top y) → Q (.ref l) H'
theorem ok_shares (T : Tx K mg) : FnOk P w K mg base CX0 6 T.A_shares T.fd_shares ["_law_top_here", "_law_more"] (spLShares T.C_Share) := by
  refine T.F_shares.ok sc_shares (fun vs H Q E h => ?_) (fun cdv A outer s H vs Q E hr h => ?_)
  · obtain ⟨v, s, top, y, rfl, hv, hs, hy, q⟩ := h
    rfl
  obtain ⟨v, s, top, y, rfl, hv, hs, hy, q⟩ := h
  refine ⟨_, (pss_cons (ps_if (pt_cmpR op_isN (pv 0) pe_non (nomark _)) (pss_one (ps_ret (pe_lst (pa_cons (pe_tup (pa_cons (pe_make T.mk_Share (ok_Share_init T) (hr.mono (by decide)) (by rfl) T.g_Share T.bd1_Share T.hd1_Share passF (pa_cons pe_int pa_nil)) (pa_cons pe_bl pa_nil))) (pa_cons (pe_tup (pa_cons (pv 1) (pa_cons pe_bl pa_nil))) pa_nil))))) pss_nil)
      (pss_cons (ps_set (i := 2) sc_shares.nd rfl (Or.inl rfl) (pe_make T.mk_Share (ok_Share_init T) (hr.mono (by decide)) (by rfl) T.g_Share T.b_Share_init .nil passF (pa_cons (pe_ix ix_tup (pv 0) pe_int (fun _ _ => rfl)) (pa_cons (pe_ix ix_tup (pv 0) pe_int (fun _ _ => rfl)) pa_nil))))
      (pss_one (ps_ret (pe_lst (pa_cons (pe_tup (pa_cons (pv 2) (pa_cons pe_bl pa_nil))) (pa_cons (pe_tup (pa_cons (pe_meth (pv 2) T.cl_Share T.m_Share_plus (ok_Share_plus T) (hr.mono (by decide)) T.b_Share_plus .nil pass0 (pa_cons (pv 1) pa_nil)) (pa_cons pe_bl pa_nil))) (pa_cons (pe_tup (pa_cons (pe_meth (pv 2) T.cl_Share T.m_Share_minus (ok_Share_minus T) (hr.mono (by decide)) T.b_Share_minus .nil pass0 (pa_cons (pe_meth (pv 1) T.cl_Share T.m_Share_plus (ok_Share_plus T) (hr.mono (by decide)) T.b_Share_plus .nil pass0 (pa_cons (pe_make T.mk_Share (ok_Share_init T) (hr.mono (by decide)) (by rfl) T.g_Share T.b_Share_init .nil passF (pa_cons pe_int (pa_cons pe_int pa_nil))) pa_nil)) pa_nil)) (pa_cons pe_bl pa_nil))) pa_nil)))))))), ?_⟩
  cases top with
  | none =>
    have hv : v = .non := hv
    subst hv
    refine ⟨_, rfl, rfl, _, rfl, ?_⟩
    rw [decide_eq_true (rfl : V.non = V.non)]
    refine iteT fun c cc hc hcc hne => ⟨c, cc, 0, 1, 1, rfl, upd_same, (show (1 : Int).natAbs < 2 ^ 1 by decide), by decide, fun _ H1 h1 k1 => ⟨rfl, (by show 2 ≤ sizeLine; decide), fun t1 ht1 => ⟨_, rfl, (by show 2 ≤ sizeLine; decide), fun t2 ht2 => ⟨(by show 2 ≤ sizeLine; decide), fun l hl => ?_⟩⟩⟩, fun z => absurd z (by decide)⟩
    have s1 := made_same hc hcc k1
    have z1 := same_upd ht1 (o := .tup [.ref c, .bl true])
    have z2 := same_upd ht2 (o := .tup [.ref s, .bl true])
    have z3 := same_upd hl (o := .lst [.ref t1, .ref t2])
    have zz := z1.trans (z2.trans z3)
    exact q _ l _ (s1.trans zz) upd_same (.cons ⟨t1, c, rfl, (z2.trans z3) _ _ upd_same, h1.same (NL.of zz)⟩ (.cons ⟨t2, s, rfl, z3 _ _ upd_same, hs.same (NL.of (s1.trans zz))⟩ .nil))
  | some z =>
    obtain ⟨p, rfl, hp, hz, k1, k2⟩ := hv
    refine ⟨_, rfl, rfl, _, rfl, ?_⟩
    rw [decide_eq_false (show ¬ V.ref p = V.non from fun z => by cases z)]
    refine iteF ⟨_, rfl, p, _, 0, _, rfl, rfl, SqT.of hp, rfl, _, rfl, p, _, 1, _, rfl, rfl, SqT.of hp, rfl, fun c cc hc hcc hne => ⟨c, cc, z.1, z.2, 1000, rfl, upd_same, k2, by decide, fun _ H1 h1 kp => ⟨rfl, ?_⟩, fun e => absurd e hz⟩⟩
    have s1 := made_same hc hcc kp
    have okm : Ok 1000 (shr z.1 z.2) := by
      have sz := shr_sz (k := 1000) hz k1 k2
      exact ⟨shr_pos hz, sz.1, sz.2⟩
    have ok9 : Ok 110 (shr 1 9) := by
      have sz := shr_sz (k := 110) (n := 1) (d := 9) (by decide) (show (1 : Int).natAbs < 2 ^ 110 by decide) (show (9 : Int).natAbs < 2 ^ 110 by decide)
      exact ⟨shr_pos (by decide), sz.1, sz.2⟩
    obtain ⟨dc, fc⟩ := id h1
    obtain ⟨dsx, fs⟩ := id hs
    refine ⟨_, rfl, (by show 2 ≤ sizeLine; decide), fun t1 ht1 => ?_⟩
    have z1 := same_upd ht1 (o := .tup [.ref c, .bl true])
    refine ⟨_, rfl, c, dc, _, rfl, z1 _ _ fc, sf_no _ (by decide +kernel) (by decide +kernel), _, rfl, c, s, _, y, 1000, 110, rfl, h1.same (NL.of z1), hs.same (NL.of (s1.trans z1)), okm, hy, by decide, by decide, fun H2 r2 s2 h2 => ⟨(by show 2 ≤ sizeLine; decide), fun t2 ht2 => ?_⟩⟩
    have z2 := same_upd ht2 (o := .tup [.ref r2, .bl true])
    have z12 := z1.trans (s2.trans z2)
    refine ⟨_, rfl, c, dc, _, rfl, z12 _ _ fc, sf_no _ (by decide +kernel) (by decide +kernel), _, rfl, s, dsx, _, rfl, (s1.trans z12) _ _ fs, sf_no _ (by decide +kernel) (by decide +kernel), fun c9 cc9 hc9 hcc9 hne9 => ⟨c9, cc9, 1, 9, 4, rfl, upd_same, (show (9 : Int).natAbs < 2 ^ 4 by decide), by decide, fun _ H3 h3 k3 => ⟨rfl, ?_⟩, fun e => absurd e (by decide)⟩⟩
    have s3 := made_same hc9 hcc9 k3
    refine ⟨s, c9, y, _, 110, 110, rfl, hs.same (NL.of (s1.trans (z12.trans s3))), h3, hy, ok9, by decide, by decide, fun H4 r4 s4 h4 => ?_⟩
    refine ⟨c, r4, _, _, 1000, 221, rfl, h1.same (NL.of (z12.trans (s3.trans s4))), h4, okm, plus_szG hy ok9, by decide, by decide, fun H5 r5 s5 h5 => ⟨(by show 2 ≤ sizeLine; decide), fun t3 ht3 => ⟨(by show 3 ≤ sizeLine; decide), fun l hl => ?_⟩⟩⟩
    have z3 := same_upd ht3 (o := .tup [.ref r5, .bl false])
    have z4 := same_upd hl (o := .lst [.ref t1, .ref t2, .ref t3])
    have y4 := z3.trans z4
    have y3 := s3.trans (s4.trans (s5.trans y4))
    have y2 := z2.trans y3
    exact q _ l _ (s1.trans (z1.trans (s2.trans y2))) upd_same (.cons ⟨t1, c, rfl, (s2.trans y2) _ _ upd_same, h1.same (NL.of (z1.trans (s2.trans y2)))⟩ (.cons ⟨t2, r2, rfl, y3 _ _ upd_same, h2.same (NL.of y2)⟩ (.cons ⟨t3, r5, rfl, z4 _ _ upd_same, h5.same (NL.of y4)⟩ .nil)))
end
end KB
namespace KB
open PySem PySem.Spec PyProof.Rows L2 KA

/-! ### a fraction's share -/
def Fr (q s : Int × Int) : Prop := 0 < q.2 ∧ s = shr q.1 q.2
theorem Fr.pos {q s : Int × Int} (h : Fr q s) : 0 < s.2 := by
  have := h.1
  rw [h.2]
  exact shr_pos (by omega)
theorem Fr.crs {q s : Int × Int} (h : Fr q s) : s.1 * q.2 = q.1 * s.2 := by
  rw [h.2]
  exact shr_eqf q.1 q.2
theorem Fr.plus {a x b y : Int × Int} (h : Fr a x) (g : Fr b y) : Fr (lPlus a b) (fPlus x y) := by
  refine ⟨Int.mul_pos h.1 g.1, ?_⟩
  have c1 := h.crs
  have c2 := g.crs
  exact shr_same (Int.ne_of_gt (Int.mul_pos h.pos g.pos)) (Int.ne_of_gt (Int.mul_pos h.1 g.1)) (by
    show (x.1 * y.2 + y.1 * x.2) * (a.2 * b.2) = (a.1 * b.2 + b.1 * a.2) * (x.2 * y.2)
    grind)
theorem Fr.less {a x b y : Int × Int} (h : Fr a x) (g : Fr b y) : lLess a b = belowS x y := by
  have c1 := h.crs
  have c2 := g.crs
  have e1 : a.1 * b.2 * (x.2 * y.2) = x.1 * y.2 * (a.2 * b.2) := by grind
  have e2 : b.1 * a.2 * (x.2 * y.2) = y.1 * x.2 * (a.2 * b.2) := by grind
  have p1 := Int.mul_pos h.pos g.pos
  have p2 := Int.mul_pos h.1 g.1
  unfold lLess belowS
  rw [decide_eq_decide]
  constructor
  · intro l
    have := Int.mul_lt_mul_of_pos_right l p1
    rw [e1, e2] at this
    exact Int.lt_of_mul_lt_mul_right this (Int.le_of_lt p2)
  · intro l
    have := Int.mul_lt_mul_of_pos_right l p2
    rw [← e1, ← e2] at this
    exact Int.lt_of_mul_lt_mul_right this (Int.le_of_lt p1)
theorem Fr.same {a x b y : Int × Int} (h : Fr a x) (g : Fr b y) (l1 : lLess a b = false) (l2 : lLess b a = false) : x = y := by
  have l1 : ¬ a.1 * b.2 < b.1 * a.2 := of_decide_eq_false l1
  have l2 : ¬ b.1 * a.2 < a.1 * b.2 := of_decide_eq_false l2
  have p1 := h.1
  have p2 := g.1
  rw [h.2, g.2]
  exact shr_same (by omega) (by omega) (by omega)
theorem lLess_tr {a m w : Int × Int} (pa : 0 < a.2) (pm : 0 < m.2) (pw : 0 < w.2) (h1 : lLess m a = false) (h2 : lLess w m = false) : lLess w a = false := by
  have h1 : ¬ m.1 * a.2 < a.1 * m.2 := of_decide_eq_false h1
  have h2 : ¬ w.1 * m.2 < m.1 * w.2 := of_decide_eq_false h2
  refine decide_eq_false fun h3 => ?_
  have i1 : a.1 * m.2 * w.2 ≤ m.1 * a.2 * w.2 := Int.mul_le_mul_of_nonneg_right (by omega) (by omega)
  have i2 : m.1 * w.2 * a.2 ≤ w.1 * m.2 * a.2 := Int.mul_le_mul_of_nonneg_right (by omega) (by omega)
  have i3 : w.1 * a.2 * m.2 < a.1 * w.2 * m.2 := Int.mul_lt_mul_of_pos_right h3 pm
  have e1 : a.1 * m.2 * w.2 = a.1 * w.2 * m.2 := by grind
  have e2 : m.1 * a.2 * w.2 = m.1 * w.2 * a.2 := by grind
  have e3 : w.1 * m.2 * a.2 = w.1 * a.2 * m.2 := by grind
  omega
theorem lLess_add {o a b : Int × Int} (po : 0 < o.2) (pa : 0 < a.2) (pb : 0 < b.2) : lLess (lPlus o a) (lPlus o b) = lLess a b := by
  unfold lLess
  rw [decide_eq_decide]
  show (o.1 * a.2 + a.1 * o.2) * (o.2 * b.2) < (o.1 * b.2 + b.1 * o.2) * (o.2 * a.2) ↔ a.1 * b.2 < b.1 * a.2
  have p := Int.mul_pos po po
  have e1 : (o.1 * a.2 + a.1 * o.2) * (o.2 * b.2) = o.1 * o.2 * a.2 * b.2 + a.1 * b.2 * (o.2 * o.2) := by grind
  have e2 : (o.1 * b.2 + b.1 * o.2) * (o.2 * a.2) = o.1 * o.2 * a.2 * b.2 + b.1 * a.2 * (o.2 * o.2) := by grind
  rw [e1, e2]
  constructor
  · intro l
    exact Int.lt_of_mul_lt_mul_right (by omega : a.1 * b.2 * (o.2 * o.2) < b.1 * a.2 * (o.2 * o.2)) (Int.le_of_lt p)
  · intro l
    have := Int.mul_lt_mul_of_pos_right l p
    omega
/-- the greater of what is known and one more -/
def maxO (o : Option (Int × Int)) (w : Int × Int) : Option (Int × Int) := match o with | none => some w | some x => if lLess x w = true then some w else some x
def lMax (l : List (Int × Int)) : Option (Int × Int) := l.foldl maxO none
theorem lLess_irr (a : Int × Int) : lLess a a = false := decide_eq_false (Int.lt_irrefl _)
theorem lLess_as {a b : Int × Int} (h : lLess a b = true) : lLess b a = false := by
  have h : a.1 * b.2 < b.1 * a.2 := of_decide_eq_true h
  exact decide_eq_false (by omega)
theorem max_from : ∀ (l : List (Int × Int)) (x : Int × Int), 0 < x.2 → (∀ v ∈ l, 0 < v.2) → ∃ m, l.foldl maxO (some x) = some m ∧ (m = x ∨ m ∈ l) ∧ lLess m x = false ∧ ∀ v ∈ l, lLess m v = false
  | [], x, _, _ => ⟨x, rfl, .inl rfl, lLess_irr x, fun _ h => nomatch h⟩
  | w :: l, x, px, pl => by
    have pw := pl w (List.mem_cons_self ..)
    have pl' : ∀ v ∈ l, 0 < v.2 := fun v h => pl v (List.mem_cons_of_mem _ h)
    rw [List.foldl_cons]
    by_cases c : lLess x w = true
    · rw [show maxO (some x) w = some w from if_pos c]
      obtain ⟨m, e, hm, h1, h2⟩ := max_from l w pw pl'
      have pm : 0 < m.2 := by
        rcases hm with rfl | hm
        · exact pw
        · exact pl' m hm
      refine ⟨m, e, .inr ?_, lLess_tr px pw pm (lLess_as c) h1, fun v hv => ?_⟩
      · rcases hm with rfl | hm
        · exact List.mem_cons_self ..
        · exact List.mem_cons_of_mem _ hm
      · rcases List.mem_cons.mp hv with rfl | hv
        · exact h1
        · exact h2 v hv
    · rw [show maxO (some x) w = some x from if_neg c]
      obtain ⟨m, e, hm, h1, h2⟩ := max_from l x px pl'
      have pm : 0 < m.2 := by
        rcases hm with rfl | hm
        · exact px
        · exact pl' m hm
      rw [Bool.not_eq_true] at c
      refine ⟨m, e, ?_, h1, fun v hv => ?_⟩
      · rcases hm with rfl | hm
        · exact .inl rfl
        · exact .inr (List.mem_cons_of_mem _ hm)
      · rcases List.mem_cons.mp hv with rfl | hv
        · exact lLess_tr pw px pm c h1
        · exact h2 v hv
theorem lMax_some {l : List (Int × Int)} (hne : l ≠ []) (pl : ∀ v ∈ l, 0 < v.2) : ∃ m, lMax l = some m ∧ m ∈ l ∧ ∀ v ∈ l, lLess m v = false := by
  cases l with
  | nil => exact absurd rfl hne
  | cons w l =>
    obtain ⟨m, e, hm, h1, h2⟩ := max_from l w (pl w (List.mem_cons_self ..)) (fun v h => pl v (List.mem_cons_of_mem _ h))
    refine ⟨m, e, ?_, fun v hv => ?_⟩
    · rcases hm with rfl | hm
      · exact List.mem_cons_self ..
      · exact List.mem_cons_of_mem _ hm
    · rcases List.mem_cons.mp hv with rfl | hv
      · exact h1
      · exact h2 v hv
theorem fold_great : ∀ (l : List Sh) (x : Sh), l.foldl maxO (some x) = some (l.foldl (fun f s => if belowS f s = true then s else f) x)
  | [], _ => rfl
  | w :: l, x => by
    rw [List.foldl_cons, List.foldl_cons]
    by_cases c : lLess x w = true
    · rw [show maxO (some x) w = some w from if_pos c, show (if belowS x w = true then w else x) = w from if_pos c]
      exact fold_great l w
    · rw [show maxO (some x) w = some x from if_neg c, show (if belowS x w = true then w else x) = x from if_neg c]
      exact fold_great l x
theorem lMax_great {l : List Sh} (hne : l ≠ []) : lMax l = some (great l) := by
  cases l with
  | nil => exact absurd rfl hne
  | cons w l =>
    show l.foldl maxO (some w) = some ((w :: l).foldl _ w)
    rw [fold_great, List.foldl_cons, show (if belowS w w = true then w else w) = w from ite_self _]
theorem lMax_add {o : Int × Int} (po : 0 < o.2) : ∀ (l : List (Int × Int)) (x : Option (Int × Int)), (∀ v ∈ l, 0 < v.2) → (∀ v, x = some v → 0 < v.2) → (l.map (lPlus o)).foldl maxO (x.map (lPlus o)) = (l.foldl maxO x).map (lPlus o)
  | [], _, _, _ => rfl
  | w :: l, x, pl, px => by
    have pw := pl w (List.mem_cons_self ..)
    have pl' : ∀ v ∈ l, 0 < v.2 := fun v h => pl v (List.mem_cons_of_mem _ h)
    rw [List.map_cons, List.foldl_cons, List.foldl_cons]
    have e : maxO (x.map (lPlus o)) (lPlus o w) = (maxO x w).map (lPlus o) := by
      cases x with
      | none => rfl
      | some y =>
        show (if lLess (lPlus o y) (lPlus o w) = true then some (lPlus o w) else some (lPlus o y)) = (if lLess y w = true then some w else some y).map (lPlus o)
        rw [lLess_add po (px y rfl) pw]
        split <;> rfl
    rw [e]
    refine lMax_add po l _ pl' fun v hv => ?_
    cases x with
    | none => cases hv; exact pw
    | some y =>
      have hv : (if lLess y w = true then some w else some y) = some v := hv
      split at hv
      · cases hv; exact pw
      · cases hv; exact px _ rfl
/-- two lists of the same worths have the same greatest -/
theorem max_same {vs : List (Int × Int)} {ss : List Sh} (h1 : ∀ v ∈ vs, ∃ s ∈ ss, Fr v s) (h2 : ∀ s ∈ ss, ∃ v ∈ vs, Fr v s) : (ss = [] ∧ lMax vs = none) ∨ (ss ≠ [] ∧ ∃ m, lMax vs = some m ∧ Fr m (great ss)) := by
  have pv : ∀ v ∈ vs, 0 < v.2 := fun v hv => by
    obtain ⟨s, _, h⟩ := h1 v hv
    exact h.1
  have ps : ∀ s ∈ ss, 0 < s.2 := fun s hs => by
    obtain ⟨v, _, h⟩ := h2 s hs
    exact h.pos
  by_cases c : ss = []
  · refine .inl ⟨c, ?_⟩
    cases vs with
    | nil => rfl
    | cons v vs =>
      obtain ⟨s, hs, _⟩ := h1 v (List.mem_cons_self ..)
      rw [c] at hs
      exact nomatch hs
  · refine .inr ⟨c, ?_⟩
    have nv : vs ≠ [] := fun e => by
      cases ss with
      | nil => exact c rfl
      | cons s ss =>
        obtain ⟨v, hv, _⟩ := h2 s (List.mem_cons_self ..)
        rw [e] at hv
        exact nomatch hv
    obtain ⟨m, em, hm, mm⟩ := lMax_some nv pv
    obtain ⟨g, eg, hg, gg⟩ := lMax_some c ps
    rw [lMax_great c] at eg
    have eg := Option.some.inj eg
    obtain ⟨s, hs, fs⟩ := h1 m hm
    obtain ⟨v, hv, fv⟩ := h2 g hg
    refine ⟨m, em, ?_⟩
    rw [eg]
    have : s = g := fs.same fv (mm v hv) (by rw [fv.less fs]; exact gg s hs)
    rw [← this]
    exact fs
/-! ### the law's table -/
abbrev T3 := Int × Int × Int
abbrev Tb := List (T3 × (Int × Int))
def findM (F : Tb) (t : T3) : Option (Int × Int) := (F.find? fun p => decide (p.1 = t)).map Prod.snd
def putM (F : Tb) (t : T3) (x : Int × Int) : Tb := if (findM F t).isSome = true then F.map (fun p => if p.1 = t then (t, x) else p) else F ++ [(t, x)]
def lMore (W : Int → Int × Int) (F : Tb) (out : Nat) : LItem → Option (Int × Int)
  | .zero => some (0, 1)
  | .one r => some (W r.num)
  | .two z => findM F (z.1.num, z.2.num, (out : Int) + 1)
def stepM (own : Int × Int) (t : T3) (F : Tb) : Option (Int × Int) → Tb
  | none => F
  | some m => match findM F t with
    | none => putM F t (lPlus own m)
    | some x => if lLess x (lPlus own m) = true then putM F t (lPlus own m) else F
def tOf (p : Rw × Rw) (out : Nat) : T3 := (p.1.num, p.2.num, (out : Int))
def ownOf (W : Int → Int × Int) (p : Rw × Rw) : Int × Int := lPlus (W p.1.num) (W p.2.num)
def itemsM (W : Int → Int × Int) (p : Rw × Rw) (out : Nat) (F : Tb) (its : List LItem) : Tb := its.foldl (fun F it => stepM (ownOf W p) (tOf p out) F (lMore W F out it)) F
def pairsM (W : Int → Int × Int) (u : Rl) (rs : List Rw) (ps : List (Rw × Rw)) (long out : Nat) (F : Tb) (qs : List (Rw × Rw)) : Tb := qs.foldl (fun F p => itemsM W p out F (lInner u rs ps p out long)) F
def outsM (W : Int → Int × Int) (u : Rl) (rs : List Rw) (ps : List (Rw × Rw)) (long : Nat) : Nat → Tb
  | 0 => []
  | i + 1 => pairsM W u rs ps long (long / 2 - 1 - i) (outsM W u rs ps long i) ps
theorem findM_none {F : Tb} {t : T3} : findM F t = none ↔ t ∉ F.map Prod.fst := by
  unfold findM
  rw [Option.map_eq_none_iff, List.find?_eq_none, List.mem_map]
  constructor
  · rintro h ⟨p, hp, e⟩
    exact h p hp (decide_eq_true e)
  · intro h p hp e
    exact h ⟨p, hp, of_decide_eq_true e⟩
theorem findM_some {F : Tb} {t : T3} {x : Int × Int} (h : findM F t = some x) : (t, x) ∈ F := by
  unfold findM at h
  obtain ⟨p, hp, e⟩ := Option.map_eq_some_iff.mp h
  have e1 : p.1 = t := of_decide_eq_true (List.find?_some (p := fun p : T3 × (Int × Int) => decide (p.1 = t)) hp)
  rw [← e, ← e1]
  exact List.mem_of_find?_eq_some hp
theorem findM_cons (p : T3 × (Int × Int)) (F : Tb) (t : T3) : findM (p :: F) t = if p.1 = t then some p.2 else findM F t := by
  unfold findM
  by_cases c : p.1 = t
  · rw [List.find?_cons_of_pos (by exact decide_eq_true c), if_pos c]
    rfl
  · rw [List.find?_cons_of_neg (by rw [decide_eq_true_eq]; exact c), if_neg c]
theorem findM_app : ∀ (F : Tb) (p : T3 × (Int × Int)) (t : T3), findM (F ++ [p]) t = match findM F t with | some x => some x | none => if p.1 = t then some p.2 else none
  | [], p, t => by
    rw [List.nil_append, findM_cons]
    rfl
  | q :: F, p, t => by
    rw [List.cons_append, findM_cons, findM_cons]
    split
    · rfl
    · exact findM_app F p t
theorem findM_map (t : T3) (x : Int × Int) : ∀ (F : Tb) (t' : T3), findM (F.map fun p => if p.1 = t then (t, x) else p) t' = if t' = t then (if (findM F t).isSome = true then some x else none) else findM F t'
  | [], t' => by
    show none = _
    split
    · rw [if_neg]
      exact Bool.false_ne_true
    · rfl
  | q :: F, t' => by
    rw [List.map_cons, findM_cons, findM_map t x F t', findM_cons, findM_cons]
    by_cases c : q.1 = t
    · rw [if_pos c, if_pos c]
      by_cases d : t' = t
      · subst d
        simp [c]
      · rw [if_neg d, if_neg (fun e => d e.symm), if_neg d, if_neg (fun e => d (e.symm.trans c))]
    · rw [if_neg c, if_neg c]
      by_cases d : t' = t
      · rw [if_pos d, if_pos d, if_neg (fun e => c (e.trans d))]
      · rw [if_neg d, if_neg d]
theorem findM_put (F : Tb) (t : T3) (x : Int × Int) (t' : T3) : findM (putM F t x) t' = if t' = t then some x else findM F t' := by
  unfold putM
  by_cases c : (findM F t).isSome = true
  · rw [if_pos c, findM_map, if_pos c]
  · rw [if_neg c, findM_app]
    have n : findM F t = none := by
      cases h : findM F t with
      | none => rfl
      | some y => rw [h] at c; exact absurd rfl c
    by_cases d : t' = t
    · rw [d, n, if_pos rfl]
    · rw [if_neg d]
      cases findM F t' with
      | some y => rfl
      | none => exact if_neg fun e => d e.symm
theorem putM_keys (F : Tb) (t : T3) (x : Int × Int) : (putM F t x).map Prod.fst = if (findM F t).isSome = true then F.map Prod.fst else F.map Prod.fst ++ [t] := by
  unfold putM
  split
  · rw [List.map_map]
    refine List.map_congr_left fun p _ => ?_
    show (if p.1 = t then (t, x) else p).1 = p.1
    split
    · rename_i e
      exact e.symm
    · rfl
  · rw [List.map_append]
    rfl
theorem find_step (own : Int × Int) (t : T3) (F : Tb) (mo : Option (Int × Int)) (t' : T3) : findM (stepM own t F mo) t' = if t' = t then (match mo with | none => findM F t | some m => maxO (findM F t) (lPlus own m)) else findM F t' := by
  cases mo with
  | none =>
    show findM F t' = if t' = t then findM F t else findM F t'
    split
    · rename_i e
      rw [e]
    · rfl
  | some m =>
    show findM (match findM F t with | none => putM F t (lPlus own m) | some x => if lLess x (lPlus own m) = true then putM F t (lPlus own m) else F) t' = if t' = t then maxO (findM F t) (lPlus own m) else findM F t'
    cases h : findM F t with
    | none => exact findM_put ..
    | some x =>
      show findM (if lLess x (lPlus own m) = true then putM F t (lPlus own m) else F) t' = if t' = t then (if lLess x (lPlus own m) = true then some (lPlus own m) else some x) else findM F t'
      by_cases c : lLess x (lPlus own m) = true
      · rw [if_pos c, if_pos c]
        exact findM_put ..
      · rw [if_neg c, if_neg c]
        split
        · rename_i e
          rw [e, h]
        · rfl
/-- keys of a kind, each once -/
def KP (P : T3 → Prop) (F : Tb) : Prop := (F.map Prod.fst).Nodup ∧ ∀ t ∈ F.map Prod.fst, P t
theorem KP.put {P : T3 → Prop} {F : Tb} {t : T3} {x : Int × Int} (h : KP P F) (ht : P t) : KP P (putM F t x) := by
  unfold KP
  rw [putM_keys]
  split
  · exact h
  · rename_i c
    have n : findM F t = none := by
      cases e : findM F t with
      | none => rfl
      | some y => rw [e] at c; exact absurd rfl c
    refine ⟨List.nodup_append.mpr ⟨h.1, List.pairwise_singleton .., fun a ha b hb e => ?_⟩, fun a ha => ?_⟩
    · rw [List.mem_singleton.mp hb] at e
      rw [e] at ha
      exact findM_none.mp n ha
    · rcases List.mem_append.mp ha with ha | ha
      · exact h.2 a ha
      · rw [List.mem_singleton.mp ha]
        exact ht
theorem KP.step {P : T3 → Prop} {F : Tb} {own : Int × Int} {t : T3} {mo : Option (Int × Int)} (h : KP P F) (ht : P t) : KP P (stepM own t F mo) := by
  cases mo with
  | none => exact h
  | some m =>
    show KP P (match findM F t with | none => putM F t (lPlus own m) | some x => if lLess x (lPlus own m) = true then putM F t (lPlus own m) else F)
    cases findM F t with
    | none => exact h.put ht
    | some x =>
      show KP P (if lLess x (lPlus own m) = true then putM F t (lPlus own m) else F)
      split
      · exact h.put ht
      · exact h
theorem KP.items {P : T3 → Prop} {W : Int → Int × Int} {p : Rw × Rw} {out : Nat} (ht : P (tOf p out)) : ∀ (its : List LItem) {F : Tb}, KP P F → KP P (itemsM W p out F its)
  | [], _, h => h
  | it :: its, _, h => KP.items ht its (h.step ht)
theorem KP.pairs {P : T3 → Prop} {W : Int → Int × Int} {u : Rl} {rs : List Rw} {ps : List (Rw × Rw)} {long out : Nat} (ht : ∀ p, P (tOf p out)) : ∀ (qs : List (Rw × Rw)) {F : Tb}, KP P F → KP P (pairsM W u rs ps long out F qs)
  | [], _, h => h
  | q :: qs, _, h => KP.pairs ht qs (KP.items (ht q) _ h)
/-- alike but for one out -/
def Agr (out : Nat) (F F0 : Tb) : Prop := ∀ t : T3, t.2.2 ≠ (out : Int) → findM F t = findM F0 t
theorem Agr.more {W : Int → Int × Int} {out : Nat} {F F0 : Tb} (h : Agr out F F0) (it : LItem) : lMore W F out it = lMore W F0 out it := by
  cases it with
  | zero => rfl
  | one r => rfl
  | two z => exact h _ (show ((out : Int) + 1) ≠ (out : Int) by omega)
theorem Agr.step {own : Int × Int} {p : Rw × Rw} {out : Nat} {F F0 : Tb} {mo : Option (Int × Int)} (h : Agr out F F0) : Agr out (stepM own (tOf p out) F mo) F0 := fun t ht => by
  rw [find_step, if_neg (fun e => ht (by rw [e]; rfl))]
  exact h t ht
/-- what a pair comes to -/
def valsM (W : Int → Int × Int) (u : Rl) (rs : List Rw) (ps : List (Rw × Rw)) (long out : Nat) (F : Tb) (p : Rw × Rw) : List (Int × Int) := (lInner u rs ps p out long).filterMap (lMore W F out)
theorem items_find {W : Int → Int × Int} {p : Rw × Rw} {out : Nat} {F0 : Tb} : ∀ (its : List LItem) (F : Tb), Agr out F F0 → ∀ t', findM (itemsM W p out F its) t' = if t' = tOf p out then ((its.filterMap (lMore W F0 out)).map (lPlus (ownOf W p))).foldl maxO (findM F t') else findM F t'
  | [], F, _, t' => (ite_self _).symm
  | it :: its, F, h, t' => by
    show findM (itemsM W p out (stepM (ownOf W p) (tOf p out) F (lMore W F out it)) its) t' = _
    rw [items_find its _ h.step, find_step, h.more it]
    by_cases c : t' = tOf p out
    · rw [if_pos c, if_pos c, if_pos c]
      cases e : lMore W F0 out it with
      | none => rw [List.filterMap_cons_none e, c]
      | some m => rw [List.filterMap_cons_some e, List.map_cons, List.foldl_cons, c]
    · rw [if_neg c, if_neg c, if_neg c]
theorem items_agr {W : Int → Int × Int} {p : Rw × Rw} {out : Nat} {F0 : Tb} : ∀ (its : List LItem) (F : Tb), Agr out F F0 → Agr out (itemsM W p out F its) F0
  | [], _, h => h
  | it :: its, F, h => items_agr its _ h.step
theorem pairs_agr {W : Int → Int × Int} {u : Rl} {rs : List Rw} {ps : List (Rw × Rw)} {long out : Nat} {F0 : Tb} : ∀ (qs : List (Rw × Rw)) (F : Tb), Agr out F F0 → Agr out (pairsM W u rs ps long out F qs) F0
  | [], _, h => h
  | q :: qs, F, h => pairs_agr qs _ (items_agr _ _ h)
theorem pairs_out {W : Int → Int × Int} {u : Rl} {rs : List Rw} {ps : List (Rw × Rw)} {long out : Nat} {F0 : Tb} {t : T3} : ∀ (qs : List (Rw × Rw)) (F : Tb), Agr out F F0 → t ∉ qs.map (tOf · out) → findM (pairsM W u rs ps long out F qs) t = findM F t
  | [], _, _, _ => rfl
  | q :: qs, F, h, n => by
    rw [List.map_cons, List.mem_cons] at n
    show findM (pairsM W u rs ps long out (itemsM W q out F (lInner u rs ps q out long)) qs) t = _
    rw [pairs_out qs _ (items_agr _ _ h) (fun m => n (.inr m)), items_find _ _ h, if_neg (fun e => n (.inl e))]
theorem pairs_in {W : Int → Int × Int} {u : Rl} {rs : List Rw} {ps : List (Rw × Rw)} {long out : Nat} {F0 : Tb} {p : Rw × Rw} : ∀ (qs : List (Rw × Rw)) (F : Tb), Agr out F F0 → (qs.map (tOf · out)).Nodup → p ∈ qs → findM (pairsM W u rs ps long out F qs) (tOf p out) = ((valsM W u rs ps long out F0 p).map (lPlus (ownOf W p))).foldl maxO (findM F (tOf p out))
  | q :: qs, F, h, nd, hp => by
    rw [List.map_cons, List.nodup_cons] at nd
    show findM (pairsM W u rs ps long out (itemsM W q out F (lInner u rs ps q out long)) qs) _ = _
    rcases List.mem_cons.mp hp with rfl | hp
    · rw [pairs_out qs _ (items_agr _ _ h) nd.1, items_find _ _ h, if_pos rfl]
      rfl
    · rw [pairs_in qs _ (items_agr _ _ h) nd.2 hp, items_find _ _ h, if_neg]
      intro e
      exact nd.1 (by rw [← e]; exact List.mem_map_of_mem hp)
/-! ### the law's table is the program's -/
theorem num_inj {rs : List Rw} (nd : (rs.map Rw.num).Nodup) {a b : Rw} (ha : a ∈ rs) (hb : b ∈ rs) (e : a.num = b.num) : a = b := by
  have h1 := find_num nd ha
  have h2 := find_num nd hb
  rw [e] at h1
  exact Option.some.inj (h1.symm.trans h2)
theorem mem_innerU {u : Rl} {rs : List Rw} (nd : (rs.map Rw.num).Nodup) {b r : Rw} (hr : r ∈ rs) : r.num ∈ innerU u rs b ↔ mayNext u r b = true := by
  unfold innerU
  constructor
  · intro h
    obtain ⟨q, hq, e⟩ := List.mem_map.mp h
    obtain ⟨h1, h2⟩ := List.mem_filter.mp hq
    rw [← num_inj nd h1 hr e]
    exact h2
  · intro h
    exact List.mem_map_of_mem (List.mem_filter.mpr ⟨hr, h⟩)
theorem lPair_eq (u : Rl) (l r : Rw) : lPair u l r = mayPair u l r := by
  have e1 : lPair u l r = (decide (l.num ≠ r.num) && (lAlike u l r && decide (absI (l.ac - r.ac) ≤ u.far))) := rfl
  have e2 : mayPair u l r = ((!decide (l.num = r.num) && !decide (u.far < apart l.ac r.ac)) && (!u.shd || look l r)) := rfl
  have e3 : lAlike u l r = (!u.shd || look l r) := by
    unfold lAlike look
    rw [Bool.and_true]
  have e4 : decide (absI (l.ac - r.ac) ≤ u.far) = !decide (u.far < apart l.ac r.ac) := by
    show decide (absI (l.ac - r.ac) ≤ u.far) = !decide (u.far < absI (l.ac - r.ac))
    rw [Bool.eq_iff_iff, Bool.not_eq_true', decide_eq_true_eq, decide_eq_false_iff_not]
    omega
  have e5 : decide (l.num ≠ r.num) = !decide (l.num = r.num) := by
    rw [Bool.eq_iff_iff, Bool.not_eq_true', decide_eq_true_eq, decide_eq_false_iff_not]
  rw [e1, e2, e3, e4, e5]
  cases (!decide (l.num = r.num)) <;> cases (!decide (u.far < apart l.ac r.ac)) <;> cases (!u.shd || look l r) <;> rfl
theorem mem_lPairs {u : Rl} {rs : List Rw} {p : Rw × Rw} : p ∈ lPairs u rs ↔ p.1 ∈ rs ∧ p.2 ∈ rs ∧ mayPair u p.1 p.2 = true := by
  unfold lPairs
  rw [List.mem_flatMap]
  constructor
  · rintro ⟨l, hl, h⟩
    obtain ⟨r, hr, rfl⟩ := List.mem_map.mp h
    obtain ⟨h1, h2⟩ := List.mem_filter.mp hr
    rw [lPair_eq] at h2
    exact ⟨hl, h1, h2⟩
  · rintro ⟨h1, h2, h3⟩
    exact ⟨p.1, h1, List.mem_map.mpr ⟨p.2, List.mem_filter.mpr ⟨h2, by rw [lPair_eq]; exact h3⟩, rfl⟩⟩
theorem mem_pairsU {u : Rl} {rs : List Rw} {z : Pr} : z ∈ pairsU u rs ↔ ∃ p ∈ lPairs u rs, z = (p.1.num, p.2.num) := by
  unfold pairsU
  rw [(srtP_perm _).mem_iff]
  unfold pairs0
  rw [List.mem_flatMap]
  constructor
  · rintro ⟨l, hl, h⟩
    obtain ⟨r, hr, rfl⟩ := List.mem_map.mp h
    obtain ⟨h1, h2⟩ := List.mem_filter.mp hr
    exact ⟨(l, r), mem_lPairs.mpr ⟨hl, h1, h2⟩, rfl⟩
  · rintro ⟨p, hp, rfl⟩
    obtain ⟨h1, h2, h3⟩ := mem_lPairs.mp hp
    exact ⟨p.1, h1, List.mem_map.mpr ⟨p.2, List.mem_filter.mpr ⟨h2, h3⟩, rfl⟩⟩
theorem lPairs_nd {u : Rl} {rs : List Rw} (nd : (rs.map Rw.num).Nodup) (out : Nat) : ((lPairs u rs).map (tOf · out)).Nodup := by
  have nr : rs.Pairwise fun a b => a.num ≠ b.num := List.pairwise_map.mp nd
  unfold lPairs
  rw [List.map_flatMap]
  refine List.pairwise_flatMap.mpr ⟨fun r _ => ?_, nr.imp fun {a b} h x hx y hy e => ?_⟩
  · unfold lPairsB
    rw [List.map_map]
    refine List.pairwise_map.mpr ((nr.sublist List.filter_sublist).imp fun {a b} h e => h ?_)
    exact congrArg (fun t : T3 => t.2.1) e
  · unfold lPairsB at hx hy
    rw [List.map_map] at hx hy
    obtain ⟨q, _, rfl⟩ := List.mem_map.mp hx
    obtain ⟨q', _, rfl⟩ := List.mem_map.mp hy
    exact h (congrArg (fun t : T3 => t.1) e)
/-- told alike, or neither told -/
def ORel (a b : Option (Int × Int)) : Prop := (a = none ∧ b = none) ∨ ∃ q s, a = some q ∧ b = some s ∧ Fr q s
structure LkW (W : Int → Int × Int) (k : Ak) (u : Rl) (rs : List Rw) (long : Nat) : Prop where
  nd : (rs.map Rw.num).Nodup
  hk : k = akOf u rs long k.ws
  hW : ∀ r ∈ rs, Fr (W r.num) (worthK k r.num)
theorem LkW.hv {W : Int → Int × Int} {k : Ak} {u : Rl} {rs : List Rw} {long : Nat} (h : LkW W k u rs long) : k.hv = long / 2 := by rw [h.hk]; rfl
theorem LkW.od {W : Int → Int × Int} {k : Ak} {u : Rl} {rs : List Rw} {long : Nat} (h : LkW W k u rs long) : k.od = decide (long % 2 = 1) := by rw [h.hk]; rfl
theorem LkW.fnd {W : Int → Int × Int} {k : Ak} {u : Rl} {rs : List Rw} {long : Nat} (h : LkW W k u rs long) : k.fnd = pairsU u rs := by rw [h.hk]; rfl
theorem LkW.wi {W : Int → Int × Int} {k : Ak} {u : Rl} {rs : List Rw} {long : Nat} (h : LkW W k u rs long) (z : Pr) : k.wi z = (pairsU u rs).filter fun p => decide (p.1 ∈ innerN u rs z.1) && decide (p.2 ∈ innerN u rs z.2) := by
  have : k.wi = (akOf u rs long k.ws).wi := congrArg Ak.wi h.hk
  rw [this]
  rfl
theorem LkW.mi {W : Int → Int × Int} {k : Ak} {u : Rl} {rs : List Rw} {long : Nat} (h : LkW W k u rs long) (z : Pr) : k.mi z = (innerN u rs z.1).filter fun n => decide (n ∈ innerN u rs z.2) := by
  have : k.mi = (akOf u rs long k.ws).mi := congrArg Ak.mi h.hk
  rw [this]
  rfl
theorem fr01 : Fr (0, 1) (0, 1) := ⟨by decide, by decide⟩
theorem goes_sets {W : Int → Int × Int} {k : Ak} {u : Rl} {rs : List Rw} {long : Nat} (h : LkW W k u rs long) {p : Rw × Rw} (hp : p ∈ lPairs u rs) {out : Nat} {F : Tb} {qs : List (Pr × Sh)} (hF : out + 1 < k.hv → ∀ z : Pr, ORel (findM F (z.1, z.2, (out : Int) + 1)) (findQ qs z)) :
    (∀ v ∈ valsM W u rs (lPairs u rs) long out F p, ∃ s ∈ goesOn k (p.1.num, p.2.num) out qs, Fr v s) ∧ (∀ s ∈ goesOn k (p.1.num, p.2.num) out qs, ∃ v ∈ valsM W u rs (lPairs u rs) long out F p, Fr v s) := by
  obtain ⟨p1, p2, _⟩ := mem_lPairs.mp hp
  have i1 : innerN u rs p.1.num = innerU u rs p.1 := inner_at h.nd p1
  have i2 : innerN u rs p.2.num = innerU u rs p.2 := inner_at h.nd p2
  unfold valsM lInner goesOn
  rw [h.hv]
  by_cases c : out + 1 < long / 2
  · rw [if_pos c, if_pos c, h.wi]
    have hF := hF (by rw [h.hv]; exact c)
    have key : ∀ z : Rw × Rw, z ∈ lPairs u rs → ((decide (z.1.num ∈ innerN u rs p.1.num) && decide (z.2.num ∈ innerN u rs p.2.num)) = lIn2 u p z) := fun z hz => by
      obtain ⟨z1, z2, _⟩ := mem_lPairs.mp hz
      rw [i1, i2, Bool.eq_iff_iff, Bool.and_eq_true, decide_eq_true_eq, decide_eq_true_eq, mem_innerU h.nd z1, mem_innerU h.nd z2]
      exact (Bool.and_eq_true _ _ ▸ Iff.rfl)
    constructor
    · intro v hv
      obtain ⟨it, hit, e⟩ := List.mem_filterMap.mp hv
      obtain ⟨z, hz, rfl⟩ := List.mem_map.mp hit
      obtain ⟨z1, z2⟩ := List.mem_filter.mp hz
      have e : findM F (z.1.num, z.2.num, (out : Int) + 1) = some v := e
      rcases hF (z.1.num, z.2.num) with ⟨e1, _⟩ | ⟨q, s, e1, e2, f⟩
      · rw [e] at e1; cases e1
      · rw [e] at e1
        cases e1
        refine ⟨s, List.mem_map.mpr ⟨(z.1.num, z.2.num), List.mem_filter.mpr ⟨List.mem_filter.mpr ⟨mem_pairsU.mpr ⟨z, z1, rfl⟩, by rw [key z z1]; exact z2⟩, by rw [e2]; rfl⟩, by rw [e2]; rfl⟩, f⟩
    · intro s hs
      obtain ⟨o, ho, e⟩ := List.mem_map.mp hs
      obtain ⟨ho, hos⟩ := List.mem_filter.mp ho
      obtain ⟨ho, hoi⟩ := List.mem_filter.mp ho
      obtain ⟨z, hz, rfl⟩ := mem_pairsU.mp ho
      rcases hF (z.1.num, z.2.num) with ⟨_, e2⟩ | ⟨q, s', e1, e2, f⟩
      · rw [e2] at hos; cases hos
      · rw [e2] at e
        have e : s' = s := e
        subst e
        exact ⟨q, List.mem_filterMap.mpr ⟨.two z, List.mem_map_of_mem (List.mem_filter.mpr ⟨hz, by rw [← key z hz]; exact hoi⟩), e1⟩, f⟩
  · rw [if_neg c, if_neg c, h.od]
    by_cases d : long % 2 = 0
    · rw [if_pos d, if_neg (by rw [decide_eq_true_eq]; omega)]
      constructor
      · intro v hv
        obtain ⟨it, hit, e⟩ := List.mem_filterMap.mp hv
        rw [List.mem_singleton.mp hit] at e
        cases e
        exact ⟨_, List.mem_singleton_self _, fr01⟩
      · intro s hs
        rw [List.mem_singleton.mp hs]
        exact ⟨(0, 1), List.mem_filterMap.mpr ⟨.zero, List.mem_singleton_self _, rfl⟩, fr01⟩
    · rw [if_neg d, if_pos (by rw [decide_eq_true_eq]; omega), h.mi]
      have key : ∀ r ∈ rs, (r.num ∈ innerN u rs p.1.num ∧ r.num ∈ innerN u rs p.2.num) ↔ lIn1 u p r = true := fun r hr => by
        rw [i1, i2, mem_innerU h.nd hr, mem_innerU h.nd hr]
        exact (Bool.and_eq_true _ _ ▸ Iff.rfl)
      constructor
      · intro v hv
        obtain ⟨it, hit, e⟩ := List.mem_filterMap.mp hv
        obtain ⟨r, hr, rfl⟩ := List.mem_map.mp hit
        obtain ⟨r1, r2⟩ := List.mem_filter.mp hr
        cases e
        obtain ⟨k1, k2⟩ := (key r r1).mpr r2
        exact ⟨_, List.mem_map_of_mem (List.mem_filter.mpr ⟨k1, decide_eq_true k2⟩), h.hW r r1⟩
      · intro s hs
        obtain ⟨n, hn, rfl⟩ := List.mem_map.mp hs
        obtain ⟨n1, n2⟩ := List.mem_filter.mp hn
        have n1' := n1
        rw [show innerN u rs (p.1.num, p.2.num).1 = innerU u rs p.1 from i1] at n1'
        obtain ⟨r, hr, rfl⟩ := List.mem_map.mp n1'
        have r1 := (List.mem_filter.mp hr).1
        exact ⟨_, List.mem_filterMap.mpr ⟨.one r, List.mem_map_of_mem (List.mem_filter.mpr ⟨r1, (key r r1).mp ⟨n1, of_decide_eq_true n2⟩⟩), rfl⟩, h.hW r r1⟩
theorem findQ_here {k : Ak} {out : Nat} {qs : List (Pr × Sh)} : ∀ (zs : List Pr) (z : Pr), findQ (hereL k out qs zs) z = if z ∈ zs then (if goesOn k z out qs = [] then none else some (worthWith k z (great (goesOn k z out qs)))) else none
  | [], z => rfl
  | y :: zs, z => by
    have ih := findQ_here zs z (k := k) (out := out) (qs := qs)
    by_cases c : goesOn k y out qs = []
    · have e : hereL k out qs (y :: zs) = hereL k out qs zs := List.filterMap_cons_none (show one1 k out qs y = none from if_pos c)
      rw [e, ih]
      by_cases d : z = y
      · rw [d, if_pos (List.mem_cons_self ..), if_pos c]
        split <;> rfl
      · by_cases m : z ∈ zs
        · rw [if_pos m, if_pos (List.mem_cons_of_mem _ m)]
        · rw [if_neg m, if_neg (fun h => by rcases List.mem_cons.mp h with h | h; exact d h; exact m h)]
    · have e : hereL k out qs (y :: zs) = (y, worthWith k y (great (goesOn k y out qs))) :: hereL k out qs zs := List.filterMap_cons_some (show one1 k out qs y = some _ from if_neg c)
      rw [e]
      by_cases d : z = y
      · rw [d, if_pos (List.mem_cons_self ..), if_neg c]
        unfold findQ
        rw [List.find?_cons_of_pos (by simp)]
        rfl
      · have e2 : findQ ((y, worthWith k y (great (goesOn k y out qs))) :: hereL k out qs zs) z = findQ (hereL k out qs zs) z := by
          unfold findQ
          rw [List.find?_cons_of_neg (by rw [decide_eq_true_eq]; exact fun e => d e.symm)]
        rw [e2, ih]
        by_cases m : z ∈ zs
        · rw [if_pos m, if_pos (List.mem_cons_of_mem _ m)]
        · rw [if_neg m, if_neg (fun h => by rcases List.mem_cons.mp h with h | h; exact d h; exact m h)]
/-- the law's table, so far -/
structure OutR (W : Int → Int × Int) (k : Ak) (i : Nat) (F : Tb) : Prop where
  kp : KP (fun t => ∃ o : Nat, t.2.2 = (o : Int) ∧ k.hv - i ≤ o ∧ o < k.hv) F
  at_ : ∀ (z : Pr) (o : Nat), k.hv - i ≤ o → o < k.hv → ORel (findM F (z.1, z.2, (o : Int))) (findQ (lvl k (k.hv - o)) z)
theorem outs_rel {W : Int → Int × Int} {k : Ak} {u : Rl} {rs : List Rw} {long : Nat} (h : LkW W k u rs long) : ∀ i, i ≤ k.hv → OutR W k i (outsM W u rs (lPairs u rs) long i)
  | 0, _ => ⟨⟨List.nodup_nil, fun _ h => nomatch h⟩, fun _ _ _ _ => by omega⟩
  | i + 1, hi => by
    have ih := outs_rel h i (by omega)
    show OutR W k (i + 1) (pairsM W u rs (lPairs u rs) long (long / 2 - 1 - i) (outsM W u rs (lPairs u rs) long i) (lPairs u rs))
    rw [← h.hv]
    generalize hF : outsM W u rs (lPairs u rs) long i = F at ih
    have out1 : k.hv - 1 - i < k.hv := by omega
    have A0 : Agr (k.hv - 1 - i) F F := fun _ _ => rfl
    refine ⟨KP.pairs (fun p => ⟨k.hv - 1 - i, rfl, by omega, by omega⟩) _ ⟨ih.kp.1, fun t ht => ?_⟩, fun z o ho ho2 => ?_⟩
    · obtain ⟨o, h1, h2, h3⟩ := ih.kp.2 t ht
      exact ⟨o, h1, by omega, h3⟩
    · by_cases c : o = k.hv - 1 - i
      · have eo : k.hv - o = i + 1 := by omega
        rw [eo]
        have el : lvl k (i + 1) = hereL k (k.hv - 1 - i) (lvl k i) k.fnd := rfl
        rw [el, findQ_here, c]
        have n0 : ∀ a b : Int, findM F (a, b, ((k.hv - 1 - i : Nat) : Int)) = none := fun a b => findM_none.mpr fun m => by
          obtain ⟨o', h1, h2, h3⟩ := ih.kp.2 _ m
          have h1 : ((k.hv - 1 - i : Nat) : Int) = (o' : Int) := h1
          omega
        by_cases m : z ∈ k.fnd
        · rw [if_pos m]
          rw [h.fnd] at m
          obtain ⟨p, hp, rfl⟩ := mem_pairsU.mp m
          have e := pairs_in (W := W) (u := u) (rs := rs) (ps := lPairs u rs) (long := long) (out := k.hv - 1 - i) (lPairs u rs) F A0 (lPairs_nd h.nd _) hp
          have e : findM (pairsM W u rs (lPairs u rs) long (k.hv - 1 - i) F (lPairs u rs)) (p.1.num, p.2.num, ((k.hv - 1 - i : Nat) : Int)) = _ := e
          rw [e, show findM F (tOf p (k.hv - 1 - i)) = none from n0 _ _]
          have gs := goes_sets h hp (out := k.hv - 1 - i) (F := F) (qs := lvl k i) fun hlt z => by
            have := ih.at_ z (k.hv - i) (by omega) (by omega)
            rw [show k.hv - (k.hv - i) = i by omega, show ((k.hv - i : Nat) : Int) = ((k.hv - 1 - i : Nat) : Int) + 1 by omega] at this
            exact this
          obtain ⟨p1, p2, _⟩ := mem_lPairs.mp hp
          have fo : Fr (ownOf W p) (fPlus (worthK k p.1.num) (worthK k p.2.num)) := (h.hW _ p1).plus (h.hW _ p2)
          have pv : ∀ v ∈ valsM W u rs (lPairs u rs) long (k.hv - 1 - i) F p, 0 < v.2 := fun v hv => by
            obtain ⟨s, _, f⟩ := gs.1 v hv
            exact f.1
          have ea : ((valsM W u rs (lPairs u rs) long (k.hv - 1 - i) F p).map (lPlus (ownOf W p))).foldl maxO none = (lMax (valsM W u rs (lPairs u rs) long (k.hv - 1 - i) F p)).map (lPlus (ownOf W p)) := lMax_add fo.1 _ none pv (fun _ e => nomatch e)
          rw [ea]
          rcases max_same gs.1 gs.2 with ⟨e1, e2⟩ | ⟨e1, m', e2, f⟩
          · rw [e2, if_pos e1]
            exact .inl ⟨rfl, rfl⟩
          · rw [e2, if_neg e1]
            exact .inr ⟨_, _, rfl, rfl, fo.plus f⟩
        · rw [if_neg m]
          rw [h.fnd] at m
          refine .inl ⟨?_, rfl⟩
          rw [pairs_out (F0 := F) _ _ A0]
          · exact n0 _ _
          · intro mm
            obtain ⟨p, hp, e⟩ := List.mem_map.mp mm
            refine m (mem_pairsU.mpr ⟨p, hp, ?_⟩)
            exact Prod.ext (congrArg (fun t : T3 => t.1) e).symm (congrArg (fun t : T3 => t.2.1) e).symm
      · have := ih.at_ z o (by omega) ho2
        rw [pairs_agr (F0 := F) _ _ A0 _ (show (o : Int) ≠ _ by omega)]
        exact this
/-! ### the most of all, and the keys -/
def topVs (W : Int → Int × Int) (rs : List Rw) (long : Nat) (F : Tb) : List (Int × Int) := if long = 1 then rs.map fun r => W r.num else (F.filter fun p => decide (p.1.2.2 = 0)).map Prod.snd
def lTop (W : Int → Int × Int) (rs : List Rw) (long : Nat) (F : Tb) : Option (Int × Int) := lMax (topVs W rs long F)
def ssOf (k : Ak) (long : Nat) : List Sh := if long = 1 then k.ws.map Prod.snd else (lvl k k.hv).map Prod.snd
def TopR (top : Option (Int × Int)) (ss : List Sh) : Prop := (ss = [] ∧ top = none) ∨ (ss ≠ [] ∧ ∃ m, top = some m ∧ Fr m (great ss))
theorem KP.get {P : T3 → Prop} {F : Tb} (h : KP P F) {t : T3} {x : Int × Int} (m : (t, x) ∈ F) : findM F t = some x := by
  have nd := h.1
  clear h
  induction F with
  | nil => exact nomatch m
  | cons p F ih =>
    rw [List.map_cons, List.nodup_cons] at nd
    rw [findM_cons]
    rcases List.mem_cons.mp m with rfl | m
    · exact if_pos rfl
    · rw [if_neg]
      · exact ih m nd.2
      · intro e
        exact nd.1 (by rw [e]; exact List.mem_map_of_mem (f := Prod.fst) m)
theorem findQ_of {qs : List (Pr × Sh)} (nd : (qs.map Prod.fst).Nodup) {z : Pr} {x : Sh} (m : (z, x) ∈ qs) : findQ qs z = some x := by
  unfold findQ
  induction qs with
  | nil => exact nomatch m
  | cons p qs ih =>
    rw [List.map_cons, List.nodup_cons] at nd
    rcases List.mem_cons.mp m with rfl | m
    · rw [List.find?_cons_of_pos (by simp)]
      rfl
    · rw [List.find?_cons_of_neg]
      · exact ih nd.2 m
      · rw [decide_eq_true_eq]
        intro e
        exact nd.1 (by rw [e]; exact List.mem_map_of_mem (f := Prod.fst) m)
theorem fnd_nd {W : Int → Int × Int} {k : Ak} {u : Rl} {rs : List Rw} {long : Nat} (h : LkW W k u rs long) : k.fnd.Nodup := by
  rw [h.fnd]
  exact pairs_nd h.nd
theorem lvl_nd {W : Int → Int × Int} {k : Ak} {u : Rl} {rs : List Rw} {long : Nat} (h : LkW W k u rs long) (i : Nat) : ((lvl k i).map Prod.fst).Nodup := (fnd_nd h).sublist (lvl_sub k i)
theorem worthK_of {k : Ak} (nd : (k.ws.map Prod.fst).Nodup) {n : Int} {x : Sh} (m : (n, x) ∈ k.ws) : worthK k n = x := by
  unfold worthK
  generalize k.ws = qs at *
  induction qs with
  | nil => exact nomatch m
  | cons p qs ih =>
    rw [List.map_cons, List.nodup_cons] at nd
    rcases List.mem_cons.mp m with rfl | m
    · rw [List.find?_cons_of_pos (by simp)]
      rfl
    · rw [List.find?_cons_of_neg]
      · exact ih nd.2 m
      · rw [decide_eq_true_eq]
        intro e
        exact nd.1 (by rw [e]; exact List.mem_map_of_mem (f := Prod.fst) m)
/-- the law's values and the program's shares are the same -/
theorem top_sets {W : Int → Int × Int} {k : Ak} {u : Rl} {rs : List Rw} {long : Nat} (h : LkW W k u rs long) (hw : k.ws.map Prod.fst = rs.map Rw.num) (h1 : 1 ≤ long) :
    (∀ v ∈ topVs W rs long (outsM W u rs (lPairs u rs) long k.hv), ∃ s ∈ ssOf k long, Fr v s) ∧ (∀ s ∈ ssOf k long, ∃ v ∈ topVs W rs long (outsM W u rs (lPairs u rs) long k.hv), Fr v s) := by
  have hR := outs_rel h k.hv (Nat.le_refl _)
  generalize outsM W u rs (lPairs u rs) long k.hv = F at hR
  unfold topVs ssOf
  by_cases c : long = 1
  · rw [if_pos c, if_pos c]
    have ndw : (k.ws.map Prod.fst).Nodup := by
      rw [hw]
      exact h.nd
    constructor
    · intro v hv
      obtain ⟨r, hr, rfl⟩ := List.mem_map.mp hv
      have m : r.num ∈ k.ws.map Prod.fst := by
        rw [hw]
        exact List.mem_map_of_mem hr
      obtain ⟨⟨n, x⟩, hp, e⟩ := List.mem_map.mp m
      have e : n = r.num := e
      subst e
      refine ⟨x, List.mem_map_of_mem (f := Prod.snd) hp, ?_⟩
      rw [← worthK_of ndw hp]
      exact h.hW r hr
    · intro s hs
      obtain ⟨⟨n, x⟩, hp, rfl⟩ := List.mem_map.mp hs
      have m : n ∈ rs.map Rw.num := by
        rw [← hw]
        exact List.mem_map_of_mem (f := Prod.fst) hp
      obtain ⟨r, hr, rfl⟩ := List.mem_map.mp m
      refine ⟨_, List.mem_map_of_mem hr, ?_⟩
      show Fr (W r.num) x
      rw [← worthK_of ndw hp]
      exact h.hW r hr
  · rw [if_neg c, if_neg c]
    have hv1 : 1 ≤ k.hv := by
      rw [h.hv]
      omega
    have at0 := fun z => hR.at_ z 0 (by omega) (by omega)
    constructor
    · intro v hv
      obtain ⟨⟨⟨a, b, o⟩, x⟩, hp, rfl⟩ := List.mem_map.mp hv
      obtain ⟨hp, e⟩ := List.mem_filter.mp hp
      have e : o = 0 := of_decide_eq_true e
      subst e
      have g := hR.kp.get hp
      rcases at0 (a, b) with ⟨e1, _⟩ | ⟨q, s, e1, e2, f⟩
      · have e1 : findM F (a, b, 0) = none := e1
        rw [g] at e1
        cases e1
      · have e1 : findM F (a, b, 0) = some q := e1
        rw [g] at e1
        cases e1
        exact ⟨s, List.mem_map_of_mem (f := Prod.snd) (findQ_some e2), f⟩
    · intro s hs
      obtain ⟨⟨z, x⟩, hp, rfl⟩ := List.mem_map.mp hs
      have g := findQ_of (lvl_nd h k.hv) hp
      rcases at0 z with ⟨_, e2⟩ | ⟨q, s, e1, e2, f⟩
      · have e2 : findQ (lvl k k.hv) z = none := e2
        rw [g] at e2
        cases e2
      · have e2 : findQ (lvl k k.hv) z = some s := e2
        rw [g] at e2
        cases e2
        exact ⟨q, List.mem_map.mpr ⟨_, List.mem_filter.mpr ⟨findM_some e1, by exact decide_eq_true (rfl : (((0 : Nat) : Int)) = 0)⟩, rfl⟩, f⟩
theorem top_rel {W : Int → Int × Int} {k : Ak} {u : Rl} {rs : List Rw} {long : Nat} (h : LkW W k u rs long) (hw : k.ws.map Prod.fst = rs.map Rw.num) (h1 : 1 ≤ long) : TopR (lTop W rs long (outsM W u rs (lPairs u rs) long k.hv)) (ssOf k long) := max_same (top_sets h hw h1).1 (top_sets h hw h1).2
/-! ### its own paper told again -/
theorem put_level {o : Nat} : ∀ (qs : List (Pr × Sh)) (rest : List (Option Rwp)) (T : List (List (Pr × Sh))), o < T.length → ((T.getD o [] ++ qs).map Prod.fst).Nodup → putRows ((qs.map fun p => some (p.1, o, p.2)) ++ rest) T = putRows rest (T.set o (T.getD o [] ++ qs))
  | [], rest, T, ho, _ => by
    rw [List.append_nil]
    have e : T.set o (T.getD o []) = T := by
      rw [List.getD_eq_getElem?_getD, List.getElem?_eq_getElem ho]
      exact List.set_getElem_self ho
    rw [e]
    rfl
  | p :: qs, rest, T, ho, nd => by
    show (if p.1 ∈ (T.getD o []).map Prod.fst then none else putRows ((qs.map fun p => some (p.1, o, p.2)) ++ rest) (T.set o (T.getD o [] ++ [(p.1, p.2)]))) = _
    rw [if_neg]
    · have e : (T.set o (T.getD o [] ++ [(p.1, p.2)])).getD o [] = T.getD o [] ++ [p] := by
        rw [List.getD_eq_getElem?_getD, List.getElem?_set_self ho]
        rfl
      rw [put_level qs rest _ (by rw [List.length_set]; exact ho) (by rw [e, List.append_assoc]; exact nd), e, List.set_set, List.append_assoc]
      rfl
    · intro m
      rw [List.map_append, List.nodup_append] at nd
      exact nd.2.2 _ m _ (List.mem_cons_self ..) rfl
theorem put_rows {k : Ak} (nd : ∀ i, ((lvl k i).map Prod.fst).Nodup) : ∀ (i : Nat) (T : List (List (Pr × Sh))), i ≤ k.hv → T.length = k.hv → (∀ o, k.hv - i ≤ o → T.getD o [] = []) → ∃ T', putRows ((rowsL k i).map some) T = some T' ∧ T'.length = k.hv ∧ (∀ o, o < k.hv → k.hv - i ≤ o → T'.getD o [] = lvl k (k.hv - o)) ∧ ∀ o, o < k.hv - i → T'.getD o [] = T.getD o []
  | 0, T, _, hl, _ => ⟨T, rfl, hl, fun o h1 h2 => by omega, fun _ _ => rfl⟩
  | i + 1, T, hi, hl, h0 => by
    have e0 : T.getD (k.hv - 1 - i) [] = [] := h0 _ (by omega)
    have e : (rowsL k (i + 1)).map some = ((lvl k (i + 1)).map fun p => some (p.1, k.hv - 1 - i, p.2)) ++ (rowsL k i).map some := by
      show ((lvl k (i + 1)).map (fun p => (p.1, k.hv - 1 - i, p.2)) ++ rowsL k i).map some = _
      rw [List.map_append, List.map_map]
      rfl
    rw [e, put_level _ _ _ (by omega) (by rw [e0]; exact nd _), e0, List.nil_append]
    obtain ⟨T', h1, h2, h3, h4⟩ := put_rows nd i (T.set (k.hv - 1 - i) (lvl k (i + 1))) (by omega) (by rw [List.length_set]; exact hl) (fun o ho => by
      rw [List.getD_eq_getElem?_getD, List.getElem?_set_ne (by omega), ← List.getD_eq_getElem?_getD]
      exact h0 o (by omega))
    refine ⟨T', h1, h2, fun o ho ho2 => ?_, fun o ho => ?_⟩
    · by_cases c : o = k.hv - 1 - i
      · rw [h4 o (by omega), c, List.getD_eq_getElem?_getD, List.getElem?_set_self (by omega), show k.hv - (k.hv - 1 - i) = i + 1 by omega]
        rfl
      · exact h3 o ho (by omega)
    · rw [h4 o (by omega), List.getD_eq_getElem?_getD, List.getElem?_set_ne (by omega), ← List.getD_eq_getElem?_getD]
theorem hasAll_own {k : Ak} (i : Nat) : hasAll k (k.hv - 1 - i) (lvl k (i + 1)) (lvl k i) = true := by
  refine List.all_eq_true.mpr fun z hz => ?_
  unfold okAt
  by_cases c : goesOn k z (k.hv - 1 - i) (lvl k i) = []
  · rw [if_pos c]
  · rw [if_neg c]
    have e : findQ (lvl k (i + 1)) z = some (worthWith k z (great (goesOn k z (k.hv - 1 - i) (lvl k i)))) := by
      have := findQ_here (k := k) (out := k.hv - 1 - i) (qs := lvl k i) k.fnd z
      rw [if_pos hz, if_neg c] at this
      exact this
    rw [e]
    show (!belowS _ _) = true
    rw [show belowS (worthWith k z (great (goesOn k z (k.hv - 1 - i) (lvl k i)))) (worthWith k z (great (goesOn k z (k.hv - 1 - i) (lvl k i)))) = false from lLess_irr _]
    rfl
theorem bars_own {k : Ak} (nd : ∀ i, ((lvl k i).map Prod.fst).Nodup) {long : Nat} (hv : k.hv = long / 2) (h1 : 1 ≤ long) (most : Sh) : barsO k long most (putRows ((rowsL k k.hv).map some) (List.replicate k.hv [])) = !((ssOf k long).any fun s => belowS most s) := by
  obtain ⟨T, e, lT, at_, _⟩ := put_rows nd k.hv (List.replicate k.hv []) (Nat.le_refl _) List.length_replicate (fun o _ => by
    rw [List.getD_eq_getElem?_getD, List.getElem?_replicate]
    split <;> rfl)
  rw [e]
  show barsT k long most T = _
  unfold barsT ssOf
  by_cases c : long = 1
  · rw [if_pos c, if_pos c]
  · rw [if_neg c, if_neg c, if_pos]
    · have hv1 : 1 ≤ k.hv := by omega
      have e0 := at_ 0 (by omega) (by omega)
      rw [Nat.sub_zero] at e0
      cases T with
      | nil =>
        rw [List.length_nil] at lT
        omega
      | cons q T =>
        have e0 : q = lvl k k.hv := e0
        rw [e0, List.take_succ_cons, List.take_zero, List.flatMap_cons, List.flatMap_nil, List.append_nil]
    · refine List.all_eq_true.mpr fun i hi => ?_
      rw [List.mem_range, lT] at hi
      have e1 : T.getD i [] = lvl k (k.hv - 1 - i + 1) := by
        rw [at_ i hi (by omega), show k.hv - i = k.hv - 1 - i + 1 by omega]
      have e2 : T.getD (i + 1) [] = lvl k (k.hv - 1 - i) := by
        by_cases d : i + 1 < k.hv
        · rw [at_ (i + 1) d (by omega), show k.hv - (i + 1) = k.hv - 1 - i by omega]
        · rw [List.getD_eq_getElem?_getD, List.getElem?_eq_none (by omega), show k.hv - 1 - i = 0 by omega]
          rfl
      rw [e1, e2]
      have := hasAll_own (k := k) (k.hv - 1 - i)
      rw [show k.hv - 1 - (k.hv - 1 - i) = i by omega] at this
      exact this
/-! ### what the law asks of the shares -/
theorem Fr.self {q s : Int × Int} (h : Fr q s) : Fr s s := ⟨h.pos, by
  have e := shr_same (n := s.1) (d := s.2) (n' := q.1) (d' := q.2) (by have := h.pos; omega) (by have := h.1; omega) h.crs
  rw [e]
  exact h.2⟩
theorem fMinus_fr {x y : Int × Int} (px : 0 < x.2) (py : 0 < y.2) : Fr (x.1 * y.2 - y.1 * x.2, x.2 * y.2) (fMinus x y) := ⟨Int.mul_pos px py, rfl⟩
theorem due_shares {top : Option (Int × Int)} {ss : List Sh} (h : TopR top ss) (hs : ∀ s ∈ ss, ∃ v, Fr v s) {yq y : Int × Int} (fy : Fr yq y) (y0 : 0 ≤ yq.1) : ∀ c ∈ lShares top y, (!(ss.any fun s => belowS c.1 s)) = c.2 := by
  intro c hc
  rcases h with ⟨e, et⟩ | ⟨e, m, et, f⟩
  · rw [et] at hc
    rw [e]
    rcases List.mem_cons.mp hc with rfl | hc
    · rfl
    · rw [List.mem_singleton.mp hc]
      rfl
  · rw [et] at hc
    have eg : great ss = shr m.1 m.2 := f.2
    have ps : ∀ s ∈ ss, 0 < s.2 := fun s hs' => by
      obtain ⟨v, f⟩ := hs s hs'
      exact f.pos
    obtain ⟨g, hg, gm, ga⟩ := lMax_some e ps
    rw [lMax_great e] at hg
    have hg := Option.some.inj hg
    subst hg
    have ga : ∀ v ∈ ss, belowS (great ss) v = false := ga
    have sf := f.self
    have no : ∀ {x : Sh}, (∀ s ∈ ss, belowS x s = false) → (!(ss.any fun s => belowS x s)) = true := fun h => by
      rw [Bool.not_eq_true']
      exact List.any_eq_false.mpr fun s hs => by rw [h s hs]; exact Bool.false_ne_true
    have hc : c ∈ [(shr m.1 m.2, true), (fPlus (shr m.1 m.2) y, true), (fMinus (shr m.1 m.2) (fPlus y (shr 1 9)), false)] := hc
    rw [← eg] at hc
    rcases List.mem_cons.mp hc with rfl | hc
    · exact no ga
    · rcases List.mem_cons.mp hc with rfl | hc
      · refine no fun s hs' => ?_
        obtain ⟨v, fv⟩ := hs s hs'
        have fp := sf.plus fy
        rw [← fp.less fv]
        have p1 := sf.1
        have p2 := fy.1
        refine lLess_tr (m := great ss) fv.1 p1 fp.1 ?_ ?_
        · rw [sf.less fv]
          exact ga s hs'
        · refine decide_eq_false ?_
          show ¬ ((great ss).1 * yq.2 + yq.1 * (great ss).2) * (great ss).2 < (great ss).1 * ((great ss).2 * yq.2)
          have e1 : ((great ss).1 * yq.2 + yq.1 * (great ss).2) * (great ss).2 = (great ss).1 * ((great ss).2 * yq.2) + yq.1 * ((great ss).2 * (great ss).2) := by grind
          have := Int.mul_nonneg y0 (Int.le_of_lt (Int.mul_pos p1 p1))
          omega
      · rw [List.mem_singleton.mp hc]
        show (!(ss.any fun s => belowS (fMinus (great ss) (fPlus y (shr 1 9))) s)) = false
        rw [Bool.not_eq_false']
        refine List.any_eq_true.mpr ⟨great ss, gm, ?_⟩
        have f9 : Fr (1, 9) (shr 1 9) := ⟨by decide, rfl⟩
        have fw := fy.plus f9
        have pw := fw.pos
        have cw := fw.crs
        have w0 : 0 < (fPlus y (shr 1 9)).1 := by
          have e1 : 0 < (lPlus yq (1, 9)).1 := by
            show 0 < yq.1 * 9 + 1 * yq.2
            have := fy.1
            omega
          have e2 := Int.mul_pos e1 pw
          rw [← cw] at e2
          exact Int.pos_of_mul_pos_left e2 fw.1
        generalize fPlus y (shr 1 9) = w at pw w0
        have p1 := sf.1
        rw [← (fMinus_fr p1 pw).less sf]
        refine decide_eq_true ?_
        show ((great ss).1 * w.2 - w.1 * (great ss).2) * (great ss).2 < (great ss).1 * ((great ss).2 * w.2)
        have e1 : ((great ss).1 * w.2 - w.1 * (great ss).2) * (great ss).2 = (great ss).1 * ((great ss).2 * w.2) - w.1 * ((great ss).2 * (great ss).2) := by grind
        have := Int.mul_pos w0 (Int.mul_pos p1 p1)
        omega
theorem mem_rows {k : Ak} {r : Pr × Nat × Sh} : ∀ {i : Nat}, i ≤ k.hv → (r ∈ rowsL k i ↔ k.hv - i ≤ r.2.1 ∧ r.2.1 < k.hv ∧ (r.1, r.2.2) ∈ lvl k (k.hv - r.2.1))
  | 0, _ => ⟨fun h => (List.not_mem_nil h).elim, fun h => by omega⟩
  | i + 1, hi => by
    show r ∈ (lvl k (i + 1)).map (fun p => (p.1, k.hv - 1 - i, p.2)) ++ rowsL k i ↔ _
    rw [List.mem_append, mem_rows (i := i) (by omega), List.mem_map]
    constructor
    · rintro (⟨p, hp, rfl⟩ | ⟨h1, h2, h3⟩)
      · refine ⟨by show k.hv - (i + 1) ≤ k.hv - 1 - i; omega, by show k.hv - 1 - i < k.hv; omega, ?_⟩
        show p ∈ lvl k (k.hv - (k.hv - 1 - i))
        rw [show k.hv - (k.hv - 1 - i) = i + 1 by omega]
        exact hp
      · exact ⟨by omega, h2, h3⟩
    · rintro ⟨h1, h2, h3⟩
      by_cases c : r.2.1 = k.hv - 1 - i
      · refine .inl ⟨(r.1, r.2.2), ?_, ?_⟩
        · rw [c, show k.hv - (k.hv - 1 - i) = i + 1 by omega] at h3
          exact h3
        · exact Prod.ext rfl (Prod.ext c.symm rfl)
      · exact .inr ⟨by omega, h2, h3⟩
def lawKeys (F : Tb) : List T3 := F.map fun p => (p.1.2.2, p.1.1, p.1.2.1)
def rowKeys (k : Ak) (i : Nat) : List T3 := (rowsL k i).map fun r => ((r.2.1 : Int), r.1.1, r.1.2)
theorem lvl_rise {W : Int → Int × Int} {k : Ak} {u : Rl} {rs : List Rw} {long : Nat} (h : LkW W k u rs long) (i : Nat) : (lvl k i).Pairwise fun p q => p.1.1 < q.1.1 ∨ (p.1.1 = q.1.1 ∧ p.1.2 < q.1.2) := by
  have s1 : k.fnd.Pairwise fun p q => ¬ (q.1 < p.1 ∨ (q.1 = p.1 ∧ q.2 < p.2)) := by
    rw [h.fnd]
    exact (srtP_sorted _).imp fun h => SrtO.lexB_no.mp h
  have s2 := (s1.and (fnd_nd h)).sublist (lvl_sub k i)
  refine (List.pairwise_map.mp s2).imp fun {a b} h => ?_
  obtain ⟨h1, h2⟩ := h
  have h1 : ¬ (b.1.1 < a.1.1 ∨ (b.1.1 = a.1.1 ∧ b.1.2 < a.1.2)) := h1
  by_cases e : a.1.1 = b.1.1
  · by_cases e2 : a.1.2 = b.1.2
    · exact absurd (Prod.ext e e2) h2
    · omega
  · omega
theorem keys_rise {W : Int → Int × Int} {k : Ak} {u : Rl} {rs : List Rw} {long : Nat} (h : LkW W k u rs long) : ∀ i, i ≤ k.hv → (rowKeys k i).Pairwise lt3
  | 0, _ => .nil
  | i + 1, hi => by
    show ((lvl k (i + 1)).map (fun p => (p.1, k.hv - 1 - i, p.2)) ++ rowsL k i |>.map fun r => ((r.2.1 : Int), r.1.1, r.1.2)).Pairwise lt3
    rw [List.map_append, List.map_map]
    refine List.pairwise_append.mpr ⟨List.pairwise_map.mpr ((lvl_rise h (i + 1)).imp fun h => .inr ⟨rfl, h⟩), keys_rise h i (by omega), fun a ha b hb => ?_⟩
    obtain ⟨p, _, rfl⟩ := List.mem_map.mp ha
    obtain ⟨r, hr, rfl⟩ := List.mem_map.mp hb
    have := ((mem_rows (by omega)).mp hr).1
    refine .inl ?_
    show ((k.hv - 1 - i : Nat) : Int) < (r.2.1 : Int)
    omega
theorem lt3_irr (a : T3) : ¬ lt3 a a := by
  unfold lt3
  omega
theorem keys_eq {W : Int → Int × Int} {k : Ak} {u : Rl} {rs : List Rw} {long : Nat} (h : LkW W k u rs long) {ys : List T3} (hp : ys.Perm (lawKeys (outsM W u rs (lPairs u rs) long k.hv))) (hs : ys.Pairwise fun a b => ¬ lt3 b a) : ys = rowKeys k k.hv := by
  have hR := outs_rel h k.hv (Nat.le_refl _)
  generalize outsM W u rs (lPairs u rs) long k.hv = F at hR hp
  have rise := keys_rise h k.hv (Nat.le_refl _)
  have nd1 : (rowKeys k k.hv).Nodup := rise.imp (S := fun a b => a ≠ b) fun {a b} (h : lt3 a b) e => by
    rw [e] at h
    exact lt3_irr b h
  have nd2 : (lawKeys F).Nodup := by
    have := hR.kp.1
    unfold lawKeys
    refine List.pairwise_map.mpr ((List.pairwise_map.mp this).imp fun {a b} h e => h ?_)
    refine Prod.ext (congrArg (fun t : T3 => t.2.1) e) (Prod.ext (congrArg (fun t : T3 => t.2.2) e) (congrArg (fun t : T3 => t.1) e))
  have pm : (lawKeys F).Perm (rowKeys k k.hv) := (List.perm_ext_iff_of_nodup nd2 nd1).mpr fun a => by
    constructor
    · intro m
      obtain ⟨⟨⟨x, y, o⟩, v⟩, hp, rfl⟩ := List.mem_map.mp m
      obtain ⟨o', h1, _, h3⟩ := hR.kp.2 _ (List.mem_map_of_mem (f := Prod.fst) hp)
      have h1 : o = (o' : Int) := h1
      subst h1
      rcases hR.at_ (x, y) o' (by omega) h3 with ⟨e1, _⟩ | ⟨q, s, e1, e2, _⟩
      · have e1 : findM F (x, y, (o' : Int)) = none := e1
        rw [hR.kp.get hp] at e1
        cases e1
      · exact List.mem_map.mpr ⟨((x, y), o', s), (mem_rows (Nat.le_refl _)).mpr ⟨by show k.hv - k.hv ≤ o'; omega, h3, findQ_some e2⟩, rfl⟩
    · intro m
      obtain ⟨r, hr, rfl⟩ := List.mem_map.mp m
      obtain ⟨_, h2, h3⟩ := (mem_rows (Nat.le_refl _)).mp hr
      rcases hR.at_ r.1 r.2.1 (by omega) h2 with ⟨_, e2⟩ | ⟨q, s, e1, _, _⟩
      · exact absurd (List.mem_map_of_mem (f := Prod.fst) h3) (findQ_none e2)
      · exact List.mem_map.mpr ⟨_, findM_some e1, rfl⟩
  exact List.Perm.eq_of_pairwise (le := fun a b => ¬ lt3 b a) (fun a b _ _ h1 h2 => by
    obtain ⟨a1, a2, a3⟩ := a
    obtain ⟨b1, b2, b3⟩ := b
    have h1 : ¬ (b1 < a1 ∨ (b1 = a1 ∧ (b2 < a2 ∨ (b2 = a2 ∧ b3 < a3)))) := h1
    have h2 : ¬ (a1 < b1 ∨ (a1 = b1 ∧ (a2 < b2 ∨ (a2 = b2 ∧ a3 < b3)))) := h2
    have e1 : a1 = b1 := by omega
    have e2 : a2 = b2 := by omega
    have e3 : a3 = b3 := by omega
    rw [e1, e2, e3]) hs (rise.imp fun {a b} h g => by
    unfold lt3 at h g
    omega) (hp.trans pm)
theorem row_due {W : Int → Int × Int} {k : Ak} {u : Rl} {rs : List Rw} {long : Nat} (h : LkW W k u rs long) {r : Pr × Nat × Sh} (hr : r ∈ rowsL k k.hv) : ∃ q, findM (outsM W u rs (lPairs u rs) long k.hv) (r.1.1, r.1.2, (r.2.1 : Int)) = some q ∧ Fr q r.2.2 := by
  have hR := outs_rel h k.hv (Nat.le_refl _)
  obtain ⟨_, h2, h3⟩ := (mem_rows (Nat.le_refl _)).mp hr
  rcases hR.at_ r.1 r.2.1 (by omega) h2 with ⟨_, e2⟩ | ⟨q, s, e1, e2, f⟩
  · exact absurd (List.mem_map_of_mem (f := Prod.fst) h3) (findQ_none e2)
  · rw [findQ_of (lvl_nd h _) h3] at e2
    cases e2
    exact ⟨q, e1, f⟩
/-! ### sizes -/
def SzM (hv : Nat) (F : Tb) : Prop := ∀ p ∈ F, Sz2 (110 + 222 * (hv - p.1.2.2.toNat)) p.2
theorem Sz2.mono {k m : Nat} {x : Int × Int} (h : Sz2 k x) (e : k ≤ m) : Sz2 m x := ⟨h.1.mono e, h.2.mono e⟩
theorem Sz2.plus {k m : Nat} {x y : Int × Int} (h : Sz2 k x) (g : Sz2 m y) : Sz2 (k + m + 1) (lPlus x y) := by
  have a := h.1.mul g.2
  have b := (g.1.mul h.2).mono (by omega : m + k ≤ k + m)
  exact ⟨a.add b, (h.2.mul g.2).mono (by omega)⟩
theorem SzM.get {hv : Nat} {F : Tb} (h : SzM hv F) {t : T3} {x : Int × Int} (e : findM F t = some x) : Sz2 (110 + 222 * (hv - t.2.2.toNat)) x := h _ (findM_some e)
theorem SzM.put {hv : Nat} {F : Tb} (h : SzM hv F) {t : T3} {x : Int × Int} (hx : Sz2 (110 + 222 * (hv - t.2.2.toNat)) x) : SzM hv (putM F t x) := by
  intro p hp
  unfold putM at hp
  split at hp
  · obtain ⟨q, hq, rfl⟩ := List.mem_map.mp hp
    by_cases c : q.1 = t
    · rw [if_pos c]
      exact hx
    · rw [if_neg c]
      exact h q hq
  · rcases List.mem_append.mp hp with hp | hp
    · exact h p hp
    · rw [List.mem_singleton.mp hp]
      exact hx
theorem putM_len (F : Tb) (t : T3) (x : Int × Int) : (putM F t x).length ≤ F.length + 1 := by
  unfold putM
  split
  · rw [List.length_map]
    omega
  · rw [List.length_append]
    exact Nat.le_refl _
end KB
namespace KB
open PySem PySem.Spec PyProof.Rows L2 KA

section
variable {P : Program} {w : World} {K : PySem.W.Frag} {mg : Str → Option Value} {base : Heap}
/-! ### the law's rows -/
def spLRows : Sp := fun vs H Q _ => ∃ (d f : Addr) (m n : Nat) (u : Rl), vs = [.ref d, .ref f, .int (m : Int)] ∧ H f = some (.tup (fourV u)) ∧ f ≠ d ∧ Good4 u ∧ m ≤ 12 ∧ Dr PT d n H ∧ n ≤ 100000 ∧
  ∀ (H' : Hp) (l : Addr) (xs : List V) (rs : List Rw), But d H H' → Dr PT d (n + 1 + 8 * m) H' → l ≠ d → H l = none → H' l = some (.lst xs) → FF (RwF H') xs rs → rs.length = m → (rs.map Rw.num).Nodup → (∀ r ∈ rs, GoodRw r ∧ [r.sh, r.fo] ∈ ks3) → Q (.ref l) H'
theorem ok_rows (T : Tx K mg) : FnOk P w K mg base CX0 3 T.A_rows T.fd_rows ["_law_well_here", "_law_four_here", "_law_many"] (spLRows) := by
  refine T.F_rows.ok sc_rows (fun vs H Q E h => ?_) (fun cdv A outer s H vs Q E hr h => ?_)
  · obtain ⟨d, f, m, n, u, rfl, hf, nfd, hU, hm, dr, hn, q⟩ := h
    rfl
  obtain ⟨d, f, m, n, u, rfl, hf, nfd, hU, hm, dr, hn, q⟩ := h
  refine ⟨_, (pss_cons (ps_set (i := 3) sc_rows.nd rfl (Or.inl rfl) (pe_lst (pa_cons (pe_tup (pa_cons pe_str (pa_cons pe_str (pa_cons pe_bl pa_nil)))) (pa_cons (pe_tup (pa_cons pe_str (pa_cons pe_str (pa_cons pe_bl pa_nil)))) (pa_cons (pe_tup (pa_cons pe_str (pa_cons pe_str (pa_cons pe_bl pa_nil)))) pa_nil)))))
      (pss_cons (ps_set (i := 4) sc_rows.nd rfl (Or.inl rfl) (pe_op op_add pe_int (pe_call (ok_draw T) (hr.mono (by decide)) (by rfl) T.g_draw T.F_draw.kp T.b_draw .nil pass0 (pa_cons (pv 0) (pa_cons pe_int pa_nil)))))
      (pss_cons (ps_set (i := 5) sc_rows.nd rfl (Or.inl rfl) (pe_lst pa_nil))
      (pss_cons (ps_for PassesOwn.never rfl (pi_range1 (by rfl) T.z_range (pa_cons (pv 2) pa_nil)) (pg_name (i := 6) sc_rows.nd rfl (Or.inl rfl))
        (pss_cons (ps_set (i := 7) sc_rows.nd rfl (Or.inl rfl) (pe_call (ok_one T) (hr.mono (by decide)) (by rfl) T.g_one T.F_one.kp T.b_one .nil pass0 (pa_cons (pv 0) (pa_cons (pe_lst (pa_cons pe_int (pa_cons pe_int (pa_cons (pe_ix ix_tup (pv 1) pe_int (fun _ _ => rfl)) (pa_cons (pe_ix ix_tup (pv 1) pe_int (fun _ _ => rfl)) (pa_cons (pe_ix ix_tup (pv 1) pe_int (fun _ _ => rfl)) (pa_cons (pe_call (ok_draw T) (hr.mono (by decide)) (by rfl) T.g_draw T.F_draw.kp T.b_draw .nil pass0 (pa_cons (pv 0) (pa_cons (pe_op op_add (pe_ix ix_tup (pv 1) pe_int (fun _ _ => rfl)) pe_int) pa_nil))) pa_nil))))))) pa_nil))))
      (pss_cons (ps_set (i := 8) sc_rows.nd rfl (Or.inl rfl) (pe_op op_add (pe_op op_add (pv 4) (pe_op op_mul (pv 7) (pe_call (ok_draw T) (hr.mono (by decide)) (by rfl) T.g_draw T.F_draw.kp T.b_draw .nil pass0 (pa_cons (pv 0) (pa_cons pe_int pa_nil))))) (pe_call (ok_one T) (hr.mono (by decide)) (by rfl) T.g_one T.F_one.kp T.b_one .nil pass0 (pa_cons (pv 0) (pa_cons (pe_lst (pa_cons pe_int (pa_cons pe_int (pa_cons (pe_ix ix_tup (pv 1) pe_int (fun _ _ => rfl)) (pa_cons pe_int pa_nil))))) pa_nil)))))
      (pss_cons (ps_set (i := 9) sc_rows.nd rfl (Or.inl rfl) (pe_ix ix_list (pv 3) (pe_call (ok_one T) (hr.mono (by decide)) (by rfl) T.g_one T.F_one.kp T.b_one .nil pass0 (pa_cons (pv 0) (pa_cons (pe_lst (pa_cons pe_int (pa_cons pe_int (pa_cons pe_int (pa_cons pe_int (pa_cons pe_int (pa_cons pe_int pa_nil))))))) pa_nil))) (fun _ _ => rfl)))
      (pss_cons (ps_set (i := 10) sc_rows.nd rfl (Or.inl rfl) (pe_ix ix_list (pe_lst (pa_cons (pe_op op_add (pv 6) pe_int) (pa_cons (pe_op op_sub (pe_op op_pow pe_int pe_int) (pe_op op_mul pe_int (pv 6))) pa_nil))) (pe_call (ok_draw T) (hr.mono (by decide)) (by rfl) T.g_draw T.F_draw.kp T.b_draw .nil pass0 (pa_cons (pv 0) (pa_cons pe_int pa_nil))) (fun _ _ => rfl)))
      (pss_one (ps_expr (pe_bm PySem.F.plainAttrs_list PySem.F.slot_list_append PySem.F.type_list_append mt_append (pv 5) (pa_cons (pe_op op_catA (pe_tup (pa_cons (pv 10) (pa_cons (pv 8) (pa_cons (pe_op op_add pe_int (pe_call (ok_draw T) (hr.mono (by decide)) (by rfl) T.g_draw T.F_draw.kp T.b_draw .nil pass0 (pa_cons (pv 0) (pa_cons (pe_ix ix_list (pe_lst (pa_cons pe_int (pa_cons (pe_op op_pow pe_int pe_int) pa_nil))) (pe_call (ok_draw T) (hr.mono (by decide)) (by rfl) T.g_draw T.F_draw.kp T.b_draw .nil pass0 (pa_cons (pv 0) (pa_cons pe_int pa_nil))) (fun _ _ => rfl)) pa_nil)))) pa_nil)))) (pv 9)) pa_nil)))))))))
      (pss_one (ps_ret (pv 5))))))), ?_⟩
  refine ⟨(by show 3 ≤ sizeLine; decide), fun t1 ht1 => ⟨(by show 3 ≤ sizeLine; decide), fun t2 ht2 => ⟨(by show 3 ≤ sizeLine; decide), fun t3 ht3 => ⟨(by show 3 ≤ sizeLine; decide), fun ll hll => ?_⟩⟩⟩⟩
  have s4 : Same H (upd (upd (upd (upd H t1 (.tup [.str "rose", .str "round", .bl false])) t2 (.tup [.str "rose", .str "oval", .bl false])) t3 (.tup [.str "grey", .str "round", .bl true])) ll (.lst [.ref t1, .ref t2, .ref t3])) := (same_upd ht1).trans ((same_upd ht2).trans ((same_upd ht3).trans (same_upd hll)))
  have e1 := ((same_upd ht2 (o := .tup [.str "rose", .str "oval", .bl false])).trans ((same_upd ht3 (o := .tup [.str "grey", .str "round", .bl true])).trans (same_upd hll (o := .lst [.ref t1, .ref t2, .ref t3])))) _ _ upd_same
  have e2 := ((same_upd ht3 (o := .tup [.str "grey", .str "round", .bl true])).trans (same_upd hll (o := .lst [.ref t1, .ref t2, .ref t3]))) _ _ upd_same
  have e3 := (same_upd hll (o := .lst [.ref t1, .ref t2, .ref t3])) _ _ (upd_same (H := upd (upd H t1 (.tup [.str "rose", .str "round", .bl false])) t2 (.tup [.str "rose", .str "oval", .bl false])) (a := t3) (o := .tup [.str "grey", .str "round", .bl true]))
  have el : (upd (upd (upd (upd H t1 (.tup [.str "rose", .str "round", .bl false])) t2 (.tup [.str "rose", .str "oval", .bl false])) t3 (.tup [.str "grey", .str "round", .bl true])) ll (.lst [.ref t1, .ref t2, .ref t3])) ll = some (.lst [.ref t1, .ref t2, .ref t3]) := upd_same
  have nll : ll ≠ d := (dr.same ((same_upd ht1).trans ((same_upd ht2).trans (same_upd ht3)))).ne hll
  generalize upd (upd (upd (upd H t1 (.tup [.str "rose", .str "round", .bl false])) t2 (.tup [.str "rose", .str "oval", .bl false])) t3 (.tup [.str "grey", .str "round", .bl true])) ll (.lst [.ref t1, .ref t2, .ref t3]) = H4 at *
  have dr4 := dr.same s4
  refine ⟨_, rfl, d, 50, n, rfl, by decide, log_tiny (by decide) (by decide), dr4, by omega, fun H5 r1 g0 g1 b5 dr5 => ⟨_, _, rfl, rfl, ?_⟩⟩
  refine ⟨(by show 0 ≤ sizeLine; decide), fun D hD => ?_⟩
  have nD := dr5.ne hD
  have nlD : ll ≠ D := fun z => by
    have := b5 _ _ nll el
    rw [z, hD] at this
    cases this
  have ntd : ∀ {t : Addr} {xs : List V}, H4 t = some (.tup xs) → t ≠ d := fun {t xs} e z => by
    obtain ⟨_, _, _, e2, _⟩ := dr4
    rw [z, e2] at e
    cases e
  have ntD : ∀ {t : Addr} {xs : List V}, H4 t = some (.tup xs) → t ≠ D := fun {t xs} e z => by
    have := b5 _ _ (ntd e) e
    rw [z, hD] at this
    cases this
  have hf4 := s4 _ _ hf
  have e64 : (2 : Int) ^ 64 = 18446744073709551616 := by decide
  have p9 : (10 : Int) ^ Int.toNat 9 = 1000000000 := by decide
  have p6 : (10 : Int) ^ Int.toNat 6 = 1000000 := by decide
  have hlo := hU.1
  have hlo2 := hU.2.1
  have hhi0 := hU.2.2.1
  have hhi := hU.2.2.2.1
  have hfa0 := hU.2.2.2.2.1
  have hfa := hU.2.2.2.2.2
  refine ⟨_, rfl, (m : Int), rfl, by omega, by omega, for_range (lo := 0) (n := ((m : Int)).toNat) (fun i σ H' => ∃ (w6 w7 w8 w9 w10 : Option V) (acc : List V) (rs : List Rw), σ = [some (.ref d), some (.ref f), some (.int (m : Int)), some (.ref ll), some (.int (100 + r1)), some (.ref D), w6, w7, w8, w9, w10] ∧ Dr PT d (n + 1 + 8 * i) H' ∧ (∀ b o, b ≠ d → b ≠ D → H4 b = some o → H' b = some o) ∧ H' D = some (.lst acc) ∧ FF (RwF H') acc rs ∧ rs.length = i ∧ (rs.map Rw.num).Nodup ∧ (∀ r ∈ rs, GoodRw r ∧ [r.sh, r.fo] ∈ ks3) ∧ ∀ r ∈ rs, r.num ≤ (i : Int) ∨ 1000000000 - 3 * (i : Int) < r.num) ⟨_, _, _, _, _, [], [], rfl, dr5.upd nD, fun b o n1 n2 e => by rw [upd_ne n2]; exact b5 _ _ n1 e, upd_same, .nil, rfl, List.nodup_nil, (fun _ h => nomatch h), (fun _ h => nomatch h)⟩ ?_ ?_⟩
  · rintro i σ H6 hi ⟨w6, w7, w8, w9, w10, acc, rs, rfl, dr6, kp6, eD6, f6, l6, nd6, g6, nn6⟩
    have hf6 := kp6 _ _ (ntd hf4) (ntD hf4) hf4
    have hi12 : i < 12 := by omega
    -- the step
    refine ⟨_, rfl, _, rfl, f, _, 0, _, rfl, rfl, SqT.of hf6, rfl, _, rfl, f, _, 0, _, rfl, rfl, SqT.of hf6, rfl, _, rfl, f, _, 1, _, rfl, rfl, SqT.of hf6, rfl, ?_⟩
    refine ⟨_, rfl, _, rfl, f, _, 1, _, rfl, rfl, SqT.of hf6, rfl, _, _, rfl, rfl, d, u.hi + 2, n + 1 + 8 * i, rfl, by omega, log_tiny (by omega) (by omega), dr6, by omega, fun H7 r2 g2 g3 b7 dr7 => ⟨(by show 6 ≤ sizeLine; decide), fun m1 hm1 => ?_⟩⟩
    have nm1 := dr7.ne hm1
    refine ⟨d, m1, n + 1 + 8 * i + 1, [.int 0, .int 0, .int u.lo, .int u.lo, .int u.hi, .int r2], rfl, nm1, SqL.of upd_same, List.cons_ne_nil _ _, by show 6 ≤ 1000; decide, dr7.upd nm1, by omega, fun H8 v hv b8 dr8 => ?_⟩
    obtain ⟨st, hst, rfl⟩ := mem_ints (l := [0, 0, u.lo, u.lo, u.hi, r2]) hv
    have qst : 0 ≤ st ∧ st ≤ 72 := by
      simp only [List.mem_cons, List.not_mem_nil, or_false] at hst
      omega
    have B8 : But d H6 H8 := (b7.trans (But.new hm1)).trans b8
    -- across
    refine ⟨_, rfl, _, rfl, _, rfl, d, 4, n + 1 + 8 * i + 2, rfl, by decide, log_tiny (by decide) (by decide), dr8, by omega, fun H9 r3 g4 g5 b9 dr9 => ?_⟩
    refine ⟨_, _, rfl, rfl, .inl ⟨by rw [e64]; omega, by rw [e64]; omega⟩, _, _, rfl, rfl, ?_⟩
    have B9 := B8.trans b9
    have hf9 := B9 _ _ (ntd hf4) hf6
    refine ⟨_, rfl, _, rfl, f, _, 2, _, rfl, rfl, SqT.of hf9, rfl, (by show 4 ≤ sizeLine; decide), fun m2 hm2 => ?_⟩
    have nm2 := dr9.ne hm2
    refine ⟨d, m2, n + 1 + 8 * i + 3, [.int 0, .int 0, .int u.far, .int 1], rfl, nm2, SqL.of upd_same, List.cons_ne_nil _ _, by show 4 ≤ 1000; decide, dr9.upd nm2, by omega, fun H10 v hv b10 dr10 => ?_⟩
    obtain ⟨fa, hfa', rfl⟩ := mem_ints (l := [0, 0, u.far, 1]) hv
    have qfa : 0 ≤ fa ∧ fa ≤ 31 := by
      simp only [List.mem_cons, List.not_mem_nil, or_false] at hfa'
      omega
    refine ⟨_, _, rfl, rfl, ?_⟩
    have B10 := (B9.trans (But.new hm2)).trans b10
    have qm : 0 ≤ st * r3 ∧ st * r3 ≤ 72 * 3 := ⟨Int.mul_nonneg qst.1 g4, Int.le_trans (Int.mul_le_mul_of_nonneg_right qst.2 g4) (Int.mul_le_mul_of_nonneg_left (by omega) (by omega))⟩
    have qac : 1 ≤ 100 + r1 + st * r3 + fa ∧ 100 + r1 + st * r3 + fa ≤ 1000 := by omega
    -- the look
    refine ⟨_, rfl, _, rfl, (by show 6 ≤ sizeLine; decide), fun m3 hm3 => ?_⟩
    have nm3 := dr10.ne hm3
    refine ⟨d, m3, n + 1 + 8 * i + 4, [.int 0, .int 0, .int 0, .int 0, .int 1, .int 2], rfl, nm3, SqL.of upd_same, List.cons_ne_nil _ _, by show 6 ≤ 1000; decide, dr10.upd nm3, by omega, fun H11 v hv b11 dr11 => ?_⟩
    obtain ⟨lk, hlk, rfl⟩ := mem_ints (l := [0, 0, 0, 0, 1, 2]) hv
    have qlk : lk = 0 ∨ lk = 1 ∨ lk = 2 := by
      simp only [List.mem_cons, List.not_mem_nil, or_false] at hlk
      omega
    have B11 := (B10.trans (But.new hm3)).trans b11
    have ell := B11 _ _ nll (kp6 _ _ nll nlD el)
    obtain ⟨tl, sh, fo, db, hat, htl, hks, hsn, hfn⟩ : ∃ (tl : Addr) (sh fo : Str) (db : Bool), atI [V.ref t1, V.ref t2, V.ref t3] lk = some (.ref tl) ∧ H4 tl = some (.tup [.str sh, .str fo, .bl db]) ∧ [sh, fo] ∈ ks3 ∧ nm (.str sh) = true ∧ nm (.str fo) = true := by
      rcases qlk with rfl | rfl | rfl
      · exact ⟨t1, "rose", "round", false, rfl, e1, by decide +kernel, by decide +kernel, by decide +kernel⟩
      · exact ⟨t2, "rose", "oval", false, rfl, e2, by decide +kernel, by decide +kernel, by decide +kernel⟩
      · exact ⟨t3, "grey", "round", true, rfl, e3, by decide +kernel, by decide +kernel, by decide +kernel⟩
    refine ⟨ll, _, _, _, rfl, rfl, SqL.of ell, hat, ?_⟩
    -- the number
    refine ⟨_, rfl, _, _, rfl, rfl, _, _, rfl, rfl, ⟨by decide, by decide, by decide⟩, _, rfl, _, _, rfl, rfl, .inl ⟨by rw [e64]; omega, by rw [e64]; omega⟩, _, _, rfl, rfl, (by show 2 ≤ sizeLine; decide), fun m4 hm4 => ?_⟩
    have nm4 := dr11.ne hm4
    refine ⟨_, rfl, d, 2, n + 1 + 8 * i + 5, rfl, by decide, log_tiny (by decide) (by decide), dr11.upd nm4, by omega, fun H12 r5 g16 g17 b12 dr12 => ?_⟩
    have em4 := b12 _ _ nm4 upd_same
    obtain ⟨num, hatn, hnum⟩ : ∃ num : Int, atI [V.int (0 + (i : Int) + 1), V.int (10 ^ Int.toNat 9 - 3 * (0 + (i : Int)))] r5 = some (.int num) ∧ (num = (i : Int) + 1 ∨ num = 1000000000 - 3 * (i : Int)) := by
      rcases (by omega : r5 = 0 ∨ r5 = 1) with rfl | rfl
      · exact ⟨_, rfl, .inl (by omega)⟩
      · exact ⟨_, rfl, .inr (by rw [p9]; omega)⟩
    refine ⟨m4, _, _, _, rfl, rfl, SqL.of em4, hatn, ?_⟩
    have B12 := (B11.trans (But.new hm4)).trans b12
    have eD12 := B12 _ _ nD eD6
    refine ⟨_, rfl, .inl ⟨rfl, _, SqL.of eD12⟩, _, rfl, _, rfl, _, rfl, _, _, rfl, rfl, ⟨by decide, by decide, by decide⟩, (by show 2 ≤ sizeLine; decide), fun m5 hm5 => ?_⟩
    have nm5 := dr12.ne hm5
    refine ⟨_, rfl, d, 2, n + 1 + 8 * i + 6, rfl, by decide, log_tiny (by decide) (by decide), dr12.upd nm5, by omega, fun H13 r6 g8 g9 b13 dr13 => ?_⟩
    have em5 := b13 _ _ nm5 upd_same
    obtain ⟨wb, hatw, hwb⟩ : ∃ wb : Int, atI [V.int 9, V.int (10 ^ Int.toNat 6)] r6 = some (.int wb) ∧ (wb = 9 ∨ wb = 1000000) := by
      rcases (by omega : r6 = 0 ∨ r6 = 1) with rfl | rfl
      · exact ⟨_, rfl, .inl rfl⟩
      · exact ⟨_, rfl, .inr p6⟩
    refine ⟨m5, _, _, _, rfl, rfl, SqL.of em5, hatw, d, wb, n + 1 + 8 * i + 7, rfl, by omega, log_tiny (by omega) (by omega), dr13, by omega, fun H14 r7 g10 g11 b14 dr14 => ?_⟩
    have B14 := ((B12.trans (But.new hm5)).trans b13).trans b14
    have htl14 := B14 _ _ (ntd htl) (kp6 _ _ (ntd htl) (ntD htl) htl)
    refine ⟨_, _, rfl, rfl, (by show 3 ≤ sizeLine; decide), fun tA htA => ?_⟩
    have zA := same_upd htA (o := .tup [.int num, .int (100 + r1 + st * r3 + fa), .int (1 + r7)])
    refine ⟨_, rfl, tA, tl, _, _, rfl, rfl, .inl (.inl upd_same), .inl (.inl (zA _ _ htl14)), (by show 6 ≤ sizeLine; decide), (fun z => nomatch z), (fun _ z => nomatch z), fun _ _ tB htB => ?_⟩
    have zB := same_upd htB (o := .tup [.int num, .int (100 + r1 + st * r3 + fa), .int (1 + r7), .str sh, .str fo, .bl db])
    have eD14 := zB _ _ (zA _ _ (b14 _ _ nD (b13 _ _ nD (same_upd hm5 _ _ eD12))))
    have drA := dr14.upd (o := .tup [.int num, .int (100 + r1 + st * r3 + fa), .int (1 + r7)]) (dr14.ne htA)
    have drB := drA.upd (o := .tup [.int num, .int (100 + r1 + st * r3 + fa), .int (1 + r7), .str sh, .str fo, .bl db]) (drA.ne htB)
    have etB : (upd (upd H14 tA (.tup [.int num, .int (100 + r1 + st * r3 + fa), .int (1 + r7)])) tB (.tup [.int num, .int (100 + r1 + st * r3 + fa), .int (1 + r7), .str sh, .str fo, .bl db])) tB = some (.tup [.int num, .int (100 + r1 + st * r3 + fa), .int (1 + r7), .str sh, .str fo, .bl db]) := upd_same
    have BB : But d H6 (upd (upd H14 tA (.tup [.int num, .int (100 + r1 + st * r3 + fa), .int (1 + r7)])) tB (.tup [.int num, .int (100 + r1 + st * r3 + fa), .int (1 + r7), .str sh, .str fo, .bl db])) := (B14.trans (But.of zA)).trans (But.of zB)
    have fin : ∀ HB : Hp, Dr PT d (n + 1 + 8 * i + 7 + 1) HB → HB tB = some (.tup [.int num, .int (100 + r1 + st * r3 + fa), .int (1 + r7), .str sh, .str fo, .bl db]) → But d H6 HB → HB D = some (.lst acc) → ∃ (w6 w7 w8 w9 w10 : Option V) (acc' : List V) (rs' : List Rw), [some (.ref d), some (.ref f), some (.int (m : Int)), some (.ref ll), some (.int (100 + r1)), some (.ref D), some (.int (0 + (i : Int))), some (.int st), some (.int (100 + r1 + st * r3 + fa)), some (.ref tl), some (.int num)] = [some (V.ref d), some (.ref f), some (.int (m : Int)), some (.ref ll), some (.int (100 + r1)), some (.ref D), w6, w7, w8, w9, w10] ∧ Dr PT d (n + 1 + 8 * (i + 1)) (upd HB D (.lst (acc ++ [.ref tB]))) ∧ (∀ b o, b ≠ d → b ≠ D → H4 b = some o → (upd HB D (.lst (acc ++ [.ref tB]))) b = some o) ∧ (upd HB D (.lst (acc ++ [.ref tB]))) D = some (.lst acc') ∧ FF (RwF (upd HB D (.lst (acc ++ [.ref tB])))) acc' rs' ∧ rs'.length = i + 1 ∧ (rs'.map Rw.num).Nodup ∧ (∀ r ∈ rs', GoodRw r ∧ [r.sh, r.fo] ∈ ks3) ∧ ∀ r ∈ rs', r.num ≤ ((i + 1 : Nat) : Int) ∨ 1000000000 - 3 * ((i + 1 : Nat) : Int) < r.num := by
      intro HB drB etB BB eD14'
      have hwe : 1 ≤ 1 + r7 ∧ 1 + r7 ≤ 1000000 := by omega
      refine ⟨_, _, _, _, _, acc ++ [.ref tB], rs ++ [⟨num, 100 + r1 + st * r3 + fa, 1 + r7, sh, fo, db⟩], rfl, ?_, ?_, upd_same, ?_, ?_, ?_, ?_, ?_⟩
      · have dz := drB.upd (o := .lst (acc ++ [.ref tB])) nD
        exact Dr.mono dz (by omega)
      · intro b o n1 n2 e
        rw [upd_ne n2]
        exact BB _ _ n1 (kp6 _ _ n1 n2 e)
      · have nz := NL.at_ eD14' (o := .lst (acc ++ [.ref tB]))
        refine FF.snoc ⟨tB, rfl, ?_⟩ (f6.mono fun v r h => h.nl ((dr_nl dr6 BB).trans nz))
        exact nz _ _ (fun _ z => by cases z) etB
      · rw [List.length_append, l6]
        rfl
      · rw [List.map_append]
        refine List.nodup_append.mpr ⟨nd6, List.pairwise_singleton .., fun a ha b hb e => ?_⟩
        obtain ⟨r, hr, rfl⟩ := List.mem_map.mp ha
        have hb : b = num := List.mem_singleton.mp hb
        have := nn6 r hr
        omega
      · intro r hr
        rcases List.mem_append.mp hr with hr | hr
        · exact g6 r hr
        · rw [List.mem_singleton.mp hr]
          refine ⟨⟨?_, ?_, ?_, hsn, hfn⟩, hks⟩
          · show (decide (1 ≤ num) && decide (num ≤ 1000000000)) = true
            rw [decide_eq_true (by omega), decide_eq_true (by omega)]
            rfl
          · show (decide (1 ≤ 100 + r1 + st * r3 + fa) && decide (100 + r1 + st * r3 + fa ≤ 1000000)) = true
            rw [decide_eq_true (by omega), decide_eq_true (by omega)]
            rfl
          · show (decide (1 ≤ 1 + r7) && decide (1 + r7 ≤ 1000000)) = true
            rw [decide_eq_true (by omega), decide_eq_true (by omega)]
            rfl
      · intro r hr
        rcases List.mem_append.mp hr with hr | hr
        · have := nn6 r hr
          omega
        · rw [List.mem_singleton.mp hr]
          show num ≤ ((i + 1 : Nat) : Int) ∨ 1000000000 - 3 * ((i + 1 : Nat) : Int) < num
          omega
    exact ⟨D, acc, _, rfl, rfl, eD14, Nat.lt_of_le_of_lt (show acc.length ≤ 12 by rw [f6.len, l6]; omega) (by decide), fin _ drB etB BB eD14⟩
  · rintro σ H6 ⟨w6, w7, w8, w9, w10, acc, rs, rfl, dr6, kp6, eD6, f6, l6, nd6, g6, nn6⟩
    rw [Int.toNat_natCast] at l6 dr6
    have B : But d H H6 := fun b o n e => kp6 b o n (fun z => by
      have := b5 _ _ n (s4 _ _ e)
      rw [z, hD] at this
      cases this) (s4 _ _ e)
    exact ⟨_, rfl, q H6 D acc rs B dr6 nD (((But.of s4).trans b5).free nD hD) eD6 f6 l6 nd6 g6⟩
end
end KB
namespace KB
open PySem PySem.Spec PyProof.Rows L2 KA

section
variable {P : Program} {w : World} {K : PySem.W.Frag} {mg : Str → Option Value} {base : Heap}
/-! ### the law's table, laid in the heap -/
def key3 (t : T3) : List Key := [Sum.inl t.1, Sum.inl t.2.1, Sum.inl t.2.2]
theorem key3_inj {a b : T3} (h : key3 a = key3 b) : a = b := by
  unfold key3 at h
  simp only [List.cons.injEq, Sum.inl.injEq, and_true] at h
  exact Prod.ext h.1 (Prod.ext h.2.1 h.2.2)
def TwoV (H : Hp) (a : Addr) (x : Int × Int) : Prop := H a = some (.tup [.int x.1, .int x.2])
def DctM (H : Hp) (kvs : List (List Key × V)) (F : Tb) : Prop := kvs.map Prod.fst = F.map (fun p => key3 p.1) ∧ ∀ p ∈ F, ∃ a, valV kvs (key3 p.1) = some (.ref a) ∧ TwoV H a p.2
def WAt (H : Hp) (kw : List (Key × V)) (W : Int → Int × Int) (rs : List Rw) : Prop := ∀ r ∈ rs, ∃ a, valV kw (Sum.inl r.num : Key) = some (.ref a) ∧ TwoV H a (W r.num)
theorem DctM.has {H : Hp} {kvs : List (List Key × V)} {F : Tb} (h : DctM H kvs F) (t : T3) : (valV kvs (key3 t)).isSome = (findM F t).isSome := by
  rw [← valV_any, Bool.eq_iff_iff, List.any_eq_true]
  constructor
  · rintro ⟨p, hp, e⟩
    have m : key3 t ∈ F.map fun p => key3 p.1 := by
      rw [← h.1, ← of_decide_eq_true e]
      exact List.mem_map_of_mem hp
    obtain ⟨y, hy, ey⟩ := List.mem_map.mp m
    have ey := key3_inj ey
    cases e2 : findM F t with
    | some x => rfl
    | none => exact absurd (by rw [← ey]; exact List.mem_map_of_mem hy) (findM_none.mp e2)
  · intro e
    cases e2 : findM F t with
    | none => rw [e2] at e; cases e
    | some x =>
      have m : key3 t ∈ kvs.map Prod.fst := by
        rw [h.1]
        exact List.mem_map.mpr ⟨_, findM_some e2, rfl⟩
      obtain ⟨q, hq, eq⟩ := List.mem_map.mp m
      exact ⟨q, hq, decide_eq_true eq⟩
theorem DctM.get {H : Hp} {kvs : List (List Key × V)} {F : Tb} (h : DctM H kvs F) (t : T3) : (findM F t = none ∧ valV kvs (key3 t) = none) ∨ ∃ x a, findM F t = some x ∧ valV kvs (key3 t) = some (.ref a) ∧ TwoV H a x := by
  have hs := h.has t
  cases e : findM F t with
  | none =>
    rw [e] at hs
    refine .inl ⟨rfl, ?_⟩
    cases e2 : valV kvs (key3 t) with
    | none => rfl
    | some v => rw [e2] at hs; cases hs
  | some x =>
    obtain ⟨a, e1, e2⟩ := h.2 _ (findM_some e)
    exact .inr ⟨x, a, rfl, e1, e2⟩
theorem DctM.put {H : Hp} {kvs : List (List Key × V)} {F : Tb} (h : DctM H kvs F) (t : T3) {r : Addr} {x : Int × Int} (hr : TwoV H r x) : DctM H (putK kvs (key3 t) (.ref r)) (putM F t x) := by
  have hs := h.has t
  refine ⟨?_, fun p hp => ?_⟩
  · have e : (putM F t x).map (fun p => key3 p.1) = ((putM F t x).map Prod.fst).map key3 := by rw [List.map_map]; rfl
    rw [e, putM_keys]
    unfold putK
    rw [valV_any, hs]
    by_cases c : (findM F t).isSome = true
    · rw [if_pos c, if_pos c, List.map_map, List.map_map]
      rw [show (Prod.fst ∘ fun kv : List Key × V => if kv.1 = key3 t then (kv.1, V.ref r) else kv) = Prod.fst from funext fun kv => by
        show (if kv.1 = key3 t then (kv.1, V.ref r) else kv).1 = kv.1
        split <;> rfl]
      exact h.1
    · rw [if_neg c, if_neg c, List.map_append, List.map_append, h.1, List.map_map]
      rfl
  · by_cases c : p.1 = t
    · refine ⟨r, by rw [c, valV_put, if_pos rfl], ?_⟩
      have ep : p.2 = x := by
        unfold putM at hp
        split at hp
        · obtain ⟨q, hq, rfl⟩ := List.mem_map.mp hp
          by_cases d : q.1 = t
          · rw [if_pos d]
          · rw [if_neg d] at c
            exact absurd c d
        · rename_i n
          rcases List.mem_append.mp hp with hp | hp
          · have nn : findM F t = none := by
              cases e : findM F t with
              | none => rfl
              | some y => rw [e] at n; exact absurd rfl n
            exact absurd (by rw [← c]; exact List.mem_map_of_mem hp) (findM_none.mp nn)
          · rw [List.mem_singleton.mp hp]
      rw [ep]
      exact hr
    · have mp : p ∈ F := by
        unfold putM at hp
        split at hp
        · obtain ⟨q, hq, rfl⟩ := List.mem_map.mp hp
          by_cases d : q.1 = t
          · rw [if_pos d] at c
            exact absurd rfl c
          · rw [if_neg d]
            exact hq
        · rcases List.mem_append.mp hp with hp | hp
          · exact hp
          · rw [List.mem_singleton.mp hp] at c
            exact absurd rfl c
      obtain ⟨a, e1, e2⟩ := h.2 p mp
      exact ⟨a, by rw [valV_put, if_neg (fun e => c (key3_inj e))]; exact e1, e2⟩
/-- tuples kept -/
def TK (H H' : Hp) : Prop := ∀ b xs, H b = some (.tup xs) → H' b = some (.tup xs)
theorem TK.of {H H' : Hp} (s : Same H H') : TK H H' := fun _ _ e => s _ _ e
theorem TK.at_ {H : Hp} {D : Addr} {o u : HO} (e : H D = some o) (n : ∀ xs, o ≠ .tup xs) : TK H (upd H D u) := fun b xs h => by
  rw [upd_ne (fun z => by
    rw [z, e] at h
    exact n _ (Option.some.inj h))]
  exact h
theorem TK.trans {H H1 H2 : Hp} (a : TK H H1) (b : TK H1 H2) : TK H H2 := fun _ _ e => b _ _ (a _ _ e)
theorem DctM.tk {H H' : Hp} {kvs : List (List Key × V)} {F : Tb} (h : DctM H kvs F) (s : TK H H') : DctM H' kvs F := ⟨h.1, fun p hp => by
  obtain ⟨a, e1, e2⟩ := h.2 p hp
  exact ⟨a, e1, s _ _ e2⟩⟩
theorem SzM.step {hv out : Nat} {own : Int × Int} {p : Rw × Rw} {F : Tb} {mo : Option (Int × Int)} (ho : out < hv) (h1 : Sz2 221 own) (hm : ∀ m, mo = some m → Sz2 (110 + 222 * (hv - 1 - out)) m) (h : SzM hv F) : SzM hv (stepM own (tOf p out) F mo) := by
  cases mo with
  | none => exact h
  | some m =>
    have hw : Sz2 (110 + 222 * (hv - (tOf p out).2.2.toNat)) (lPlus own m) := by
      have := (h1.plus (hm m rfl)).mono (m := 110 + 222 * (hv - out)) (by omega)
      show Sz2 (110 + 222 * (hv - (out : Int).toNat)) _
      rw [Int.toNat_natCast]
      exact this
    show SzM hv (match findM F (tOf p out) with | none => putM F (tOf p out) (lPlus own m) | some x => if lLess x (lPlus own m) = true then putM F (tOf p out) (lPlus own m) else F)
    cases findM F (tOf p out) with
    | none => exact h.put hw
    | some x =>
      show SzM hv (if lLess x (lPlus own m) = true then putM F (tOf p out) (lPlus own m) else F)
      split
      · exact h.put hw
      · exact h
theorem lMore_sz {W : Int → Int × Int} {F : Tb} {hv out : Nat} {it : LItem} (h : SzM hv F) (hW : ∀ r, it = .one r → Sz2 110 (W r.num)) {m : Int × Int} (e : lMore W F out it = some m) : Sz2 (110 + 222 * (hv - 1 - out)) m := by
  cases it with
  | zero =>
    cases e
    exact Sz2.mono (k := 110) ⟨by show (0 : Int).natAbs < 2 ^ 110; decide, by show (1 : Int).natAbs < 2 ^ 110; decide⟩ (by omega)
  | one r =>
    cases e
    exact (hW r rfl).mono (by omega)
  | two z =>
    have e : findM F (z.1.num, z.2.num, (out : Int) + 1) = some m := e
    have := h.get e
    have e2 : ((out : Int) + 1).toNat = out + 1 := by omega
    rw [show ((z.1.num, z.2.num, (out : Int) + 1) : T3).2.2.toNat = out + 1 from e2] at this
    exact this.mono (by omega)
theorem stepM_len (own : Int × Int) (t : T3) (F : Tb) (mo : Option (Int × Int)) : (stepM own t F mo).length ≤ F.length + (if (findM F t).isSome = true then 0 else 1) := by
  have hp : ∀ x, (putM F t x).length = F.length + (if (findM F t).isSome = true then 0 else 1) := fun x => by
    have := congrArg List.length (putM_keys F t x)
    rw [List.length_map] at this
    rw [this]
    split
    · rw [List.length_map]
      rfl
    · rw [List.length_append, List.length_map]
      rfl
  cases mo with
  | none => exact Nat.le_add_right ..
  | some m =>
    show (match findM F t with | none => putM F t (lPlus own m) | some x => if lLess x (lPlus own m) = true then putM F t (lPlus own m) else F).length ≤ _
    have := hp (lPlus own m)
    cases e : findM F t with
    | none =>
      rw [e] at this
      exact Nat.le_of_eq this
    | some x =>
      rw [e] at this
      show (if lLess x (lPlus own m) = true then putM F t (lPlus own m) else F).length ≤ _
      split
      · exact Nat.le_of_eq this
      · exact Nat.le_add_right ..
theorem items_len {W : Int → Int × Int} {p : Rw × Rw} {out : Nat} : ∀ (its : List LItem) (F : Tb), (itemsM W p out F its).length ≤ F.length + (if (findM F (tOf p out)).isSome = true then 0 else 1)
  | [], F => Nat.le_add_right ..
  | it :: its, F => by
    have h1 := items_len (W := W) (p := p) (out := out) its (stepM (ownOf W p) (tOf p out) F (lMore W F out it))
    have h2 := stepM_len (ownOf W p) (tOf p out) F (lMore W F out it)
    show (itemsM W p out (stepM (ownOf W p) (tOf p out) F (lMore W F out it)) its).length ≤ _
    refine Nat.le_trans h1 ?_
    rw [find_step, if_pos rfl]
    cases e : lMore W F out it with
    | none =>
      rw [e] at h2
      exact Nat.le_refl _
    | some m =>
      rw [e] at h2
      show _ + (if (maxO (findM F (tOf p out)) (lPlus (ownOf W p) m)).isSome = true then 0 else 1) ≤ _
      rw [show (maxO (findM F (tOf p out)) (lPlus (ownOf W p) m)).isSome = true by
        cases findM F (tOf p out) with
        | none => rfl
        | some x =>
          show (if lLess x (lPlus (ownOf W p) m) = true then some (lPlus (ownOf W p) m) else some x).isSome = true
          split <;> rfl]
      exact h2
theorem pairs_len {W : Int → Int × Int} {u : Rl} {rs : List Rw} {ps : List (Rw × Rw)} {long out : Nat} : ∀ (qs : List (Rw × Rw)) (F : Tb), (pairsM W u rs ps long out F qs).length ≤ F.length + qs.length
  | [], F => Nat.le_refl _
  | q :: qs, F => by
    have h1 := pairs_len (W := W) (u := u) (rs := rs) (ps := ps) (long := long) (out := out) qs (itemsM W q out F (lInner u rs ps q out long))
    have h2 := items_len (W := W) (p := q) (out := out) (lInner u rs ps q out long) F
    have h3 : (if (findM F (tOf q out)).isSome = true then 0 else 1) ≤ 1 := by split <;> decide
    show (pairsM W u rs ps long out (itemsM W q out F (lInner u rs ps q out long)) qs).length ≤ _
    rw [List.length_cons]
    omega
theorem outs_len {W : Int → Int × Int} {u : Rl} {rs : List Rw} {ps : List (Rw × Rw)} {long : Nat} : ∀ i, (outsM W u rs ps long i).length ≤ i * ps.length
  | 0 => Nat.zero_le _
  | i + 1 => by
    have h1 := outs_len (W := W) (u := u) (rs := rs) (ps := ps) (long := long) i
    have h2 := pairs_len (W := W) (u := u) (rs := rs) (ps := ps) (long := long) (out := long / 2 - 1 - i) ps (outsM W u rs ps long i)
    show (pairsM W u rs ps long (long / 2 - 1 - i) (outsM W u rs ps long i) ps).length ≤ _
    rw [Nat.succ_mul]
    omega
theorem lPairs_len (u : Rl) (rs : List Rw) : (lPairs u rs).length ≤ rs.length * rs.length := flat_len (f := lPairsB u rs) (n := rs.length) (fun x => by unfold lPairsB; rw [List.length_map]; exact List.length_filter_le _ _) rs
theorem rev_at {n j : Nat} {v : V} (h : ((rgV 0 (n : Int)).reverse)[j]? = some v) : j < n ∧ v = .int ((n - 1 - j : Nat) : Int) := by
  have el : (rgV 0 (n : Int)).length = n := by
    unfold rgV
    rw [List.length_map, List.length_range]
    omega
  have hj : j < n := by
    have := (List.getElem?_eq_some_iff.mp h).1
    rw [List.length_reverse, el] at this
    exact this
  refine ⟨hj, ?_⟩
  rw [List.getElem?_reverse (by rw [el]; exact hj), el] at h
  unfold rgV at h
  rw [List.getElem?_map, List.getElem?_range (by omega)] at h
  have h := Option.some.inj h
  rw [← h]
  show V.int (0 + ((n - 1 - j : Nat) : Int)) = _
  rw [Int.zero_add]
def MoreV (H : Hp) (vm : V) : Option (Int × Int) → Prop
  | none => vm = .non
  | some m => ∃ am, vm = .ref am ∧ TwoV H am m
def More1 (H : Hp) (vm : V) (m0 : Addr) (W : Int → Int × Int) : LItem → Prop
  | .one r => ∃ am, vm = .ref am ∧ TwoV H am (W r.num)
  | _ => vm = .ref m0
def spMost : Sp := fun vs H Q _ => ∃ (a b f dw : Addr) (xs ys : List V) (rs : List Rw) (u : Rl) (long : Nat) (W : Int → Int × Int) (kw : List (Key × V)), vs = [.ref a, .ref b, .ref f, .int (long : Int), .ref dw] ∧ H a = some (.lst xs) ∧ FF (RwF H) xs rs ∧ rs.length ≤ 30 ∧ H b = some (.lst ys) ∧ FF (RR2 H) ys (lPairs u rs) ∧ H f = some (.tup (fourV u)) ∧ H dw = some (.dK kw) ∧ WAt H kw W rs ∧ (∀ r ∈ rs, Sz2 110 (W r.num)) ∧ long ≤ 9 ∧
  ∀ (H' : Hp) (d : Addr) (kvs : List (List Key × V)), Same H H' → H d = none → H' d = some (.dT kvs) → DctM H' kvs (outsM W u rs (lPairs u rs) long (long / 2)) → SzM (long / 2) (outsM W u rs (lPairs u rs) long (long / 2)) → Q (.ref d) H'
theorem ok_most (T : Tx K mg) : FnOk P w K mg base CX0 3 T.A_most T.fd_most ["_law_rows_here", "_law_pairs_here", "_law_four_here", "_law_long", "_law_worths"] (spMost) := by
  refine T.F_most.ok sc_most (fun vs H Q E h => ?_) (fun cdv A outer s H vs Q E hr h => ?_)
  · obtain ⟨a, b, f, dw, xs, ys, rs, u, long, W, kw, rfl, ha, hFa, hla, hb, hFb, hf, hw, hW, zW, hl9, q⟩ := h
    rfl
  obtain ⟨a, b, f, dw, xs, ys, rs, u, long, W, kw, rfl, ha, hFa, hla, hb, hFb, hf, hw, hW, zW, hl9, q⟩ := h
  refine ⟨_, (pss_cons (ps_set (i := 5) sc_most.nd rfl (Or.inl rfl) pe_dnewT)
      (pss_cons (ps_for PassesOwn.never rfl (pi_list (pe_revL (pe_listRg rfl (by rfl) T.z_list (prg_1 (by rfl) T.z_range (pe_op op_fdiv (pv 3) pe_int))))) (pg_name (i := 6) sc_most.nd rfl (Or.inl rfl))
        (pss_one (ps_for PassesOwn.never rfl (pi_list (pv 1)) (pg_tup (by rfl) (pgs_cons (pg_name (i := 7) sc_most.nd rfl (Or.inl rfl)) (pgs_cons (pg_name (i := 8) sc_most.nd rfl (Or.inl rfl)) pgs_nil)))
        (pss_cons (ps_set (i := 9) sc_most.nd rfl (Or.inl rfl) (pe_call (ok_plus T) (hr.mono (by decide)) (by rfl) T.g_plus T.F_plus.kp T.b_plus .nil pass0 (pa_cons (pe_dget (Nat.lt_of_le_of_lt (Nat.add_le_add_left (by decide) _) hr.units) (pv 4) (pe_ix ix_tup (pv 7) pe_int (fun _ _ => rfl)) (fun _ _ => rfl)) (pa_cons (pe_dget (Nat.lt_of_le_of_lt (Nat.add_le_add_left (by decide) _) hr.units) (pv 4) (pe_ix ix_tup (pv 8) pe_int (fun _ _ => rfl)) (fun _ _ => rfl)) pa_nil))))
      (pss_one (ps_for PassesOwn.never rfl (pi_list (pe_call (ok_inner T) (hr.mono (by decide)) (by rfl) T.g_inner T.F_inner.kp T.b_inner .nil pass0 (pa_cons (pe_tup (pa_cons (pv 7) (pa_cons (pv 8) pa_nil))) (pa_cons (pv 0) (pa_cons (pv 1) (pa_cons (pv 6) (pa_cons (pv 2) (pa_cons (pv 3) pa_nil)))))))) (pg_name (i := 10) sc_most.nd rfl (Or.inl rfl))
        (pss_cons (ps_set (i := 11) sc_most.nd rfl (Or.inl rfl) (pe_tup (pa_cons pe_int (pa_cons pe_int pa_nil))))
      (pss_cutJ (ps_if (pt_cmpR op_eq (pe_callB call_len_seq (by rfl) T.z_len PySem.boot_len (pa_cons (pv 10) pa_nil)) pe_int (nomark _)) (pss_one (ps_set (i := 11) sc_most.nd rfl (Or.inl rfl) (pe_dget (Nat.lt_of_le_of_lt (Nat.add_le_add_left (by decide) _) hr.units) (pv 4) (pe_ix ix_tup (pe_ix ix_tup (pv 10) pe_int (fun _ _ => rfl)) pe_int (fun _ _ => rfl)) (fun _ _ => rfl)))) pss_nil)
      (pss_cutJ (ps_if (pt_cmpR op_eq (pe_callB call_len_seq (by rfl) T.z_len PySem.boot_len (pa_cons (pv 10) pa_nil)) pe_int (nomark _)) (pss_one (ps_set (i := 11) sc_most.nd rfl (Or.inl rfl) (pe_dget1 (Nat.lt_of_le_of_lt (Nat.add_le_add_left (by decide) _) hr.units) (pv 5) (pe_tup (pa_cons (pe_ix ix_tup (pe_ix ix_tup (pv 10) pe_int (fun _ _ => rfl)) pe_int (fun _ _ => rfl)) (pa_cons (pe_ix ix_tup (pe_ix ix_tup (pv 10) pe_int (fun _ _ => rfl)) pe_int (fun _ _ => rfl)) (pa_cons (pe_op op_add (pv 6) pe_int) pa_nil)))) ⟨rfl, by rfl, by rfl, rfl⟩))) pss_nil)
      (pss_cons (ps_set (i := 12) sc_most.nd rfl (Or.inl rfl) (pe_tup (pa_cons (pe_ix ix_tup (pv 7) pe_int (fun _ _ => rfl)) (pa_cons (pe_ix ix_tup (pv 8) pe_int (fun _ _ => rfl)) (pa_cons (pv 6) pa_nil)))))
      (pss_cons (ps_set (i := 13) sc_most.nd rfl (Or.inl rfl) (pe_andW (K' := K) rfl (pv 11) (pe_one (pe_call (ok_plus T) (hr.mono (by decide)) (by rfl) T.g_plus T.F_plus.kp T.b_plus .nil pass0 (pa_cons (pv 9) (pa_cons (pv 11) pa_nil))))))
      (pss_one (ps_if (PW.pt (pw_and (pt_cmpR op_notN (pv 11) pe_non (nomark _)) (pw_and1 (PW.pt (pw_or (pt_cmp (pc_dnotin (Nat.lt_of_le_of_lt (Nat.add_le_add_left (by decide) _) hr.units) (pv 12) (pv 5))) (pw_or1 (pt_val (pe_call (ok_less T) (hr.mono (by decide)) (by rfl) T.g_less T.F_less.kp T.b_less .nil pass0 (pa_cons (pe_dget (Nat.lt_of_le_of_lt (Nat.add_le_add_left (by decide) _) hr.units) (pv 5) (pv 12) (fun _ _ => rfl)) (pa_cons (pv 13) pa_nil)))))))))) (pss_one (ps_dput (Nat.lt_of_le_of_lt (Nat.add_le_add_left (by decide) _) hr.units) (pv 5) (pv 12) (pv 13) rfl)) pss_nil)))))))))))))
      (pss_one (ps_ret (pv 5))))), ?_⟩
  have hps : (lPairs u rs).length ≤ 900 := Nat.le_trans (lPairs_len u rs) (Nat.mul_le_mul hla hla)
  intro D hD
  refine ⟨_, rfl, _, _, rfl, rfl, ⟨by decide, by decide⟩, _, rfl, ⟨by decide, by decide, by omega, by omega, by omega⟩, fun l1 hl1 => ⟨l1, _, rfl, SqL.of upd_same, fun l2 hl2 => ?_⟩⟩
  have e2 : (long : Int) / 2 = ((long / 2 : Nat) : Int) := by omega
  rw [e2] at hl2 ⊢
  have nDl1 : l1 ≠ D := (ne_of_none upd_same hl1).symm
  have nDl2 : l2 ≠ D := (ne_of_none (same_upd hl1 _ _ upd_same) hl2).symm
  have s0 : Same H (upd (upd (upd H D (.dT [])) l1 (.lst (rgV 0 ((long / 2 : Nat) : Int)))) l2 (.lst (rgV 0 ((long / 2 : Nat) : Int)).reverse)) := (same_upd hD).trans ((same_upd hl1).trans (same_upd hl2))
  have eD0 : (upd (upd (upd H D (.dT [])) l1 (.lst (rgV 0 ((long / 2 : Nat) : Int)))) l2 (.lst (rgV 0 ((long / 2 : Nat) : Int)).reverse)) D = some (.dT []) := ((same_upd hl1).trans (same_upd hl2)) _ _ upd_same
  have el0 : (upd (upd (upd H D (.dT [])) l1 (.lst (rgV 0 ((long / 2 : Nat) : Int)))) l2 (.lst (rgV 0 ((long / 2 : Nat) : Int)).reverse)) l2 = some (.lst (rgV 0 ((long / 2 : Nat) : Int)).reverse) := upd_same
  generalize upd (upd (upd H D (.dT [])) l1 (.lst (rgV 0 ((long / 2 : Nat) : Int)))) l2 (.lst (rgV 0 ((long / 2 : Nat) : Int)).reverse) = H0 at s0 eD0 el0
  have lr : (rgV 0 ((long / 2 : Nat) : Int)).reverse.length = long / 2 := by
    rw [List.length_reverse]
    unfold rgV
    rw [List.length_map, List.length_range]
    omega
  have nd : ∀ {c : Addr} {o : HO}, H c = some o → c ≠ D := fun h => ne_of_none h hD
  refine ⟨l2, rfl, ⟨_, SqL.of el0⟩, for_list (K := K) (a := l2) (xs := (rgV 0 ((long / 2 : Nat) : Int)).reverse) (fun j σ H' => ∃ (w6 w7 w8 w9 w10 w11 w12 w13 : Option V) (kvs : List (List Key × V)), σ = [some (.ref a), some (.ref b), some (.ref f), some (.int (long : Int)), some (.ref dw), some (.ref D), w6, w7, w8, w9, w10, w11, w12, w13] ∧ But D H0 H' ∧ H' D = some (.dT kvs) ∧ DctM H' kvs (outsM W u rs (lPairs u rs) long j) ∧ SzM (long / 2) (outsM W u rs (lPairs u rs) long j)) ⟨_, _, _, _, _, _, _, _, [], rfl, But.refl _ _, eD0, ⟨rfl, fun p h => nomatch h⟩, fun p h => nomatch h⟩ (fun j σ H' _ h => ?_) ?_ ?_⟩
  · obtain ⟨_, _, _, _, _, _, _, _, _, _, B, _⟩ := h
    exact SqL.of (B _ _ nDl2 el0)
  · rintro j v σ H1 hj ⟨w6, w7, w8, w9, w10, w11, w12, w13, kvs, rfl, B1, eD1, hM1, hS1⟩
    obtain ⟨hj, rfl⟩ := rev_at hj
    have eo : outsM W u rs (lPairs u rs) long (j + 1) = pairsM W u rs (lPairs u rs) long (long / 2 - 1 - j) (outsM W u rs (lPairs u rs) long j) (lPairs u rs) := rfl
    have lF0 : (outsM W u rs (lPairs u rs) long j).length ≤ 3600 := Nat.le_trans (outs_len j) (Nat.le_trans (Nat.mul_le_mul (by omega : j ≤ 4) hps) (by decide))
    rw [eo]
    have ho : long / 2 - 1 - j < long / 2 := by omega
    generalize long / 2 - 1 - j = out at ho
    generalize outsM W u rs (lPairs u rs) long j = F0 at hM1 hS1 lF0
    have s1 := fun {c : Addr} {o : HO} (h : H c = some o) => B1 _ _ (nd h) (s0 _ _ h)
    refine ⟨_, rfl, b, rfl, ⟨_, SqL.of (s1 hb)⟩, for_list (K := K) (a := b) (xs := ys) (fun i σ H' => ∃ (w7 w8 w9 w10 w11 w12 w13 : Option V) (kvs : List (List Key × V)), σ = [some (.ref a), some (.ref b), some (.ref f), some (.int (long : Int)), some (.ref dw), some (.ref D), some (.int (out : Int)), w7, w8, w9, w10, w11, w12, w13] ∧ But D H0 H' ∧ H' D = some (.dT kvs) ∧ DctM H' kvs (pairsM W u rs (lPairs u rs) long out F0 ((lPairs u rs).take i)) ∧ SzM (long / 2) (pairsM W u rs (lPairs u rs) long out F0 ((lPairs u rs).take i))) ⟨_, _, _, _, _, _, _, kvs, rfl, B1, eD1, hM1, hS1⟩ (fun i σ H' _ h => ?_) ?_ ?_⟩
    · obtain ⟨_, _, _, _, _, _, _, _, _, B, _⟩ := h
      exact SqL.of (B _ _ (nd hb) (s0 _ _ hb))
    · rintro i v σ H2 hi ⟨w7, w8, w9, w10, w11, w12, w13, kvs, rfl, B2, eD2, hM2, hS2⟩
      obtain ⟨p, hp, t, tl, tr, rfl, ht, htl, htr⟩ := hFb.get hi
      have tk : (lPairs u rs).take (i + 1) = (lPairs u rs).take i ++ [p] := by rw [List.take_add_one, hp]; rfl
      have ep : pairsM W u rs (lPairs u rs) long out F0 ((lPairs u rs).take (i + 1)) = itemsM W p out (pairsM W u rs (lPairs u rs) long out F0 ((lPairs u rs).take i)) (lInner u rs (lPairs u rs) p out long) := by
        rw [tk]
        unfold pairsM
        rw [List.foldl_append]
        rfl
      have lF1 : (pairsM W u rs (lPairs u rs) long out F0 ((lPairs u rs).take i)).length ≤ 4500 := by
        have h1 := pairs_len (W := W) (u := u) (rs := rs) (ps := lPairs u rs) (long := long) (out := out) ((lPairs u rs).take i) F0
        have h2 : ((lPairs u rs).take i).length ≤ (lPairs u rs).length := by
          rw [List.length_take]
          omega
        omega
      rw [ep]
      generalize pairsM W u rs (lPairs u rs) long out F0 ((lPairs u rs).take i) = F1 at hM2 hS2 lF1
      have mp := List.mem_of_getElem? hp
      obtain ⟨p1, p2, _⟩ := mem_lPairs.mp mp
      have s2 := fun {c : Addr} {o : HO} (h : H c = some o) => B2 _ _ (nd h) (s0 _ _ h)
      obtain ⟨aw1, ew1, tw1⟩ := hW _ p1
      obtain ⟨aw2, ew2, tw2⟩ := hW _ p2
      refine ⟨t, _, rfl, SqT.of (s2 ht), rfl, _, _, rfl, _, _, rfl, rfl, _, rfl, _, rfl, tl, _, 0, _, rfl, rfl, SqT.of (s2 htl), rfl, dw, _, rfl, .inl ⟨kw, Sum.inl p.1.num, .inl (s2 hw), rfl, ew1.symm⟩, ?_⟩
      refine ⟨_, rfl, _, rfl, tr, _, 0, _, rfl, rfl, SqT.of (s2 htr), rfl, dw, _, rfl, .inl ⟨kw, Sum.inl p.2.num, .inl (s2 hw), rfl, ew2.symm⟩, ?_⟩
      refine ⟨aw1, aw2, W p.1.num, W p.2.num, 110, 110, rfl, s2 tw1, s2 tw2, zW _ p1, zW _ p2, by decide, by decide, fun H3 ow s3 ho3 => ?_⟩
      have eD3 := s3 _ _ eD2
      refine ⟨_, rfl, _, rfl, (by show 2 ≤ sizeLine; decide), fun pr hpr => ?_⟩
      have z4 := same_upd hpr (o := .tup [.ref tl, .ref tr])
      have s4 := fun {c : Addr} {o : HO} (h : H c = some o) => z4 _ _ (s3 _ _ (s2 h))
      refine ⟨_, rfl, _, rfl, _, rfl, _, rfl, _, rfl, pr, tl, tr, a, b, f, xs, ys, rs, lPairs u rs, p, u, out, long, rfl, upd_same, s4 htl, s4 htr, s4 ha, hFa.mono (fun v r h => by obtain ⟨t, e, h⟩ := h; exact ⟨t, e, s4 h⟩), s4 hb, hFb.mono (fun v r h => by obtain ⟨t, x, y, e, h1, h2, h3⟩ := h; exact ⟨t, x, y, e, s4 h1, s4 h2, s4 h3⟩), s4 hf, by omega, by omega, fun H5 lz zs s5 nz ez fz => ?_⟩
      have eD5 := s5 _ _ (z4 _ _ eD3)
      have nlz : lz ≠ D := (ne_of_none (z4 _ _ eD3) nz).symm
      have s05 := fun {c : Addr} {o : HO} (h : H c = some o) => s5 _ _ (s4 h)
      have hM5 := hM2.tk (TK.of (s3.trans (z4.trans s5)))
      have ho5 := s5 _ _ (z4 _ _ ho3)
      have now : ow ≠ D := fun z => by rw [z, eD3] at ho3; cases ho3
      have B5 : But D H0 H5 := B2.trans (But.of (s3.trans (z4.trans s5)))
      refine ⟨lz, rfl, ⟨_, SqL.of ez⟩, for_list (K := K) (a := lz) (xs := zs) (fun m σ H' => ∃ (w10 w11 w12 w13 : Option V) (kvs : List (List Key × V)), σ = [some (.ref a), some (.ref b), some (.ref f), some (.int (long : Int)), some (.ref dw), some (.ref D), some (.int (out : Int)), some (.ref tl), some (.ref tr), some (.ref ow), w10, w11, w12, w13] ∧ But D H5 H' ∧ H' D = some (.dT kvs) ∧ DctM H' kvs (itemsM W p out F1 ((lInner u rs (lPairs u rs) p out long).take m)) ∧ SzM (long / 2) (itemsM W p out F1 ((lInner u rs (lPairs u rs) p out long).take m))) ⟨_, _, _, _, kvs, rfl, But.refl _ _, eD5, hM5, hS2⟩ (fun m σ H' _ h => ?_) ?_ ?_⟩
      · obtain ⟨_, _, _, _, _, _, B, _⟩ := h
        exact SqL.of (B _ _ nlz ez)
      · rintro m v σ H6 hm ⟨w10, w11, w12, w13, kvs6, rfl, B6, eD6, hM6, hS6⟩
        obtain ⟨it, hit, hv⟩ := fz.get hm
        have tk : (lInner u rs (lPairs u rs) p out long).take (m + 1) = (lInner u rs (lPairs u rs) p out long).take m ++ [it] := by rw [List.take_add_one, hit]; rfl
        have ei : itemsM W p out F1 ((lInner u rs (lPairs u rs) p out long).take (m + 1)) = stepM (ownOf W p) (tOf p out) (itemsM W p out F1 ((lInner u rs (lPairs u rs) p out long).take m)) (lMore W (itemsM W p out F1 ((lInner u rs (lPairs u rs) p out long).take m)) out it) := by
          rw [tk]
          unfold itemsM
          rw [List.foldl_append]
          rfl
        have lF2 : (itemsM W p out F1 ((lInner u rs (lPairs u rs) p out long).take m)).length ≤ 4600 := by
          have h1 := items_len (W := W) (p := p) (out := out) ((lInner u rs (lPairs u rs) p out long).take m) F1
          have h2 : (if (findM F1 (tOf p out)).isSome = true then 0 else 1) ≤ 1 := by split <;> decide
          omega
        rw [ei]
        generalize itemsM W p out F1 ((lInner u rs (lPairs u rs) p out long).take m) = F2 at hM6 hS6 lF2
        have hone : ∀ r, it = .one r → r ∈ rs := fun r e => by
          subst e
          have mi := List.mem_of_getElem? hit
          unfold lInner at mi
          split at mi
          · obtain ⟨z, _, e⟩ := List.mem_map.mp mi
            cases e
          · split at mi
            · exact absurd (List.mem_singleton.mp mi) (fun z => nomatch z)
            · obtain ⟨z, hz, e⟩ := List.mem_map.mp mi
              cases e
              exact (List.mem_filter.mp hz).1
        have nD5 : ∀ {c : Addr} {xs : List V}, H5 c = some (.tup xs) → c ≠ D := fun {c xs} h z => by rw [z, eD5] at h; cases h
        have t56 : TK H5 H6 := fun c xs h => B6 _ _ (nD5 h) h
        refine ⟨(by show 2 ≤ sizeLine; decide), fun m0 hm0 => ?_⟩
        have z0 := same_upd hm0 (o := .tup [.int 0, .int 1])
        have t07 : TK H5 (upd H6 m0 (.tup [.int 0, .int 1])) := t56.trans (TK.of z0)
        have s7 := fun {c : Addr} {o : HO} (h : H c = some o) => z0 _ _ (B6 _ _ (nd h) (s05 h))
        have eD7 := z0 _ _ eD6
        have hM7 := hM6.tk (TK.of z0)
        have e7m : TwoV (upd H6 m0 (.tup [.int 0, .int 1])) m0 (0, 1) := upd_same
        have B7 : But D H5 (upd H6 m0 (.tup [.int 0, .int 1])) := B6.trans (But.of z0)
        generalize upd H6 m0 (.tup [.int 0, .int 1]) = H7 at t07 s7 eD7 hM7 e7m B7
        refine ⟨fun σ' H' => ∃ vm : V, σ' = [some (.ref a), some (.ref b), some (.ref f), some (.int (long : Int)), some (.ref dw), some (.ref D), some (.int (out : Int)), some (.ref tl), some (.ref tr), some (.ref ow), some v, some vm, w12, w13] ∧ Same H7 H' ∧ More1 H' vm m0 W it, ?_, ?_⟩
        · cases it with
          | zero =>
            obtain ⟨tv, rfl, htv⟩ := hv
            refine ⟨_, rfl, tv, _, rfl, .inr (SqT.of (t07 _ _ htv)), rfl, _, rfl, ?_⟩
            exact iteF ⟨_, rfl, Same.refl _, rfl⟩
          | one r =>
            obtain ⟨tv, tb, rfl, htv, htb⟩ := hv
            obtain ⟨aw, ew, tw⟩ := hW _ (hone r rfl)
            refine ⟨_, rfl, tv, _, rfl, .inr (SqT.of (t07 _ _ htv)), rfl, _, rfl, ?_⟩
            refine iteT ⟨_, rfl, _, rfl, tv, _, 0, _, rfl, rfl, SqT.of (t07 _ _ htv), rfl, tb, _, 0, _, rfl, rfl, SqT.of (t07 _ _ htb), rfl, dw, _, rfl, .inl ⟨kw, Sum.inl r.num, .inl (s7 hw), rfl, ew.symm⟩, ?_⟩
            exact ⟨_, rfl, Same.refl _, aw, rfl, s7 tw⟩
          | two z =>
            obtain ⟨tv, x, y, rfl, htv, hx, hy⟩ := hv
            refine ⟨_, rfl, tv, _, rfl, .inr (SqT.of (t07 _ _ htv)), rfl, _, rfl, ?_⟩
            exact iteF ⟨_, rfl, Same.refl _, rfl⟩
        · rintro σ' H8 ⟨vm, rfl, z8, hm1⟩
          have t08 := t07.trans (TK.of z8)
          have s8 := fun {c : Addr} {o : HO} (h : H c = some o) => z8 _ _ (s7 h)
          have eD8 := z8 _ _ eD7
          have hM8 := hM7.tk (TK.of z8)
          have e8m : TwoV H8 m0 (0, 1) := z8 _ _ e7m
          have B8 : But D H5 H8 := B7.trans (But.of z8)
          refine ⟨fun σ' H' => ∃ vm : V, σ' = [some (.ref a), some (.ref b), some (.ref f), some (.int (long : Int)), some (.ref dw), some (.ref D), some (.int (out : Int)), some (.ref tl), some (.ref tr), some (.ref ow), some v, some vm, w12, w13] ∧ Same H8 H' ∧ MoreV H' vm (lMore W F2 out it), ?_, ?_⟩
          · cases it with
            | zero =>
              obtain ⟨tv, rfl, htv⟩ := hv
              refine ⟨_, rfl, tv, _, rfl, .inr (SqT.of (t08 _ _ htv)), rfl, _, rfl, ?_⟩
              exact iteF ⟨_, rfl, Same.refl _, m0, hm1, e8m⟩
            | one r =>
              obtain ⟨tv, tb, rfl, htv, htb⟩ := hv
              refine ⟨_, rfl, tv, _, rfl, .inr (SqT.of (t08 _ _ htv)), rfl, _, rfl, ?_⟩
              exact iteF ⟨_, rfl, Same.refl _, hm1⟩
            | two z =>
              obtain ⟨tv, x, y, rfl, htv, hx, hy⟩ := hv
              refine ⟨_, rfl, tv, _, rfl, .inr (SqT.of (t08 _ _ htv)), rfl, _, rfl, ?_⟩
              refine iteT ⟨_, rfl, D, rfl, ?_⟩
              refine ⟨.inr ⟨kvs6, .inl eD8⟩, _, rfl, tv, _, 0, _, rfl, rfl, SqT.of (t08 _ _ htv), rfl, x, _, 0, _, rfl, rfl, SqT.of (t08 _ _ hx), rfl, _, rfl, tv, _, 1, _, rfl, rfl, SqT.of (t08 _ _ htv), rfl, y, _, 0, _, rfl, rfl, SqT.of (t08 _ _ hy), rfl, _, rfl, _, _, rfl, rfl, (by show 3 ≤ sizeLine; decide), fun kt hkt => ?_⟩
              have zk := same_upd hkt (o := .tup [.int z.1.num, .int z.2.num, .int ((out : Int) + 1)])
              have hMk := hM8.tk (TK.of zk)
              refine ⟨_, DGet.t (k := key3 (z.1.num, z.2.num, (out : Int) + 1)) (zk _ _ eD8) upd_same, ?_⟩
              refine ⟨_, rfl, zk, ?_⟩
              show MoreV _ _ (findM F2 (z.1.num, z.2.num, (out : Int) + 1))
              rcases hMk.get (z.1.num, z.2.num, (out : Int) + 1) with ⟨e1, e2⟩ | ⟨q, aq, e1, e2, tq⟩
              · rw [e1, e2]
                exact rfl
              · rw [e1, e2]
                exact ⟨aq, rfl, tq⟩
          · rintro σ' H9 ⟨vm, rfl, z9, hm2⟩
            have hM9 := hM8.tk (TK.of z9)
            have eD9 := z9 _ _ eD8
            have s9 := fun {c : Addr} {o : HO} (h : H c = some o) => z9 _ _ (s8 h)
            have B9 : But D H5 H9 := B8.trans (But.of z9)
            have ho9 := B9 _ _ now ho5
            refine ⟨_, rfl, tl, _, 0, _, rfl, rfl, SqT.of (s9 htl), rfl, _, rfl, tr, _, 0, _, rfl, rfl, SqT.of (s9 htr), rfl, _, rfl, (by show 3 ≤ sizeLine; decide), fun kt hkt => ?_⟩
            have zk := same_upd hkt (o := .tup [.int p.1.num, .int p.2.num, .int (out : Int)])
            have eK : (upd H9 kt (.tup [.int p.1.num, .int p.2.num, .int (out : Int)])) kt = some (.tup ((key3 (tOf p out)).map kV)) := upd_same
            have hMk := hM9.tk (TK.of zk)
            have eDk := zk _ _ eD9
            have hok := zk _ _ ho9
            have Bk : But D H5 (upd H9 kt (.tup [.int p.1.num, .int p.2.num, .int (out : Int)])) := B9.trans (But.of zk)
            have hmk : MoreV (upd H9 kt (.tup [.int p.1.num, .int p.2.num, .int (out : Int)])) vm (lMore W F2 out it) := by
              cases hmo : lMore W F2 out it with
              | none => rw [hmo] at hm2; exact hm2
              | some m' =>
                rw [hmo] at hm2
                obtain ⟨am, e, h⟩ := hm2
                exact ⟨am, e, zk _ _ h⟩
            have nkD : kt ≠ D := (ne_of_none eD9 hkt).symm
            generalize upd H9 kt (.tup [.int p.1.num, .int p.2.num, .int (out : Int)]) = HK at eK hMk eDk hok Bk hmk
            have lkv : kvs6.length ≤ 4600 := by
              have := congrArg List.length hMk.1
              rw [List.length_map, List.length_map] at this
              omega
            have eow : H9 ow = some (.tup [.int (ownOf W p).1, .int (ownOf W p).2]) := ho9
            cases hmo : lMore W F2 out it with
            | none =>
              rw [hmo] at hmk
              have hmk : vm = .non := hmk
              subst hmk
              refine ⟨_, rfl, false, .inl rfl, iteF ⟨_, rfl, rfl, ?_⟩⟩
              rw [show (!decide (V.non = V.non)) = false by rw [decide_eq_true rfl]; rfl]
              refine ⟨_, rfl, iteF (iteF ?_)⟩
              exact ⟨_, _, _, _, kvs6, rfl, Bk, eDk, hMk, hS6⟩
            | some m' =>
              rw [hmo] at hmk
              obtain ⟨am, rfl, tam⟩ := hmk
              have szo : Sz2 221 (ownOf W p) := (zW _ p1).plus (zW _ p2)
              have szm := lMore_sz hS6 (fun r e => zW _ (hone r e)) hmo
              refine ⟨_, rfl, true, .inl (.inr (.inl ⟨_, SqT.of tam, rfl⟩)), iteT ⟨_, rfl, _, rfl, ow, am, ownOf W p, m', 221, 110 + 222 * (long / 2 - 1 - out), rfl, hok, tam, szo, szm, by decide, by omega, fun H10 aw z10 e10 => ?_⟩⟩
              have e10 : TwoV H10 aw (lPlus (ownOf W p) m') := e10
              have hM10 := hMk.tk (TK.of z10)
              have eD10 := z10 _ _ eDk
              have eK10 := z10 _ _ eK
              have B10 : But D H5 H10 := Bk.trans (But.of z10)
              have szw := szo.plus szm
              have fput : findM F2 (tOf p out) = none ∨ (∃ x, findM F2 (tOf p out) = some x ∧ lLess x (lPlus (ownOf W p) m') = true) → stepM (ownOf W p) (tOf p out) F2 (some m') = putM F2 (tOf p out) (lPlus (ownOf W p) m') := fun h => by
                show (match findM F2 (tOf p out) with | none => putM F2 (tOf p out) (lPlus (ownOf W p) m') | some x => if lLess x (lPlus (ownOf W p) m') = true then putM F2 (tOf p out) (lPlus (ownOf W p) m') else F2) = _
                rcases h with h | ⟨x, h, h2⟩
                · rw [h]
                · rw [h]
                  exact if_pos h2
              have hS' : SzM (long / 2) (stepM (ownOf W p) (tOf p out) F2 (some m')) := hS6.step ho szo fun m e => by
                cases e
                exact szm
              have put : stepM (ownOf W p) (tOf p out) F2 (some m') = putM F2 (tOf p out) (lPlus (ownOf W p) m') → ∃ (w10 w11 w12 w13 : Option V) (kvs : List (List Key × V)), [some (V.ref a), some (.ref b), some (.ref f), some (.int (long : Int)), some (.ref dw), some (.ref D), some (.int (out : Int)), some (.ref tl), some (.ref tr), some (.ref ow), some v, some (.ref am), some (.ref kt), some (.ref aw)] = [some (.ref a), some (.ref b), some (.ref f), some (.int (long : Int)), some (.ref dw), some (.ref D), some (.int (out : Int)), some (.ref tl), some (.ref tr), some (.ref ow), w10, w11, w12, w13] ∧ But D H5 (upd H10 D (.dT (putK kvs6 (key3 (tOf p out)) (.ref aw)))) ∧ (upd H10 D (.dT (putK kvs6 (key3 (tOf p out)) (.ref aw)))) D = some (.dT kvs) ∧ DctM (upd H10 D (.dT (putK kvs6 (key3 (tOf p out)) (.ref aw)))) kvs (stepM (ownOf W p) (tOf p out) F2 (some m')) ∧ SzM (long / 2) (stepM (ownOf W p) (tOf p out) F2 (some m')) := fun e => by
                refine ⟨_, _, _, _, _, rfl, B10.trans But.at_, upd_same, ?_, hS'⟩
                rw [e]
                exact (hM10.put (tOf p out) e10).tk (TK.at_ eD10 fun _ z => nomatch z)
              refine ⟨_, rfl, rfl, ?_⟩
              rw [show (!decide (V.ref am = V.non)) = true by rw [decide_eq_false (fun z => nomatch z)]; rfl]
              refine ⟨_, rfl, iteT ⟨_, rfl, _, rfl, D, _, rfl, DGet.t (k := key3 (tOf p out)) eD10 eK10, ?_⟩⟩
              rcases hM10.get (tOf p out) with ⟨e1, e2⟩ | ⟨x, ax, e1, e2, tx⟩
              · rw [e2]
                refine ⟨_, rfl, iteT (iteT ?_)⟩
                exact ⟨_, rfl, _, rfl, _, rfl, D, _, rfl, DPut.t (k := key3 (tOf p out)) eD10 eK10 (Nat.lt_of_le_of_lt lkv (by decide)), put (fput (.inl e1))⟩
              · rw [e2]
                have szx := hS6.get e1
                have hto : (tOf p out).2.2.toNat = out := Int.toNat_natCast out
                rw [hto] at szx
                have gx : DGet H10 D (.ref kt) (some (.ref ax)) := by
                  have h := DGet.t (k := key3 (tOf p out)) eD10 eK10
                  rwa [e2] at h
                refine ⟨_, rfl, iteF ⟨_, rfl, _, rfl, D, _, rfl, gx, _, rfl, ax, aw, x, lPlus (ownOf W p) m', 110 + 222 * (long / 2 - out), _, rfl, tx, e10, szx, szw, by omega, by omega, _, rfl, ?_⟩⟩
                cases hl : lLess x (lPlus (ownOf W p) m') with
                | true =>
                  refine iteT ?_
                  exact ⟨_, rfl, _, rfl, _, rfl, D, _, rfl, DPut.t (k := key3 (tOf p out)) eD10 eK10 (Nat.lt_of_le_of_lt lkv (by decide)), put (fput (.inr ⟨x, e1, hl⟩))⟩
                | false =>
                  refine iteF ?_
                  have es : stepM (ownOf W p) (tOf p out) F2 (some m') = F2 := by
                    show (match findM F2 (tOf p out) with | none => putM F2 (tOf p out) (lPlus (ownOf W p) m') | some x => if lLess x (lPlus (ownOf W p) m') = true then putM F2 (tOf p out) (lPlus (ownOf W p) m') else F2) = _
                    rw [e1]
                    exact if_neg (by rw [hl]; exact Bool.false_ne_true)
                  rw [es]
                  exact ⟨_, _, _, _, kvs6, rfl, B10, eD10, hM10, hS6⟩
      · rintro σ H6 ⟨w10, w11, w12, w13, kvs6, rfl, B6, eD6, hM6, hS6⟩
        rw [fz.len, List.take_length] at hM6 hS6
        exact ⟨_, _, _, _, _, _, _, kvs6, rfl, B5.trans B6, eD6, hM6, hS6⟩
    · rintro σ H2 ⟨w7, w8, w9, w10, w11, w12, w13, kvs, rfl, B2, eD2, hM2, hS2⟩
      rw [hFb.len, List.take_length] at hM2 hS2
      exact ⟨_, _, _, _, _, _, _, _, kvs, rfl, B2, eD2, hM2, hS2⟩
  · rintro σ H1 ⟨w6, w7, w8, w9, w10, w11, w12, w13, kvs, rfl, B1, eD1, hM1, hS1⟩
    rw [lr] at hM1 hS1
    exact ⟨_, rfl, q H1 D kvs (fun c o h => B1 _ _ (nd h) (s0 _ _ h)) hD eD1 hM1 hS1⟩
end
end KB
namespace KB
open PySem PySem.Spec PyProof.Rows L2 KA

section
variable {P : Program} {w : World} {K : PySem.W.Frag} {mg : Str → Option Value} {base : Heap}
/-! ### the law's greatest -/
def TopW (H : Hp) (v : V) : Option (Int × Int) → Prop
  | none => v = .non
  | some z => ∃ p, v = .ref p ∧ TwoV H p z ∧ Sz2 1000 z
theorem TopW.tk {H H' : Hp} {v : V} : ∀ {o : Option (Int × Int)}, TopW H v o → TK H H' → TopW H' v o
  | none, h, _ => h
  | some z, ⟨p, e, h, g⟩, s => ⟨p, e, s _ _ h, g⟩
theorem outs_kp {W : Int → Int × Int} {u : Rl} {rs : List Rw} {ps : List (Rw × Rw)} {long : Nat} : ∀ i, KP (fun _ => True) (outsM W u rs ps long i)
  | 0 => ⟨List.nodup_nil, fun _ _ => trivial⟩
  | i + 1 => KP.pairs (fun _ => trivial) _ (outs_kp i)
def TwR (H : Hp) (v : V) (x : Int × Int) : Prop := ∃ p, v = .ref p ∧ TwoV H p x ∧ Sz2 1000 x
def spTop : Sp := fun vs H Q _ => ∃ (a b f dw : Addr) (xs ys : List V) (rs : List Rw) (u : Rl) (long : Nat) (W : Int → Int × Int) (kw : List (Key × V)), vs = [.ref a, .ref b, .ref f, .int (long : Int), .ref dw] ∧ H a = some (.lst xs) ∧ FF (RwF H) xs rs ∧ rs.length ≤ 30 ∧ H b = some (.lst ys) ∧ FF (RR2 H) ys (lPairs u rs) ∧ H f = some (.tup (fourV u)) ∧ H dw = some (.dK kw) ∧ WAt H kw W rs ∧ (∀ r ∈ rs, Sz2 110 (W r.num)) ∧ long ≤ 9 ∧
  (∀ H' v, Same H H' → TopW H' v (lTop W rs long (outsM W u rs (lPairs u rs) long (long / 2))) → Q v H')
theorem ok_top (T : Tx K mg) : FnOk P w K mg base CX0 4 T.A_top T.fd_top ["_law_rows_here", "_law_pairs_here", "_law_four_here", "_law_long", "_law_worths"] (spTop) := by
  refine T.F_top.ok sc_top (fun vs H Q E h => ?_) (fun cdv A outer s H vs Q E hr h => ?_)
  · obtain ⟨a, b, f, dw, xs, ys, rs, u, long, W, kw, rfl, ha, hFa, hla, hb, hFb, hf, hw, hW, zW, hl9, q⟩ := h
    rfl
  obtain ⟨a, b, f, dw, xs, ys, rs, u, long, W, kw, rfl, ha, hFa, hla, hb, hFb, hf, hw, hW, zW, hl9, q⟩ := h
  refine ⟨_, (pss_cons (ps_set (i := 5) sc_top.nd rfl (Or.inr rfl) (pe_call (ok_most T) (hr.mono (by decide)) (by rfl) T.g_most T.F_most.kp T.b_most .nil pass0 (pa_cons (pv 0) (pa_cons (pv 1) (pa_cons (pv 2) (pa_cons (pv 3) (pa_cons (pv 4) pa_nil)))))))
      (pss_cons (ps_lock (ps_setLc (i := 6) (own := [("_law_key", 9)]) (g := gName 9) (tt := _) rfl sc_top.nd rfl rfl (sw_true rfl rfl rfl (by decide +kernel)) (pi_keys (pv 5)) (blkOk_by (N := ["_law_rows_here", "_law_pairs_here", "_law_four_here", "_law_long", "_law_worths", "_law_found", "_law_some", "_law_best_one", "_law_one_here", "_law_key", "_law_row"]) (sc := defScope s_top) (by decide +kernel)) (fun _ _ _ _ _ => (pg_name (i := 9) sc_top.nd rfl (Or.inl rfl))) (fun _ _ _ _ _ => (pts_one (pt_cmpR op_eq (pe_ix (ix_tupK (K' := K) rfl) (pv 9) pe_int (fun _ _ => rfl)) pe_int (nomark _)))) (fun _ _ _ _ _ => (pe_dget (Nat.lt_of_le_of_lt (Nat.add_le_add_left (by decide) _) hr.units) (pv 5) (pv 9) (fun _ _ => rfl)))))
      (pss_cutJ (ps_if (pt_cmpR op_eq (pv 3) pe_int (nomark _)) (pss_one (ps_setLc (i := 6) (own := [("_law_row", 10)]) (g := gName 10) (tt := tYes) rfl sc_top.nd rfl rfl (sw_true rfl rfl rfl (by decide +kernel)) (pi_list (pv 0)) (blkOk_by (N := ["_law_rows_here", "_law_pairs_here", "_law_four_here", "_law_long", "_law_worths", "_law_found", "_law_some", "_law_best_one", "_law_one_here", "_law_key", "_law_row"]) (sc := defScope s_top) (by decide +kernel)) (fun _ _ _ _ _ => (pg_name (i := 10) sc_top.nd rfl (Or.inl rfl))) (fun _ _ _ _ _ => pts_nil) (fun _ _ _ _ _ => (pe_dget (Nat.lt_of_le_of_lt (Nat.add_le_add_left (by decide) _) hr.units) (pv 4) (pe_ix (ix_tupK (K' := K) rfl) (pv 10) pe_int (fun _ _ => rfl)) (fun _ _ => rfl))))) pss_nil)
      (pss_cons (ps_set (i := 7) sc_top.nd rfl (Or.inl rfl) pe_non)
      (pss_cons (ps_for PassesOwn.never rfl (pi_list (pv 6)) (pg_name (i := 8) sc_top.nd rfl (Or.inl rfl))
        (pss_one (ps_if (PW.pt (pw_or (pt_cmpR op_isN (pv 7) pe_non (nomark _)) (pw_or1 (pt_val (pe_call (ok_less T) (hr.mono (by decide)) (by rfl) T.g_less T.F_less.kp T.b_less .nil pass0 (pa_cons (pv 7) (pa_cons (pv 8) pa_nil))))))) (pss_one (ps_set (i := 7) sc_top.nd rfl (Or.inl rfl) (pv 8))) pss_nil)))
      (pss_one (ps_ret (pv 7)))))))), ?_⟩
  refine ⟨_, rfl, _, rfl, _, rfl, _, rfl, _, rfl, a, b, f, dw, xs, ys, rs, u, long, W, kw, rfl, ha, hFa, hla, hb, hFb, hf, hw, hW, zW, hl9, fun H1 D kvs s1 hD eD hM hS => ?_⟩
  have lF : (outsM W u rs (lPairs u rs) long (long / 2)).length ≤ 3600 := Nat.le_trans (outs_len _) (Nat.le_trans (Nat.mul_le_mul (by omega : long / 2 ≤ 4) (Nat.le_trans (lPairs_len u rs) (Nat.mul_le_mul hla hla))) (by decide))
  have kpF : KP (fun _ => True) (outsM W u rs (lPairs u rs) long (long / 2)) := outs_kp _
  generalize hF : outsM W u rs (lPairs u rs) long (long / 2) = F at hM hS lF q kpF
  refine ⟨D, .dT kvs, eD, trivial, fun od => ?_⟩
  have sU : ∀ H5, Same (upd H1 D (.frz od (.dT kvs))) H5 → Same H1 (upd H5 D (.dT kvs)) := fun H5 s => unlock eD s
  have eL : (upd H1 D (.frz od (.dT kvs))) D = some (.frz od (.dT kvs)) := upd_same
  have hML : DctM (upd H1 D (.frz od (.dT kvs))) kvs F := hM.tk (TK.at_ eD fun _ z => nomatch z)
  generalize upd H1 D (.frz od (.dT kvs)) = HL at sU eL hML
  have lk : kvs.length = F.length := by
    have := congrArg List.length hM.1
    rwa [List.length_map, List.length_map] at this
  refine ⟨_, rfl, D, od, rfl, .inr ⟨kvs, eL, fun D2 hD2 => lc_walkR walk_keysT hD2 (fun _ _ _ _ y => y.1) (fun H' s => s _ _ eL) (ks := F) lk.symm (by omega) (fun p => decide (p.1.2.2 = 0)) (fun v p H => TwR H v p.2) (fun v p H2 H3 s h => ?_) (fun j x p H5 R C y hp s5 yes no => ?_) fun H5 acc5 s5 e5 f5 => ?_⟩⟩
  · obtain ⟨pa, e, h1, h2⟩ := h
    exact ⟨pa, e, s _ _ (fun _ z => by cases z) h1, h2⟩
  · obtain ⟨_, kk, v, qd, hkj, rfl, hqd⟩ := y
    have mp := List.mem_of_getElem? hp
    obtain ⟨pa, ea, ta⟩ := hML.2 p mp
    have ek : kk = key3 p.1 := by
      have e1 : (kvs.map Prod.fst)[j]? = some kk := by rw [List.getElem?_map, hkj]; rfl
      rw [hM.1, List.getElem?_map, hp] at e1
      exact (Option.some.inj e1).symm
    subst ek
    refine ⟨rfl, _, rfl, qd, _, 2, _, rfl, rfl, SqT.of hqd, rfl, rfl, _, rfl, ?_⟩
    rw [show decide (kV (Sum.inl p.1.2.2 : Key) = V.int 0) = decide (p.1.2.2 = 0) from dec_int2 _ _]
    cases hc : decide (p.1.2.2 = 0) with
    | false => exact iteF (no hc _ (Same.refl _))
    | true =>
      refine iteT ⟨_, rfl, _, rfl, D, _, rfl, .inr ⟨kvs, key3 p.1, qd, .inr ⟨od, s5 _ _ eL⟩, rfl, hqd, ea.symm⟩, ?_⟩
      exact yes hc _ _ (Same.refl _) ⟨pa, rfl, s5 _ _ ta, (hS p mp).mono (by omega)⟩
  · refine ⟨s5 _ _ eL, ?_⟩
    have s15 := sU H5 s5
    have tk5 : TK H5 (upd H5 D (.dT kvs)) := TK.at_ (s5 _ _ eL) fun _ z => nomatch z
    have e5' : (upd H5 D (.dT kvs)) D2 = some (.lst acc5) := by rw [upd_ne (ne_of_none eL hD2).symm]; exact e5
    have f5' : FF (TwR (upd H5 D (.dT kvs))) acc5 ((F.filter fun p => decide (p.1.2.2 = 0)).map Prod.snd) := FF.map (f := fun p : T3 × (Int × Int) => p.2) (f5.mono fun v p h => by
      obtain ⟨pa, e, h1, h2⟩ := h
      exact ⟨pa, e, tk5 _ _ h1, h2⟩)
    generalize upd H5 D (.dT kvs) = H6 at s15 e5' f5'
    have s06 := s1.trans s15
    refine ⟨fun σ' H' => ∃ (l6 : Addr) (vs6 : List V), σ' = [some (.ref a), some (.ref b), some (.ref f), some (.int (long : Int)), some (.ref dw), some (.ref D), some (.ref l6), none, none, none, none] ∧ Same H H' ∧ H' l6 = some (.lst vs6) ∧ FF (TwR H') vs6 (topVs W rs long F), ?_, ?_⟩
    · refine ⟨_, rfl, rfl, _, rfl, ?_⟩
      by_cases h1 : long = 1
      · rw [decide_eq_true (show V.int (long : Int) = V.int 1 by rw [h1]; rfl)]
        have ha6 := s06 _ _ ha
        have hw6 := s06 _ _ hw
        refine iteT ⟨_, rfl, a, rfl, ⟨_, SqL.of ha6⟩, fun D3 hD3 => lc_listR (K := K) (ts := rs) hD3 (SqL.of ha6) hFa.len (by omega) (fun _ => true) (fun v r H => TwR H v (W r.num)) (fun v p H2 H3 s h => ?_) (fun j x r H2 R C hx hr s2 yes no => ?_) fun H7 acc s7 e7 f7 => ?_⟩
        · obtain ⟨pa, e, h1, h2⟩ := h
          exact ⟨pa, e, s _ _ (fun _ z => by cases z) h1, h2⟩
        · obtain ⟨v, hv, t, rfl, ht⟩ := hFa.at_ hr
          rw [hv] at hx
          cases hx
          have mr := List.mem_of_getElem? hr
          obtain ⟨aw, ew, tw⟩ := hW r mr
          refine ⟨rfl, yesT ⟨_, rfl, _, rfl, t, _, 0, _, rfl, rfl, SqT.of (s2 _ _ (s06 _ _ ht)), rfl, dw, _, rfl, .inl ⟨kw, Sum.inl r.num, .inl (s2 _ _ hw6), rfl, ew.symm⟩, ?_⟩⟩
          exact yes rfl _ _ (Same.refl _) ⟨aw, rfl, s2 _ _ (s06 _ _ tw), (zW r mr).mono (by decide)⟩
        · rw [List.filter_eq_self.mpr fun _ _ => rfl] at f7
          refine ⟨D3, acc, rfl, s06.trans s7, e7, ?_⟩
          unfold topVs
          rw [if_pos h1]
          exact FF.map (f := fun r : Rw => W r.num) f7
      · rw [decide_eq_false (show ¬ V.int (long : Int) = V.int 1 from fun e => h1 (by injection e; omega))]
        refine iteF ⟨D2, acc5, rfl, s06, e5', ?_⟩
        unfold topVs
        rw [if_neg h1]
        exact f5'
    · rintro σ' H7 ⟨l6, vs6, rfl, s7, e7, f7⟩
      refine ⟨_, rfl, l6, rfl, ⟨_, SqL.of e7⟩, for_list (K := K) (a := l6) (xs := vs6) (fun i σ H' => ∃ (v7 : V) (w8 : Option V), σ = [some (.ref a), some (.ref b), some (.ref f), some (.int (long : Int)), some (.ref dw), some (.ref D), some (.ref l6), some v7, w8, none, none] ∧ Same H7 H' ∧ TopW H' v7 (((topVs W rs long F).take i).foldl maxO none)) ⟨_, _, rfl, Same.refl _, rfl⟩ (fun i σ H' _ h => ?_) ?_ ?_⟩
      · obtain ⟨_, _, _, s, _⟩ := h
        exact SqL.of (s _ _ e7)
      · rintro i v σ H8 hi ⟨v7, w8, rfl, s8, t8⟩
        obtain ⟨x, hx, pa, rfl, tx, zx⟩ := f7.get hi
        have tk : (topVs W rs long F).take (i + 1) = (topVs W rs long F).take i ++ [x] := by rw [List.take_add_one, hx]; rfl
        rw [tk, List.foldl_append]
        generalize ((topVs W rs long F).take i).foldl maxO none = o at t8
        have tx8 : TwoV H8 pa x := s8 _ _ tx
        cases o with
        | none =>
          have t8 : v7 = .non := t8
          subst t8
          refine ⟨_, rfl, rfl, ?_⟩
          rw [decide_eq_true (rfl : V.non = V.non)]
          exact ⟨_, rfl, iteT (iteT ⟨_, rfl, _, _, rfl, s8, pa, rfl, tx8, zx⟩)⟩
        | some m =>
          obtain ⟨pm, rfl, tm, zm⟩ := t8
          refine ⟨_, rfl, rfl, ?_⟩
          rw [decide_eq_false (show ¬ V.ref pm = V.non from fun z => nomatch z)]
          refine ⟨_, rfl, iteF ⟨_, rfl, _, rfl, pm, pa, m, x, 1000, 1000, rfl, tm, tx8, zm, zx, by decide, by decide, _, rfl, ?_⟩⟩
          have em : ([x] : List (Int × Int)).foldl maxO (some m) = if lLess m x = true then some x else some m := rfl
          cases hl : lLess m x with
          | true =>
            rw [em, if_pos hl]
            exact iteT ⟨_, rfl, _, _, rfl, s8, pa, rfl, tx8, zx⟩
          | false =>
            rw [em, if_neg (by rw [hl]; exact Bool.false_ne_true)]
            exact iteF ⟨_, _, rfl, s8, pm, rfl, tm, zm⟩
      · rintro σ H8 ⟨v7, w8, rfl, s8, t8⟩
        rw [f7.len, List.take_length] at t8
        exact ⟨_, rfl, q H8 v7 (s7.trans s8) t8⟩
end
end KB
namespace KB
open PySem PySem.Spec PyProof.Rows L2 KA

section
variable {P : Program} {w : World} {K : PySem.W.Frag} {mg : Str → Option Value} {base : Heap}
/-! ### the law's case -/
structure CaseAt (H : Hp) (d t f l tf : Addr) (u : Rl) (xs : List V) (rs : List Rw) (long : Nat) (g o : Int) (zs : List Int) : Prop where
  ht : H t = some (.tup [.ref f, .ref l, .int (long : Int), .ref tf, .int g, .int o])
  hf : H f = some (.tup (fourV u))
  h4 : Good4 u
  hl : H l = some (.lst xs)
  nl : l ≠ d
  hF : FF (RwF H) xs rs
  ln : rs.length ≤ 12
  nd : (rs.map Rw.num).Nodup
  gd : ∀ r ∈ rs, GoodRw r ∧ [r.sh, r.fo] ∈ ks3
  l1 : 1 ≤ long
  l9 : long ≤ 9
  htf : H tf = some (.dT (dictV (ks3.zip zs)))
  lz : zs.length = 3
  bz : ∀ x ∈ zs, 0 ≤ x ∧ x < 147573952589676412928
  g0 : g ≠ 0
  g1 : -2 ≤ g ∧ g ≤ 5
  o1 : 1 ≤ o ∧ o ≤ 3
def spCase : Sp := fun vs H Q _ => ∃ (d : Addr) (m : Int) (n : Nat), vs = [.ref d, .int m] ∧ 0 ≤ m ∧ m ≤ 12 ∧ Dr PT d n H ∧ n ≤ 1000 ∧
  ∀ (H' : Hp) (t f l tf : Addr) (u : Rl) (xs : List V) (rs : List Rw) (long : Nat) (g o : Int) (zs : List Int), But d H H' → Dr PT d (n + 200) H' → CaseAt H' d t f l tf u xs rs long g o zs → Q (.ref t) H'
theorem ok_case (T : Tx K mg) : FnOk P w K mg base CX0 4 T.A_case T.fd_case ["_law_well_here", "_law_most_here"] (spCase) := by
  refine T.F_case.ok sc_case (fun vs H Q E h => ?_) (fun cdv A outer s H vs Q E hr h => ?_)
  · obtain ⟨d, m, n, rfl, hm0, hm12, dr, hn, q⟩ := h
    rfl
  obtain ⟨d, m, n, rfl, hm0, hm12, dr, hn, q⟩ := h
  refine ⟨_, (pss_cons (ps_set (i := 2) sc_case.nd rfl (Or.inl rfl) (pe_call (ok_four T) (hr.mono (by decide)) (by rfl) T.g_four T.F_four.kp T.b_four .nil pass0 (pa_cons (pv 0) pa_nil)))
      (pss_cons (ps_set (i := 3) sc_case.nd rfl (Or.inl rfl) (pe_call (ok_rows T) (hr.mono (by decide)) (by rfl) T.g_rows T.F_rows.kp T.b_rows .nil pass0 (pa_cons (pv 0) (pa_cons (pv 2) (pa_cons (pe_call (ok_draw T) (hr.mono (by decide)) (by rfl) T.g_draw T.F_draw.kp T.b_draw .nil pass0 (pa_cons (pv 0) (pa_cons (pe_op op_add (pv 1) pe_int) pa_nil))) pa_nil)))))
      (pss_cons (ps_set (i := 4) sc_case.nd rfl (Or.inl rfl) (pe_call (ok_one T) (hr.mono (by decide)) (by rfl) T.g_one T.F_one.kp T.b_one .nil pass0 (pa_cons (pv 0) (pa_cons (pe_lst (pa_cons pe_int (pa_cons pe_int (pa_cons pe_int (pa_cons pe_int (pa_cons pe_int (pa_cons (pe_un un_neg pe_int) (pa_cons (pe_un un_neg pe_int) pa_nil)))))))) pa_nil))))
      (pss_cons (ps_set (i := 5) sc_case.nd rfl (Or.inl rfl) (pe_op op_add pe_int (pe_call (ok_draw T) (hr.mono (by decide)) (by rfl) T.g_draw T.F_draw.kp T.b_draw .nil pass0 (pa_cons (pv 0) (pa_cons pe_int pa_nil)))))
      (pss_cutJ (ps_if (pt_cmpR op_gt (pe_callB call_len_seq (by rfl) T.z_len PySem.boot_len (pa_cons (pv 3) pa_nil)) pe_int (nomark _)) (pss_one (ps_set (i := 5) sc_case.nd rfl (Or.inl rfl) (pe_callB (call_min2 rfl) (by rfl) T.z_min (by decide +kernel) (pa_cons (pv 5) (pa_cons pe_int pa_nil))))) pss_nil)
      (pss_one (ps_ret (pe_tup (pa_cons (pv 2) (pa_cons (pv 3) (pa_cons (pv 5) (pa_cons (pe_call (ok_rates T) (hr.mono (by decide)) (by rfl) T.g_rates T.F_rates.kp T.b_rates .nil pass0 (pa_cons (pv 0) pa_nil)) (pa_cons (pv 4) (pa_cons (pe_op op_add pe_int (pe_call (ok_draw T) (hr.mono (by decide)) (by rfl) T.g_draw T.F_draw.kp T.b_draw .nil pass0 (pa_cons (pv 0) (pa_cons pe_int pa_nil)))) pa_nil)))))))))))))), ?_⟩
  refine ⟨_, rfl, d, n, rfl, dr, by omega, fun H1 f u b1 dr1 hf nf h4 => ?_⟩
  refine ⟨_, rfl, _, rfl, _, rfl, _, rfl, _, _, rfl, rfl, d, m + 1, n + 7, rfl, by omega, log_tiny (by omega) (by omega), dr1, by omega, fun H2 r0 g0 g1 b2 dr2 => ?_⟩
  obtain ⟨k, rfl⟩ : ∃ k : Nat, r0 = (k : Int) := ⟨r0.toNat, by omega⟩
  refine ⟨d, f, k, n + 8, u, rfl, b2 _ _ nf hf, nf, h4, by omega, dr2, by omega, fun H3 l xs rs b3 dr3 nl3 _ hl hF lrs nd gd => ?_⟩
  refine ⟨_, rfl, _, rfl, _, rfl, (by show 7 ≤ sizeLine; decide), fun l1 hl1 => ?_⟩
  have nl1 := dr3.ne hl1
  have n3 : n + 8 + 1 + 8 * k ≤ n + 150 := by omega
  refine ⟨d, l1, n + 8 + 1 + 8 * k, [.int 1, .int 1, .int 2, .int 3, .int 5, .int (-1), .int (-2)], rfl, nl1, SqL.of upd_same, List.cons_ne_nil _ _, by show 7 ≤ 1000; decide, dr3.upd nl1, by omega, fun H4 v hv b4 dr4 => ?_⟩
  obtain ⟨g, hg, rfl⟩ := mem_ints (l := [1, 1, 2, 3, 5, -1, -2]) hv
  have qg : g ≠ 0 ∧ -2 ≤ g ∧ g ≤ 5 := by
    simp only [List.mem_cons, List.not_mem_nil, or_false] at hg
    omega
  have B34 : But d H3 H4 := (But.new hl1).trans b4
  refine ⟨_, rfl, d, 9, _, rfl, by decide, log_tiny (by decide) (by decide), dr4, by omega, fun H5 r1 g2 g3 b5 dr5 => ⟨_, _, rfl, rfl, ?_⟩⟩
  obtain ⟨k1, rfl⟩ : ∃ k : Nat, r1 = (k : Int) := ⟨r1.toNat, by omega⟩
  have B35 := B34.trans b5
  have hl5 := B35 _ _ nl3 hl
  refine ⟨fun σ' H' => ∃ long : Nat, σ' = [some (.ref d), some (.int m), some (.ref f), some (.ref l), some (.int g), some (.int (long : Int))] ∧ 1 ≤ long ∧ long ≤ 9 ∧ H' = H5, ?_, ?_⟩
  · refine ⟨_, rfl, l, _, rfl, .inl (SqL.of hl5), _, _, rfl, rfl, _, rfl, ?_⟩
    cases hc : decide ((7 : Int) < (xs.length : Int)) with
    | true =>
      refine iteT ⟨_, rfl, _, _, rfl, ?_⟩
      by_cases c : (3 : Int) < 1 + (k1 : Int)
      · rw [if_pos c]
        exact ⟨3, rfl, by decide, by decide, rfl⟩
      · rw [if_neg c]
        exact ⟨1 + k1, by rw [show ((1 + k1 : Nat) : Int) = 1 + (k1 : Int) by omega]; rfl, by omega, by omega, rfl⟩
    | false =>
      exact iteF ⟨1 + k1, by rw [show ((1 + k1 : Nat) : Int) = 1 + (k1 : Int) by omega]; rfl, by omega, by omega, rfl⟩
  · rintro σ' H6 ⟨long, rfl, l1', l9, rfl⟩
    refine ⟨_, rfl, _, rfl, _, rfl, _, rfl, d, _, rfl, dr5, by omega, fun H6 tf zs b6 dr6 ntf _ htf lz bz => ?_⟩
    refine ⟨_, rfl, _, rfl, d, 3, _, rfl, by decide, log_tiny (by decide) (by decide), dr6, by omega, fun H7 r2 g4 g5 b7 dr7 => ⟨_, _, rfl, rfl, (by show 6 ≤ sizeLine; decide), fun t ht => ?_⟩⟩
    have nt := dr7.ne ht
    have B37 := (B35.trans b6).trans b7
    have B38 := B37.trans (But.new (o := .tup [.ref f, .ref l, .int (long : Int), .ref tf, .int g, .int (1 + r2)]) ht)
    have f3 := b3 _ _ nf (b2 _ _ nf hf)
    refine q _ t f l tf u xs rs long g (1 + r2) zs ?_ ((dr7.upd nt).mono (by omega)) ⟨upd_same, B38 _ _ nf f3, h4, B38 _ _ nl3 hl, nl3, hF.mono fun v r h => h.nl (dr_nl dr3 B38), by omega, nd, gd, l1', l9, ?_, lz, bz, qg.1, qg.2, by omega⟩
    · exact ((b1.trans b2).trans b3).trans B38
    · exact same_upd ht _ _ (b7 _ _ ntf htf)
end
end KB
namespace KB
open PySem PySem.Spec PyProof.Rows L2 KA

section
variable {P : Program} {w : World} {K : PySem.W.Frag} {mg : Str → Option Value} {base : Heap}
/-! ### papers compared -/
theorem rs_mon {C : Addr} : ∀ a y b H H', Ext H H' → RS C a y b H → RS C a y b H' := fun a y b H H' e h => by
  obtain ⟨x, ⟨dx, hx⟩, p, x', hy, ⟨dy, hp⟩, hb⟩ := h
  exact ⟨x, ⟨dx, e _ _ hx⟩, p, x', hy, ⟨dy, e _ _ hp⟩, hb⟩
theorem eqB_sh {X : Cx} (T : Tx X.K X.mg) : EqB X 1 (BFO X.K T.C_Share (RS T.C_Share)) :=
  eqB_fo (E := E0) (ok_Share_eq (P := X.prog) (w := X.w) (base := X.base) T) T.m_Share_eq.at_ T.m_Share_eq.fn T.b_Share_eq pass0
theorem like_self (x : Int × Int) : likeS x x = true := by
  unfold likeS
  rw [decide_eq_true rfl, decide_eq_true rfl]
  rfl
theorem flat_int (n : Int) (H : Hp) : BFlat (.int n) (.int n) true H := ⟨rfl, rfl, by simp [eqV]⟩
theorem row_like (T : Tx K mg) {H : Hp} {v v' : V} {r : Pr × Nat × Sh} (h : RwAt T.C_Share H v r) (h' : RwAt T.C_Share H v' r) : BTupI K (BFO K T.C_Share (RS T.C_Share)) v v' true H := by
  obtain ⟨t, s, rfl, ht, ⟨ds, hs⟩⟩ := h
  obtain ⟨t', s', rfl, ht', ⟨ds', hs'⟩⟩ := h'
  refine ⟨⟨t, t', _, _, fun _ => true, rfl, rfl, SqT.of ht, SqT.of ht', fun j v1 v2 h1 h2 => ?_, by rw [allF_true fun _ _ => rfl]; rfl⟩, fun _ => rfl⟩
  match j, h1, h2 with
  | 0, h1, h2 =>
    cases h1
    cases h2
    exact .inl (flat_int _ H)
  | 1, h1, h2 =>
    cases h1
    cases h2
    exact .inl (flat_int _ H)
  | 2, h1, h2 =>
    cases h1
    cases h2
    exact .inl (flat_int _ H)
  | 3, h1, h2 =>
    cases h1
    cases h2
    exact .inr ⟨s, ds, _, _, rfl, hs, T.i_Share.ty T.cl_Share hs', by simp [PySem.W.notFirst], ⟨_, ⟨ds, hs⟩, s', _, rfl, ⟨ds', hs'⟩, (like_self _).symm⟩, fun _ => rfl⟩
  | j + 4, h1, _ => exact nomatch h1
theorem rows_like (T : Tx K mg) {H : Hp} {p q : Addr} {xs ys : List V} {L : List (Pr × Nat × Sh)} (hp : H p = some (.lst xs)) (hq : H q = some (.lst ys)) (fx : FF (RwAt T.C_Share H) xs L) (fy : FF (RwAt T.C_Share H) ys L) : BList (BTupI K (BFO K T.C_Share (RS T.C_Share))) (.ref p) (.ref q) true H := by
  refine ⟨p, q, xs, ys, fun _ => true, rfl, rfl, hp, hq, fun _ i x y hx hy => ?_, by rw [allF_true fun _ _ => rfl, decide_eq_true (fx.len.trans fy.len.symm)]; rfl⟩
  obtain ⟨r, hr, h⟩ := fx.get hx
  obtain ⟨r', hr', h'⟩ := fy.get hy
  rw [hr] at hr'
  cases hr'
  exact row_like T h h'
/-- triples of whole numbers -/
def TriV (H : Hp) (v : V) (t : T3) : Prop := ∃ a, v = .ref a ∧ H a = some (.tup [.int t.1, .int t.2.1, .int t.2.2])
theorem keys_like {H : Hp} {p q : Addr} {xs ys : List V} {L : List T3} (hp : H p = some (.lst xs)) (hq : H q = some (.lst ys)) (fx : FF (TriV H) xs L) (fy : FF (TriV H) ys L) : BList (BTupI K BFlat) (.ref p) (.ref q) true H := by
  refine ⟨p, q, xs, ys, fun _ => true, rfl, rfl, hp, hq, fun _ i x y hx hy => ?_, by rw [allF_true fun _ _ => rfl, decide_eq_true (fx.len.trans fy.len.symm)]; rfl⟩
  obtain ⟨r, hr, a, rfl, ha⟩ := fx.get hx
  obtain ⟨r', hr', a', rfl, ha'⟩ := fy.get hy
  rw [hr] at hr'
  cases hr'
  refine ⟨⟨a, a', _, _, fun _ => true, rfl, rfl, SqT.of ha, SqT.of ha', fun j v1 v2 h1 h2 => ?_, by rw [allF_true fun _ _ => rfl]; rfl⟩, fun _ => rfl⟩
  match j, h1, h2 with
  | 0, h1, h2 =>
    cases h1
    cases h2
    exact flat_int _ H
  | 1, h1, h2 =>
    cases h1
    cases h2
    exact flat_int _ H
  | 2, h1, h2 =>
    cases h1
    cases h2
    exact flat_int _ H
  | j + 3, h1, _ => exact nomatch h1
end
end KB
namespace KB
open PySem PySem.Spec PyProof.Rows L2 KA

section
variable {P : Program} {w : World} {K : PySem.W.Frag} {mg : Str → Option Value} {base : Heap}
/-! ### the law's worths stand for the program's -/
def rateI (kvs : List (List Str × Int)) (r : Rw) : Int := match rateO kvs r with | some (.int x) => x | _ => 0
def Wof (kvs : List (List Str × Int)) (g o : Int) (rs : List Rw) (n : Int) : Int × Int := match rs.find? (fun b => decide (b.num = n)) with | some r => lWorth (rateI kvs r) r g o | none => (0, 1)
theorem Wof_at {kvs : List (List Str × Int)} {g o : Int} {rs : List Rw} (nd : (rs.map Rw.num).Nodup) {r : Rw} (hr : r ∈ rs) : Wof kvs g o rs r.num = lWorth (rateI kvs r) r g o := by
  unfold Wof
  rw [find_num nd hr]
theorem good_zip {zs : List Int} (bz : ∀ x ∈ zs, 0 ≤ x ∧ x < 147573952589676412928) : GoodT (ks3.zip zs) := fun p hp => bz _ (List.of_mem_zip hp).2
theorem rate_has {zs : List Int} (lz : zs.length = 3) (bz : ∀ x ∈ zs, 0 ≤ x ∧ x < 147573952589676412928) {r : Rw} (hr : [r.sh, r.fo] ∈ ks3) : rateO (ks3.zip zs) r = some (.int (rateI (ks3.zip zs) r)) ∧ 0 ≤ rateI (ks3.zip zs) r ∧ rateI (ks3.zip zs) r < 147573952589676412928 := by
  have key : ∃ x, rateO (ks3.zip zs) r = some (.int x) := by
    rcases rate_cases (good_zip bz) r with e | ⟨x, e, _⟩
    · exfalso
      unfold rateO at e
      have n := valV_not e
      refine n ?_
      unfold dictV
      rw [List.map_map]
      have : (ks3.zip zs).map Prod.fst = ks3 := List.map_fst_zip (by rw [lz]; decide)
      rw [show ((fun x : List Key × V => x.1) ∘ fun p : List Str × Int => (p.1.map Sum.inr, V.int p.2)) = (fun k : List Str => (k.map Sum.inr : List Key)) ∘ Prod.fst from rfl, ← List.map_map, this]
      exact List.mem_map_of_mem (f := fun k : List Str => (k.map Sum.inr : List Key)) hr
    · exact ⟨x, e⟩
  obtain ⟨x, e⟩ := key
  have ei : rateI (ks3.zip zs) r = x := by
    unfold rateI
    rw [e]
  rcases rate_cases (good_zip bz) r with e' | ⟨y, e', b⟩
  · rw [e] at e'
    cases e'
  · rw [e] at e'
    have e' : x = y := by injection e' with h; injection h
    rw [ei]
    refine ⟨e, ?_⟩
    rw [e']
    exact b
theorem lParts_ovr (r : Rw) (g o : Int) : lParts r g o = ovr g o r := by
  unfold lParts ovr
  split
  · rfl
  · rw [Int.mul_one]
theorem worth_fr {x g o : Int} {r : Rw} (h : ovr g o r ≠ 0) : Fr (lWorth x r g o) (shr (x * r.we * r.we) (ovr g o r)) := by
  have e2 : x * r.we ^ 2 = x * r.we * r.we := by
    rw [Int.pow_succ, Int.pow_succ, Int.pow_zero, Int.one_mul, Int.mul_assoc]
  unfold lWorth
  rw [lParts_ovr, e2]
  by_cases c : ovr g o r < 0
  · rw [if_pos c]
    refine ⟨by show 0 < 0 - ovr g o r; omega, shr_same h (by show 0 - ovr g o r ≠ 0; omega) ?_⟩
    show x * r.we * r.we * (0 - ovr g o r) = (0 - x * r.we * r.we) * ovr g o r
    grind
  · rw [if_neg c]
    exact ⟨by show 0 < ovr g o r; omega, rfl⟩
theorem lWorth_sz {x g o : Int} {r : Rw} (x0 : 0 ≤ x) (x1 : x < 147573952589676412928) (hG : GoodRw r) (hg : Sml g) (ho : Sml o) : Sz2 110 (lWorth x r g o) := by
  have hw := whl_of hG.2.2.1
  have wz : Sz 20 r.we := sml_sz ⟨by omega, by omega⟩
  have wz2 : Sz 40 (r.we ^ 2) := by
    rw [Int.pow_succ, Int.pow_succ, Int.pow_zero, Int.one_mul]
    exact wz.mul wz
  have a : Sz 110 (x * r.we ^ 2) := ((rate_sz x0 x1).mul wz2).mono (by decide)
  have b : Sz 110 (lParts r g o) := by
    rw [lParts_ovr]
    exact (ovr_sz hg ho).mono (by decide)
  have neg : ∀ {n : Int}, Sz 110 n → Sz 110 (0 - n) := fun {n} h => by
    have h : n.natAbs < 2 ^ 110 := h
    show (0 - n).natAbs < 2 ^ 110
    rw [show (0 - n).natAbs = n.natAbs by omega]
    exact h
  unfold lWorth
  split
  · exact ⟨neg a, neg b⟩
  · exact ⟨a, b⟩
theorem due_told {kvs : List (List Str × Int)} {g o : Int} {r : Rw} {x : Int} (e : rateO kvs r = some (.int x)) (h : ovr g o r ≠ 0) : dueOf kvs g o r = .told (shr (x * r.we * r.we) (ovr g o r)) := by
  unfold dueOf
  rw [e]
  exact if_neg h
theorem ovr_ne {g o : Int} (r : Rw) (g0 : g ≠ 0) (o1 : 1 ≤ o) : ovr g o r ≠ 0 := by
  unfold ovr
  split
  · exact Int.mul_ne_zero g0 (by omega)
  · exact g0
/-- all that the law's worths are -/
theorem lk_of {u : Rl} {rs : List Rw} {long : Nat} {g o : Int} {zs : List Int} (nd : (rs.map Rw.num).Nodup) (gd : ∀ r ∈ rs, GoodRw r ∧ [r.sh, r.fo] ∈ ks3) (lz : zs.length = 3) (bz : ∀ x ∈ zs, 0 ≤ x ∧ x < 147573952589676412928) (g0 : g ≠ 0) (o1 : 1 ≤ o) :
    LkW (Wof (ks3.zip zs) g o rs) (akH u rs long (ks3.zip zs) g o) u rs long := by
  refine ⟨nd, rfl, fun r hr => ?_⟩
  rw [Wof_at nd hr]
  obtain ⟨e, _, _⟩ := rate_has lz bz (gd r hr).2
  have ne := ovr_ne r g0 o1
  have m : (r.num, toldOf (dueOf (ks3.zip zs) g o r)) ∈ (akH u rs long (ks3.zip zs) g o).ws := List.mem_map_of_mem (f := fun r => (r.num, toldOf (dueOf (ks3.zip zs) g o r))) hr
  rw [worthK_of (by show ((shsU (ks3.zip zs) g o rs).map Prod.fst).Nodup; rw [shs_fst]; exact nd) m, due_told e ne]
  exact worth_fr ne
theorem bad_none {rs : List Rw} {g o : Int} {zs : List Int} (gd : ∀ r ∈ rs, GoodRw r ∧ [r.sh, r.fo] ∈ ks3) (lz : zs.length = 3) (bz : ∀ x ∈ zs, 0 ≤ x ∧ x < 147573952589676412928) (g0 : g ≠ 0) (o1 : 1 ≤ o) : badOf (ks3.zip zs) g o rs = none := by
  unfold badOf
  rw [List.find?_eq_none]
  intro d hd
  obtain ⟨r, hr, rfl⟩ := List.mem_map.mp hd
  obtain ⟨e, _, _⟩ := rate_has lz bz (gd r hr).2
  rw [due_told e (ovr_ne r g0 o1)]
  exact Bool.false_ne_true
/-- the law's dict of worths -/
def DctW (H : Hp) (kvs : List (Key × V)) (W : Int → Int × Int) (qs : List Rw) : Prop := kvs.map Prod.fst = qs.map (fun r => (Sum.inl r.num : Key)) ∧ WAt H kvs W qs
end
end KB
namespace KB
open PySem PySem.Spec PyProof.Rows L2 KA

section
variable {P : Program} {w : World} {K : PySem.W.Frag} {mg : Str → Option Value} {base : Heap}
/-! ### by defaults -/
theorem merge_nd : ∀ (more kvs : List (Key × V)), (more.map Prod.fst).Nodup → (∀ k ∈ more.map Prod.fst, valV kvs k = none) → mergeK kvs more = kvs ++ more
  | [], kvs, _, _ => (List.append_nil _).symm
  | p :: more, kvs, nd, h => by
    rw [List.map_cons, List.nodup_cons] at nd
    have n := h p.1 (List.mem_cons_self ..)
    show mergeK (putK kvs p.1 p.2) more = _
    rw [putK_new _ n, merge_nd more _ nd.2 fun k hk => ?_]
    · rw [List.append_assoc]
      rfl
    · rw [valV_snoc _ _ _ _ n, if_neg (fun e => nd.1 (by rw [← e]; exact hk))]
      exact h k (List.mem_cons_of_mem _ hk)
def WRow (H : Hp) (W : Int → Int × Int) (v : V) (r : Rw) : Prop := ∃ t aw, v = .ref t ∧ H t = some (.tup [.int r.num, .ref aw]) ∧ TwoV H aw (W r.num)
theorem wd_pairs {K : PySem.W.Frag} {H : Hp} {W : Int → Int × Int} {acc : List V} {rs : List Rw} (h : FF (WRow H W) acc rs) : ∃ (ps : List Addr) (kvs : List (Key × V)), acc = ps.map V.ref ∧ Paired (fun p kv => SqT K H p [kV kv.1, kv.2]) ps kvs ∧ FF (fun kv r => ∃ aw, kv = ((Sum.inl r.num : Key), V.ref aw) ∧ TwoV H aw (W r.num)) kvs rs := by
  induction h with
  | nil => exact ⟨[], [], rfl, .nil, .nil⟩
  | @cons v r _ _ a _ ih =>
    obtain ⟨t, aw, rfl, h1, h2⟩ := a
    obtain ⟨ps, kvs, rfl, h3, h4⟩ := ih
    exact ⟨t :: ps, ((Sum.inl r.num : Key), V.ref aw) :: kvs, rfl, .cons (SqT.of h1) h3, .cons ⟨aw, rfl, h2⟩ h4⟩
theorem wd_dict {H : Hp} {W : Int → Int × Int} {kvs : List (Key × V)} {rs : List Rw} (h : FF (fun kv r => ∃ aw, kv = ((Sum.inl r.num : Key), V.ref aw) ∧ TwoV H aw (W r.num)) kvs rs) (nd : (rs.map Rw.num).Nodup) : mergeK [] kvs = kvs ∧ WAt H kvs W rs := by
  have ek : kvs.map Prod.fst = rs.map fun r => (Sum.inl r.num : Key) := by
    clear nd
    induction h with
    | nil => rfl
    | cons a _ ih =>
      obtain ⟨aw, rfl, _⟩ := a
      rw [List.map_cons, List.map_cons, ih]
  have ndk : (kvs.map Prod.fst).Nodup := by
    rw [ek]
    have := List.Pairwise.map (S := fun a b => a ≠ b) (fun n : Int => (Sum.inl n : Key)) (fun a b h e => h (Sum.inl.inj e)) nd
    rwa [List.map_map] at this
  refine ⟨(merge_nd kvs [] ndk fun _ _ => rfl).trans (List.nil_append _), fun r hr => ?_⟩
  obtain ⟨i, hi, rfl⟩ := List.mem_iff_getElem.mp hr
  obtain ⟨kv, hkv, aw, rfl, h2⟩ := h.at_ (List.getElem?_eq_getElem hi)
  exact ⟨aw, valV_at ndk hkv, h2⟩
theorem shares_ok {top : Option (Int × Int)} {y : Sh} (hz : ∀ z, top = some z → z.2 ≠ 0 ∧ Sz2 1000 z) (hy : Ok 110 y) : ∀ c ∈ lShares top y, Ok 2000 c.1 := by
  have o9 : Ok 110 (shr 1 9) := by
    have sz := shr_sz (k := 110) (n := 1) (d := 9) (by decide) (show (1 : Int).natAbs < 2 ^ 110 by decide) (show (9 : Int).natAbs < 2 ^ 110 by decide)
    exact ⟨shr_pos (by decide), sz.1, sz.2⟩
  intro c hc
  cases top with
  | none =>
    rcases List.mem_cons.mp hc with rfl | hc
    · have sz := shr_sz (k := 110) (n := 0) (d := 1) (by decide) (show (0 : Int).natAbs < 2 ^ 110 by decide) (show (1 : Int).natAbs < 2 ^ 110 by decide)
      exact Ok.mono (k := 110) ⟨shr_pos (by decide), sz.1, sz.2⟩ (by decide)
    · rw [List.mem_singleton.mp hc]
      exact hy.mono (by decide)
  | some z =>
    obtain ⟨z0, z1, z2⟩ := hz z rfl
    have oz : Ok 1000 (shr z.1 z.2) := by
      have sz := shr_sz (k := 1000) z0 z1 z2
      exact ⟨shr_pos z0, sz.1, sz.2⟩
    rcases List.mem_cons.mp hc with rfl | hc
    · exact oz.mono (by decide)
    · rcases List.mem_cons.mp hc with rfl | hc
      · exact (plus_szG oz hy).mono (by decide)
      · rw [List.mem_singleton.mp hc]
        have a := plus_szG hy o9
        have d0 : (shr z.1 z.2).2 * (fPlus y (shr 1 9)).2 ≠ 0 := Int.mul_ne_zero (by have := oz.1; omega) (by have := a.1; omega)
        have n1 := oz.2.1.mul a.2.2
        have n2 := (a.2.1.mul oz.2.2).mono (by decide : 221 + 1000 ≤ 1000 + 221)
        have n3 : Sz 2000 ((shr z.1 z.2).1 * (fPlus y (shr 1 9)).2 - (fPlus y (shr 1 9)).1 * (shr z.1 z.2).2) := (n1.sub n2).mono (by decide)
        have sz := shr_sz (k := 2000) d0 n3 ((oz.2.2.mul a.2.2).mono (by decide))
        exact ⟨shr_pos d0, sz.1, sz.2⟩
theorem inp_of {CB CR : Addr} {H : Hp} {b m tf : Addr} {long : Nat} {g o : Int} {xs : List V} {rs : List Rw} {u : Rl} {zs : List Int} (hb : H b = some (.lst xs)) (hB : BdL CB H xs rs) (hm : RuleAt CR H m u) (nd : (rs.map Rw.num).Nodup) (ln : rs.length ≤ 12) (l9 : long ≤ 9) (gd : ∀ r ∈ rs, GoodRw r ∧ [r.sh, r.fo] ∈ ks3) (ht : H tf = some (.dT (dictV (ks3.zip zs)))) (bz : ∀ x ∈ zs, 0 ≤ x ∧ x < 147573952589676412928) (hg : -2 ≤ g ∧ g ≤ 5) (ho : 1 ≤ o ∧ o ≤ 3) : Inp CB CR H b m tf long g o xs rs u (ks3.zip zs) :=
  ⟨hb, hB, hm, nd, by omega, by omega, fun r hr => (gd r hr).1, ht, good_zip bz, ⟨by omega, by omega⟩, ⟨by omega, by omega⟩⟩
theorem err_none {C0 C1 C2 : Addr} {E : XK} {H : Hp} {g o : Int} {rs : List Rw} {u : Rl} {kvs : List (List Str × Int)} (h : u.far < u.lo) (n : badOf kvs g o rs = none) : ErrOf C0 C1 C2 E H g o rs u kvs := ⟨fun z => absurd h z, fun _ d e => by rw [n] at e; cases e⟩
theorem prow_of {K : PySem.W.Frag} {CS : Addr} {H : Hp} {W : Int → Int × Int} {k : Ak} {u : Rl} {rs : List Rw} {long : Nat} (h : LkW W k u rs long) {acc : List V} (fl : FF (RwAt CS H) acc (rowsL k k.hv)) : FF (PRow K CS k H) acc ((rowsL k k.hv).map some) := by
  refine FF.of (by rw [List.length_map]; exact fl.len) fun i v x hv hx => ?_
  rw [List.getElem?_map, Option.map_eq_some_iff] at hx
  obtain ⟨r, hr, rfl⟩ := hx
  obtain ⟨v', hv', t, s, rfl, ht, hs⟩ := fl.at_ hr
  rw [hv] at hv'
  cases hv'
  obtain ⟨_, h2, h3⟩ := (mem_rows (Nat.le_refl _)).mp (List.mem_of_getElem? hr)
  exact .row (z := r.1) (o := r.2.1) (x := r.2.2) ht hs h2 ((lvl_sub k _).subset (List.mem_map_of_mem (f := Prod.fst) h3))
theorem rows_ok {k : Ak} (hG : GoodAk k) (h4 : k.hv ≤ 4) : ∀ r, some r ∈ (rowsL k k.hv).map some → Ok 1770 r.2.2 := fun r hr => by
  obtain ⟨r', hr', e⟩ := List.mem_map.mp hr
  cases e
  obtain ⟨_, h2, h3⟩ := (mem_rows (Nat.le_refl _)).mp hr'
  exact Ok.mono (lvl_ok hG _ _ h3) (by omega)
theorem bars_due {W : Int → Int × Int} {k : Ak} {u : Rl} {rs : List Rw} {long : Nat} (h : LkW W k u rs long) (hw : k.ws.map Prod.fst = rs.map Rw.num) (l1 : 1 ≤ long) {yq y : Int × Int} (fy : Fr yq y) (y0 : 0 ≤ yq.1) : ∀ c ∈ lShares (lTop W rs long (outsM W u rs (lPairs u rs) long (long / 2))) y, barsO k long c.1 (putRows ((rowsL k k.hv).map some) (List.replicate k.hv [])) = c.2 := by
  intro c hc
  rw [bars_own (lvl_nd h) h.hv l1]
  have tr := top_rel h hw l1
  have ts := top_sets h hw l1
  rw [← h.hv] at hc
  exact due_shares tr (fun s hs => by
    obtain ⟨v, _, f⟩ := ts.2 s hs
    exact ⟨v, f⟩) fy y0 c hc
theorem top_pos {W : Int → Int × Int} {k : Ak} {u : Rl} {rs : List Rw} {long : Nat} (h : LkW W k u rs long) (hw : k.ws.map Prod.fst = rs.map Rw.num) (l1 : 1 ≤ long) {z : Int × Int} (e : lTop W rs long (outsM W u rs (lPairs u rs) long (long / 2)) = some z) : z.2 ≠ 0 := by
  have tr := top_rel h hw l1
  rw [h.hv] at tr
  rcases tr with ⟨_, e2⟩ | ⟨_, m, e2, f⟩
  · rw [e] at e2
    cases e2
  · rw [e] at e2
    cases e2
    have := f.1
    omega
theorem TopW.topV {H : Hp} {v : V} {o : Option (Int × Int)} (h : TopW H v o) (p : ∀ z, o = some z → z.2 ≠ 0) : TopV H v o := by
  cases o with
  | none => exact h
  | some z =>
    obtain ⟨a, e, h1, h2⟩ := h
    exact ⟨a, e, h1, p z rfl, h2.1, h2.2⟩
structure DefAt (CB CR : Addr) (H : Hp) (b m tf f l : Addr) (long : Nat) (bs xs : List V) (rs : List Rw) (u : Rl) (zs : List Int) : Prop where
  hb : H b = some (.lst bs)
  hB : BdL CB H bs rs
  hm : RuleAt CR H m u
  ht : H tf = some (.dT (dictV (ks3.zip zs)))
  hf : H f = some (.tup (fourV u))
  hl : H l = some (.lst xs)
  hF : FF (RwF H) xs rs
  ln : rs.length ≤ 12
  nd : (rs.map Rw.num).Nodup
  gd : ∀ r ∈ rs, GoodRw r ∧ [r.sh, r.fo] ∈ ks3
  h4 : Good4 u
  l1 : 1 ≤ long
  l9 : long ≤ 9
  lz : zs.length = 3
  bz : ∀ x ∈ zs, 0 ≤ x ∧ x < 147573952589676412928
def spByDef (CB CR : Addr) : Sp := fun vs H Q _ => ∃ (b m tf f l : Addr) (long : Nat) (bs xs : List V) (rs : List Rw) (u : Rl) (zs : List Int), vs = [.ref b, .ref m, .int (long : Int), .ref tf, .ref f, .ref l] ∧ DefAt CB CR H b m tf f l long bs xs rs u zs ∧ ∀ H', Same H H' → Q (.bl true) H'
theorem ok_by_defaults (T : Tx K mg) : FnOk P w K mg base CX0 21 T.A_by_defaults T.fd_by_defaults ["_law_beads_here", "_law_rule", "_law_long", "_law_rates_here", "_law_four_here", "_law_rows_here"] (spByDef T.C_Bead T.C_Rule) := by
  refine T.F_by_defaults.ok sc_by_defaults (fun vs H Q E h => ?_) (fun cdv A outer s H vs Q E hr h => ?_)
  · obtain ⟨b, m, tf, f, l, long, bs, xs, rs, u, zs, rfl, ⟨hb, hB, hm, ht, hf, hl, hF, ln, nd, gd, h4, l1, l9, lz, bz⟩, q⟩ := h
    rfl
  obtain ⟨b, m, tf, f, l, long, bs, xs, rs, u, zs, rfl, ⟨hb, hB, hm, ht, hf, hl, hF, ln, nd, gd, h4, l1, l9, lz, bz⟩, q⟩ := h
  refine ⟨_, (pss_cons (ps_set (i := 6) sc_by_defaults.nd rfl (Or.inl rfl) (pe_callTy (call_dictP rfl) (by rfl) T.z_dict (by decide +kernel) (pa_cons (pe_lc (own := [("_law_row", 12)]) (g := gName 12) (tt := tYes) rfl sc_by_defaults.nd (pi_list (pv 5)) (blkOk_by (N := ["_law_beads_here", "_law_rule", "_law_long", "_law_rates_here", "_law_four_here", "_law_rows_here", "_law_worths", "_law_top_here", "_law_paper", "_law_other", "_law_share", "_law_is_due", "_law_row"]) (sc := defScope s_by_defaults) (by decide +kernel)) (fun _ _ _ _ _ => (pg_name (i := 12) sc_by_defaults.nd rfl (Or.inl rfl))) (fun _ _ _ _ _ => pts_nil) (fun _ _ _ _ _ => (pe_tup (pa_cons (pe_ix (ix_tupK (K' := K) rfl) (pv 12) pe_int (fun _ _ => rfl)) (pa_cons (pe_call (ok_Lworth T) (hr.mono (by decide)) (by rfl) T.g_Lworth T.F_Lworth.kp T.b_Lworth .nil pass0 (pa_cons (pv 12) (pa_cons (pv 3) (pa_cons pe_int (pa_cons pe_int pa_nil))))) pa_nil))))) pa_nil)))
      (pss_cons (ps_set (i := 7) sc_by_defaults.nd rfl (Or.inl rfl) (pe_call (ok_top T) (hr.mono (by decide)) (by rfl) T.g_top T.F_top.kp T.b_top .nil pass0 (pa_cons (pv 5) (pa_cons (pe_call (ok_pairs T) (hr.mono (by decide)) (by rfl) T.g_pairs T.F_pairs.kp T.b_pairs .nil pass0 (pa_cons (pv 5) (pa_cons (pv 4) pa_nil))) (pa_cons (pv 4) (pa_cons (pv 2) (pa_cons (pv 6) pa_nil)))))))
      (pss_cons (ps_set (i := 8) sc_by_defaults.nd rfl (Or.inl rfl) (pe_call (ok_best_paper T) (hr.mono (by decide)) (by rfl) T.g_best_paper T.F_best_paper.kp T.bd4_best_paper T.hd4_best_paper passF (pa_cons (pv 0) (pa_cons (pv 1) (pa_cons (pv 2) (pa_cons (pv 3) pa_nil))))))
      (pss_cons (ps_for PassesOwn.never rfl (pi_tup (pe_tup (pa_cons (pe_call (ok_best_paper T) (hr.mono (by decide)) (by rfl) T.g_best_paper T.F_best_paper.kp T.bd5_best_paper T.hd5_best_paper passF (pa_cons (pv 0) (pa_cons (pv 1) (pa_cons (pv 2) (pa_cons (pv 3) (pa_cons pe_int pa_nil)))))) (pa_cons (pe_callN (E := E0) (ok_best_paper T) (hr.mono (by decide)) (by rfl) T.g_best_paper T.F_best_paper.kp T.kb_1 passF (pa_cons (pv 0) (pa_cons (pv 1) (pa_cons (pv 2) (pa_cons (pv 3) pa_nil)))) (pk_cons pe_int pk_nil)) pa_nil)))) (pg_name (i := 9) sc_by_defaults.nd rfl (Or.inl rfl))
        (pss_one (ps_if (PW.pt (pw_or (pt_cmpR (op_neB (rcB_list true (monB_tupI (monB_fo rs_mon)) (eqB_tupI (monB_fo rs_mon) (eqB_sh T))) (hr.mono (by decide))) (pv 9) (pv 8) (nomark _)) (pw_or1 (pt_cmpR (op_neB (rcB_list true (monB_tupI (monB_fo rs_mon)) (eqB_tupI (monB_fo rs_mon) (eqB_sh T))) (hr.mono (by decide))) (pv 8) (pe_call (E := E0) (ok_best_paper T) (hr.mono (by decide)) (by rfl) T.g_best_paper T.F_best_paper.kp T.b_best_paper .nil passF (pa_cons (pv 0) (pa_cons (pv 1) (pa_cons (pv 2) (pa_cons (pv 3) (pa_cons pe_int (pa_cons pe_int pa_nil))))))) (nomark _))))) (pss_one (ps_ret pe_bl)) pss_nil)))
      (pss_cons (ps_for PassesOwn.never rfl (pi_list (pe_call (ok_shares T) (hr.mono (by decide)) (by rfl) T.g_shares T.F_shares.kp T.b_shares .nil pass0 (pa_cons (pv 7) (pa_cons (pe_make T.mk_Share (ok_Share_init T) (hr.mono (by decide)) (by rfl) T.g_Share T.b_Share_init .nil passF (pa_cons pe_int (pa_cons pe_int pa_nil))) pa_nil)))) (pg_tup (by rfl) (pgs_cons (pg_name (i := 10) sc_by_defaults.nd rfl (Or.inl rfl)) (pgs_cons (pg_name (i := 11) sc_by_defaults.nd rfl (Or.inl rfl)) pgs_nil)))
        (pss_cons (ps_if (pt_cmpR op_ne (pe_call (ok_bars_better T) (hr.mono (by decide)) (by rfl) T.g_bars_better T.F_bars_better.kp T.bd6_bars_better T.hd6_bars_better passF (pa_cons (pv 0) (pa_cons (pv 1) (pa_cons (pv 2) (pa_cons (pv 3) (pa_cons (pv 10) (pa_cons (pv 8) pa_nil))))))) (pv 11) (nomark _)) (pss_one (ps_ret pe_bl)) pss_nil)
      (pss_one (ps_if (pt_cmpR op_ne (pe_callN (E := E0) (ok_bars_better T) (hr.mono (by decide)) (by rfl) T.g_bars_better T.F_bars_better.kp T.kb_2 passF (pa_cons (pv 0) (pa_cons (pv 1) (pa_cons (pv 2) (pa_cons (pv 3) (pa_cons (pv 10) (pa_cons (pv 8) pa_nil)))))) (pk_cons pe_int pk_nil)) (pv 11) (nomark _)) (pss_one (ps_ret pe_bl)) pss_nil))))
      (pss_one (ps_ret pe_bl))))))), ?_⟩
  have lk := lk_of (u := u) (long := long) (g := 1) (o := 2) nd gd lz bz (by decide) (by decide)
  have bn := bad_none (g := 1) (o := 2) gd lz bz (by decide) (by decide)
  have flo : u.far < u.lo := h4.2.2.2.2.2
  have zW : ∀ r ∈ rs, Sz2 110 (Wof (ks3.zip zs) 1 2 rs r.num) := fun r hr => by
    rw [Wof_at nd hr]
    obtain ⟨_, x0, x1⟩ := rate_has lz bz (gd r hr).2
    exact lWorth_sz x0 x1 (gd r hr).1 ⟨by decide, by decide⟩ ⟨by decide, by decide⟩
  refine ⟨_, rfl, l, rfl, ⟨_, SqL.of hl⟩, fun D hD => lc_listR (K := K) (ts := rs) hD (SqL.of hl) hF.len (by omega) (fun _ => true) (fun v r H => WRow H (Wof (ks3.zip zs) 1 2 rs) v r) (fun v r H1 H2 s h => ?_) (fun j x r H2 R C hx hr s2 yes no => ?_) fun H2 acc s2 e2 f2 => ?_⟩
  · obtain ⟨t, aw, e, h1, h2⟩ := h
    exact ⟨t, aw, e, s _ _ (fun _ z => by cases z) h1, s _ _ (fun _ z => by cases z) h2⟩
  · obtain ⟨v, hv, t, rfl, htt⟩ := hF.at_ hr
    rw [hv] at hx
    cases hx
    have mr := List.mem_of_getElem? hr
    obtain ⟨er, x0, x1⟩ := rate_has lz bz (gd r mr).2
    refine ⟨rfl, yesT ⟨_, rfl, t, _, 0, _, rfl, rfl, SqT.of (s2 _ _ htt), rfl, _, rfl, _, rfl, t, tf, r, ks3.zip zs, rateI (ks3.zip zs) r, 1, 2, rfl, s2 _ _ htt, (gd r mr).1, s2 _ _ ht, er, x0, x1, ⟨by decide, by decide⟩, ⟨by decide, by decide⟩, fun H3 p s3 e3 => ⟨(by show 2 ≤ sizeLine; decide), fun t2 ht2 => ?_⟩⟩⟩
    exact yes rfl _ _ (s3.trans (same_upd ht2)) ⟨t2, p, rfl, upd_same, same_upd ht2 _ _ (by rw [Wof_at nd mr]; exact e3)⟩
  · rw [List.filter_eq_self.mpr fun _ _ => rfl] at f2
    obtain ⟨ps, kvs, rfl, hps, hkv⟩ := wd_pairs (K := K) f2
    obtain ⟨em, hW⟩ := wd_dict hkv nd
    have hk : (akH u rs long (ks3.zip zs) 1 2).ws.map Prod.fst = rs.map Rw.num := shs_fst ..
    have hv4 : (akH u rs long (ks3.zip zs) 1 2).hv ≤ 4 := by
      rw [lk.hv]
      omega
    have inp : ∀ Hn, Same H Hn → Inp T.C_Bead T.C_Rule Hn b m tf long 1 2 bs rs u (ks3.zip zs) := fun Hn s => inp_of (s _ _ hb) (hB.nl (NL.of s)) (by obtain ⟨dm, hm⟩ := hm; exact ⟨dm, s _ _ hm⟩) nd ln l9 gd (s _ _ ht) bz (by decide) (by decide)
    have hGA : GoodAk (akH u rs long (ks3.zip zs) 1 2) := (inp H (Same.refl _)).good
    refine ⟨D, ps, kvs, rfl, SqL.of e2, hps, fun pw hpw => ?_⟩
    rw [em]
    have s3 := s2.trans (same_upd hpw (o := .dK kvs))
    have s3 : Same H (upd H2 pw (.dK kvs)) := s3
    have ew : (upd H2 pw (.dK kvs)) pw = some (.dK kvs) := upd_same
    have hW3 : WAt (upd H2 pw (.dK kvs)) kvs (Wof (ks3.zip zs) 1 2 rs) rs := fun r hr => by
      obtain ⟨aw, e1, e2⟩ := hW r hr
      exact ⟨aw, e1, same_upd hpw _ _ e2⟩
    generalize upd H2 pw (.dK kvs) = H3 at s3 ew hW3
    refine ⟨_, rfl, _, rfl, _, rfl, l, f, xs, rs, u, rfl, s3 _ _ hl, hF.mono (fun v r h => h.nl (NL.of s3)), s3 _ _ hf, by omega, fun H4 lp ys s4 nlp ep fp => ?_⟩
    have s34 := s3.trans s4
    refine ⟨_, rfl, _, rfl, _, rfl, l, lp, f, pw, xs, ys, rs, u, long, Wof (ks3.zip zs) 1 2 rs, kvs, rfl, s34 _ _ hl, hF.mono (fun v r h => h.nl (NL.of s34)), by omega, ep, fp, s34 _ _ hf, s4 _ _ ew, (fun r hr => by
      obtain ⟨aw, e1, e2⟩ := hW3 r hr
      exact ⟨aw, e1, s4 _ _ e2⟩), zW, l9, fun H5 vt s5 hvt => ?_⟩
    have s05 := s34.trans s5
    refine ⟨_, rfl, _, rfl, _, rfl, _, rfl, b, m, tf, long, 1, 2, bs, rs, u, ks3.zip zs, rfl, inp H5 s05, err_none flo bn, fun _ _ H6 pl acc s6 npl epl fpl => ?_⟩
    have s06 := s05.trans s6
    refine ⟨_, rfl, _, rfl, _, rfl, _, rfl, b, m, tf, long, 1, 2, bs, rs, u, ks3.zip zs, rfl, inp H6 s06, err_none flo bn, fun _ _ H7 p1 acc1 s7 np1 ep1 fp1 => ?_⟩
    have s07 := s06.trans s7
    refine ⟨_, rfl, _, rfl, _, rfl, _, rfl, rfl, rfl, b, m, tf, long, 1, 2, bs, rs, u, ks3.zip zs, rfl, inp H7 s07, err_none flo bn, fun _ _ H8 p2 acc2 s8 np2 ep2 fp2 => ⟨(by show 2 ≤ sizeLine; decide), fun tt htt => ?_⟩⟩
    have zt := same_upd htt (o := .tup [.ref p1, .ref p2])
    have s08 := s07.trans s8
    have s09 := s08.trans zt
    have ett : (upd H8 tt (.tup [.ref p1, .ref p2])) tt = some (.tup [.ref p1, .ref p2]) := upd_same
    have k9 := ((s7.trans s8).trans zt)
    have epl9 := k9 _ _ epl
    have fpl9 : FF (RwAt T.C_Share (upd H8 tt (.tup [.ref p1, .ref p2]))) acc _ := fpl.mono fun v r h => h.nl (NL.of k9)
    have ep19 := (s8.trans zt) _ _ ep1
    have fp19 : FF (RwAt T.C_Share (upd H8 tt (.tup [.ref p1, .ref p2]))) acc1 _ := fp1.mono fun v r h => h.nl (NL.of (s8.trans zt))
    have ep29 := zt _ _ ep2
    have fp29 : FF (RwAt T.C_Share (upd H8 tt (.tup [.ref p1, .ref p2]))) acc2 _ := fp2.mono fun v r h => h.nl (NL.of zt)
    have hvt9 : TopW (upd H8 tt (.tup [.ref p1, .ref p2])) vt _ := hvt.tk (TK.of (s6.trans k9))
    generalize upd H8 tt (.tup [.ref p1, .ref p2]) = H9 at s09 ett epl9 fpl9 ep19 fp19 ep29 fp29 hvt9
    refine ⟨tt, rfl, ⟨_, SqT.of ett⟩, for_tup (K := K) (a := tt) (xs := [.ref p1, .ref p2]) (fun i σ H' => ∃ (w9 : Option V), σ = [some (.ref b), some (.ref m), some (.int (long : Int)), some (.ref tf), some (.ref f), some (.ref l), some (.ref pw), some vt, some (.ref pl), w9, none, none, none] ∧ Same H9 H') ⟨_, rfl, Same.refl _⟩ (fun i σ H' _ h => ?_) ?_ ?_⟩
    · obtain ⟨_, _, s⟩ := h
      exact SqT.of (s _ _ ett)
    · rintro i x σ H10 hi ⟨w9, rfl, s10⟩
      obtain ⟨px, ax, rfl, hpx, fpx⟩ : ∃ (px : Addr) (ax : List V), x = .ref px ∧ H9 px = some (.lst ax) ∧ FF (RwAt T.C_Share H9) ax (rowsL (akH u rs long (ks3.zip zs) 1 2) (akH u rs long (ks3.zip zs) 1 2).hv) := by
        match i, hi with
        | 0, hi => cases hi; exact ⟨p1, acc1, rfl, ep19, fp19⟩
        | 1, hi => cases hi; exact ⟨p2, acc2, rfl, ep29, fp29⟩
        | i + 2, hi => exact nomatch hi
      refine ⟨_, rfl, _, rfl, true, rows_like T (s10 _ _ hpx) (s10 _ _ epl9) (fpx.mono fun v r h => h.nl (NL.of s10)) (fpl9.mono fun v r h => h.nl (NL.of s10)), fun H11 x11 => ⟨_, rfl, iteF ?_⟩⟩
      have s011 : Same H9 H11 := fun c o e => x11 _ _ (s10 _ _ e)
      refine ⟨_, rfl, _, rfl, _, rfl, _, rfl, _, rfl, b, m, tf, long, 1, 2, bs, rs, u, ks3.zip zs, rfl, inp H11 (s09.trans s011), err_none flo bn, fun _ _ H12 p3 acc3 s12 np3 ep3 fp3 => ?_⟩
      have s012 := s011.trans s12
      refine ⟨true, rows_like T (s012 _ _ epl9) ep3 (fpl9.mono fun v r h => h.nl (NL.of s012)) fp3, fun H13 x13 => ⟨_, rfl, iteF ?_⟩⟩
      exact ⟨_, rfl, fun c o e => x13 _ _ (s012 _ _ e)⟩
    · rintro σ H10 ⟨w9, rfl, s10⟩
      refine ⟨_, rfl, fun c cc hc hcc hne => ?_⟩
      refine ⟨c, cc, 1, 3, 4, rfl, upd_same, (show (3 : Int).natAbs < 2 ^ 4 by decide), by decide, fun _ H11 h11 kp => ⟨rfl, ?_⟩, fun e => absurd e (by decide)⟩
      have s11 := made_same hc hcc kp
      have s911 : Same H9 H11 := s10.trans s11
      have o13 : Ok 110 (shr 1 3) := by
        have sz := shr_sz (k := 110) (n := 1) (d := 3) (by decide) (show (1 : Int).natAbs < 2 ^ 110 by decide) (show (3 : Int).natAbs < 2 ^ 110 by decide)
        exact ⟨shr_pos (by decide), sz.1, sz.2⟩
      have f13 : Fr (1, 3) (shr 1 3) := ⟨by decide, rfl⟩
      have tp := fun z (e : lTop (Wof (ks3.zip zs) 1 2 rs) rs long (outsM (Wof (ks3.zip zs) 1 2 rs) u rs (lPairs u rs) long (long / 2)) = some z) => top_pos lk hk l1 e
      refine ⟨vt, c, _, shr 1 3, rfl, (hvt9.tk (TK.of s911)).topV tp, h11, o13, fun H12 ls xs2 s12 els fls => ?_⟩
      have okc := shares_ok (y := shr 1 3) (fun z e => ⟨tp z e, by
        rw [e] at hvt9
        obtain ⟨_, _, _, h⟩ := hvt9
        exact h⟩) o13
      have due := bars_due lk hk l1 f13 (by decide)
      generalize lShares (lTop (Wof (ks3.zip zs) 1 2 rs) rs long (outsM (Wof (ks3.zip zs) 1 2 rs) u rs (lPairs u rs) long (long / 2))) (shr 1 3) = cs at fls okc due
      have s912 := s911.trans s12
      refine ⟨ls, rfl, ⟨_, SqL.of els⟩, for_list (K := K) (a := ls) (xs := xs2) (fun i σ H' => ∃ (w10 w11 : Option V), σ = [some (.ref b), some (.ref m), some (.int (long : Int)), some (.ref tf), some (.ref f), some (.ref l), some (.ref pw), some vt, some (.ref pl), w9, w10, w11, none] ∧ Same H12 H') ⟨_, _, rfl, Same.refl _⟩ (fun i σ H' _ h => ?_) ?_ ?_⟩
      · obtain ⟨_, _, _, s⟩ := h
        exact SqL.of (s _ _ els)
      · rintro i x σ H13 hi ⟨w10, w11, rfl, s13⟩
        obtain ⟨c', hc', t, p, rfl, ht', hp'⟩ := fls.get hi
        have mc := List.mem_of_getElem? hc'
        have fpB : ∀ Hn, Same H13 Hn → FF (PRow K T.C_Share (akH u rs long (ks3.zip zs) 1 2) Hn) acc ((rowsL (akH u rs long (ks3.zip zs) 1 2) (akH u rs long (ks3.zip zs) 1 2).hv).map some) := fun Hn sn => prow_of lk (fpl9.mono fun v r h => h.nl (NL.of ((s912.trans s13).trans sn)))
        have lpB : ((rowsL (akH u rs long (ks3.zip zs) 1 2) (akH u rs long (ks3.zip zs) 1 2).hv).map some).length ≤ 10000 := by
          rw [List.length_map]
          exact Nat.le_trans (rowsL_len hGA _) (by omega)
        have inpB : ∀ Hn, Same H13 Hn → Inp T.C_Bead T.C_Rule Hn b m tf long 1 2 bs rs u (ks3.zip zs) := fun Hn sn => inp Hn (s09.trans ((s912.trans s13).trans sn))
        have et := s13 _ _ ht'
        refine ⟨t, _, rfl, SqT.of et, rfl, _, _, rfl, _, _, rfl, rfl, ?_⟩
        refine ⟨_, rfl, _, rfl, _, rfl, _, rfl, _, rfl, _, rfl, b, m, tf, p, long, 1, 2, bs, rs, u, ks3.zip zs, c'.1, .ref pl, rfl, inpB H13 (Same.refl _), err_none flo bn, hp'.same (NL.of s13), okc c' mc, fun _ _ => .inr ⟨pl, acc, _, rfl, (s912.trans s13) _ _ epl9, fpB H13 (Same.refl _), lpB, rows_ok hGA hv4, fun H14 s14 => ?_⟩⟩
        rw [due c' mc]
        refine ⟨_, rfl, rfl, _, rfl, ?_⟩
        rw [show (!decide (V.bl c'.2 = V.bl c'.2)) = false by rw [decide_eq_true rfl]; rfl]
        refine iteF ?_
        refine ⟨_, rfl, _, rfl, _, rfl, _, rfl, _, rfl, _, rfl, rfl, rfl, b, m, tf, p, long, 1, 2, bs, rs, u, ks3.zip zs, c'.1, .ref pl, rfl, inpB H14 s14, err_none flo bn, hp'.same (NL.of (s13.trans s14)), okc c' mc, fun _ _ => .inr ⟨pl, acc, _, rfl, (s912.trans (s13.trans s14)) _ _ epl9, fpB H14 s14, lpB, rows_ok hGA hv4, fun H15 s15 => ?_⟩⟩
        rw [due c' mc]
        refine ⟨_, rfl, rfl, _, rfl, ?_⟩
        rw [show (!decide (V.bl c'.2 = V.bl c'.2)) = false by rw [decide_eq_true rfl]; rfl]
        exact iteF ⟨_, _, rfl, s13.trans (s14.trans s15)⟩
      · rintro σ H13 ⟨w10, w11, rfl, s13⟩
        exact q H13 (s09.trans (s912.trans s13))
end
end KB
namespace KB
open PySem PySem.Spec PyProof.Rows L2 KA

section
variable {P : Program} {w : World} {K : PySem.W.Frag} {mg : Str → Option Value} {base : Heap}
def key3V (H : Hp) : V → T3
  | .ref t => match H t with
    | some (.tup [.int a, .int b, .int c]) => (a, b, c)
    | _ => (0, 0, 0)
  | _ => (0, 0, 0)
theorem key3V_of {H : Hp} {v : V} {t : T3} (h : TriV H v t) : key3V H v = t := by
  obtain ⟨a, rfl, ha⟩ := h
  show (match H a with | some (.tup [.int a, .int b, .int c]) => ((a, b, c) : T3) | _ => (0, 0, 0)) = t
  rw [ha]
theorem key3_map {H : Hp} : ∀ {ys : List V} {zs : List T3}, FF (TriV H) ys zs → zs = ys.map (key3V H)
  | _, _, .nil => rfl
  | _, _, .cons h t => by rw [List.map_cons, key3V_of h, key3_map t]
theorem key3_self {H : Hp} : ∀ {ys : List V}, (∀ y ∈ ys, ∃ z, TriV H y z) → FF (TriV H) ys (ys.map (key3V H))
  | [], _ => .nil
  | y :: ys, h => by
    obtain ⟨z, hz⟩ := h y (List.mem_cons_self ..)
    refine .cons ?_ (key3_self fun x hx => h x (List.mem_cons_of_mem _ hx))
    rw [key3V_of hz]
    exact hz
theorem keys_sorted {H : Hp} {acc ks : List V} {W : Int → Int × Int} {k : Ak} {u : Rl} {rs : List Rw} {long : Nat} (h : LkW W k u rs long) (f : FF (TriV H) acc (lawKeys (outsM W u rs (lPairs u rs) long (long / 2)))) (srt : ks.Pairwise fun x y => ¬ lt3 (key3V H y) (key3V H x)) (pm : ks.Perm acc) : FF (TriV H) ks (rowKeys k k.hv) := by
  have f1 : FF (TriV H) ks (ks.map (key3V H)) := key3_self fun y hy => by
    obtain ⟨z, _, h⟩ := f2_mem f y (pm.mem_iff.mp hy)
    exact ⟨z, h⟩
  have e : ks.map (key3V H) = rowKeys k k.hv := by
    refine keys_eq h ?_ (List.pairwise_map.mpr srt)
    rw [h.hv, key3_map f]
    exact pm.map _
  rw [e] at f1
  exact f1
def spLaw (K : PySem.W.Frag) : Sp := fun vs H Q _ => ∃ (a : Addr) (ns : List Int), vs = [.ref a] ∧ SqL K H a (ns.map V.int) ∧ ns.length ≤ 63 ∧ ∀ H', Q (.bl true) H'
theorem ne_dr {PP : Int → Prop} {d c : Addr} {n : Nat} {H : Hp} {o : HO} (dr : Dr PP d n H) (h : H c = some o) (ho : ∀ xs, o ≠ .lst xs) : c ≠ d := fun z => by
  obtain ⟨_, _, _, e, _⟩ := dr
  rw [z, e] at h
  exact ho _ (Option.some.inj h).symm
theorem ok_law {f : Addr} {fd : FuncData} (T : Tx K mg) (F : Fun K "law" "law" s_law f fd) : FnOk P w K mg base CX0 32 f fd ["_law_script"] (spLaw K) := by
  refine F.ok sc_law (fun vs H Q E h => ?_) (fun cdv A outer s H vs Q E hr h => ?_)
  · obtain ⟨a, ns, rfl, hS, hlen, q⟩ := h
    rfl
  obtain ⟨a, ns, rfl, hS, hlen, q⟩ := h
  refine ⟨_, (pss_cons (ps_for PassesOwn.never rfl (pi_list (pe_op op_cat (pe_lst (pa_cons (pe_call (ok_cell_at T) (hr.mono (by decide)) (by rfl) T.g_cell_at T.F_cell_at.kp T.b_cell_at .nil pass0 (pa_cons (pv 0) (pa_cons pe_int pa_nil))) pa_nil)) (pe_slice sl_list (pv 0) (po_some pe_int) (po_some pe_int)))) (pg_name (i := 1) sc_law.nd rfl (Or.inl rfl))
        (pss_cons (ps_set (i := 2) sc_law.nd rfl (Or.inl rfl) (pe_call (ok_well T) (hr.mono (by decide)) (by rfl) T.g_well T.F_well.kp T.b_well .nil pass0 (pa_cons (pv 1) pa_nil)))
      (pss_cons (ps_asg (pe_call (ok_case T) (hr.mono (by decide)) (by rfl) T.g_case T.F_case.kp T.b_case .nil pass0 (pa_cons (pv 2) (pa_cons (pe_call (ok_one T) (hr.mono (by decide)) (by rfl) T.g_one T.F_one.kp T.b_one .nil pass0 (pa_cons (pv 2) (pa_cons (pe_lst (pa_cons pe_int (pa_cons pe_int (pa_cons pe_int (pa_cons pe_int pa_nil))))) pa_nil))) pa_nil))) (pg_tup (by rfl) (pgs_cons (pg_name (i := 3) sc_law.nd rfl (Or.inl rfl)) (pgs_cons (pg_name (i := 4) sc_law.nd rfl (Or.inl rfl)) (pgs_cons (pg_name (i := 5) sc_law.nd rfl (Or.inl rfl)) (pgs_cons (pg_name (i := 6) sc_law.nd rfl (Or.inr rfl)) (pgs_cons (pg_name (i := 7) sc_law.nd rfl (Or.inr rfl)) (pgs_cons (pg_name (i := 8) sc_law.nd rfl (Or.inr rfl)) pgs_nil))))))))
      (pss_cutJ (ps_set (i := 9) sc_law.nd rfl (Or.inl rfl) (pe_make T.mk_Rule (ok_Rule_init T) (hr.mono (by decide)) (by rfl) T.g_Rule T.b_Rule_init .nil pass0 (pa_cons (pe_ix ix_tup (pv 3) pe_int (fun _ _ => rfl)) (pa_cons (pe_ix ix_tup (pv 3) pe_int (fun _ _ => rfl)) (pa_cons (pe_ix ix_tup (pv 3) pe_int (fun _ _ => rfl)) (pa_cons (pe_ix ix_tup (pv 3) pe_int (fun _ _ => rfl)) pa_nil))))))
      (pss_cons (ps_set (i := 10) sc_law.nd rfl (Or.inl rfl) (pe_callTy (call_dictP rfl) (by rfl) T.z_dict (by decide +kernel) (pa_cons (pe_lc (own := [("_law_row", 24)]) (g := gName 24) (tt := tYes) rfl sc_law.nd (pi_list (pv 4)) (blkOk_by (N := ["_law_script", "_law_cell", "_law_well_here", "_law_four_here", "_law_rows_here", "_law_long", "_law_rates_here", "_law_unit", "_law_over", "_law_rule", "_law_worths", "_law_pairs_here", "_law_due", "_law_keys", "_law_beads_here", "_law_paper", "_law_left", "_law_right", "_law_out", "_law_share", "_law_top_here", "_law_more", "_law_is_due", "_law_kept", "_law_row", "_law_key"]) (sc := defScope s_law) (by decide +kernel)) (fun _ _ _ _ _ => (pg_name (i := 24) sc_law.nd rfl (Or.inl rfl))) (fun _ _ _ _ _ => pts_nil) (fun _ _ _ _ _ => (pe_tup (pa_cons (pe_ix (ix_tupK (K' := K) rfl) (pv 24) pe_int (fun _ _ => rfl)) (pa_cons (pe_call (ok_Lworth T) (hr.mono (by decide)) (by rfl) T.g_Lworth T.F_Lworth.kp T.b_Lworth .nil pass0 (pa_cons (pv 24) (pa_cons (pv 6) (pa_cons (pv 7) (pa_cons (pv 8) pa_nil))))) pa_nil))))) pa_nil)))
      (pss_cons (ps_set (i := 11) sc_law.nd rfl (Or.inl rfl) (pe_call (ok_pairs T) (hr.mono (by decide)) (by rfl) T.g_pairs T.F_pairs.kp T.b_pairs .nil pass0 (pa_cons (pv 4) (pa_cons (pv 3) pa_nil))))
      (pss_cutJ (ps_set (i := 12) sc_law.nd rfl (Or.inl rfl) (pe_call (ok_most T) (hr.mono (by decide)) (by rfl) T.g_most T.F_most.kp T.b_most .nil pass0 (pa_cons (pv 4) (pa_cons (pv 11) (pa_cons (pv 3) (pa_cons (pv 5) (pa_cons (pv 10) pa_nil)))))))
      (pss_cons (ps_set (i := 13) sc_law.nd rfl (Or.inl rfl) (pe_callB cr_sorted3 (by rfl) T.z_sorted (by decide +kernel) (pa_cons (pe_lock (pe_lc (own := [("_law_key", 25)]) (g := gName 25) (tt := tYes) rfl sc_law.nd (pi_keys (pv 12)) (blkOk_by (N := ["_law_script", "_law_cell", "_law_well_here", "_law_four_here", "_law_rows_here", "_law_long", "_law_rates_here", "_law_unit", "_law_over", "_law_rule", "_law_worths", "_law_pairs_here", "_law_due", "_law_keys", "_law_beads_here", "_law_paper", "_law_left", "_law_right", "_law_out", "_law_share", "_law_top_here", "_law_more", "_law_is_due", "_law_kept", "_law_row", "_law_key"]) (sc := defScope s_law) (by decide +kernel)) (fun _ _ _ _ _ => (pg_name (i := 25) sc_law.nd rfl (Or.inl rfl))) (fun _ _ _ _ _ => pts_nil) (fun _ _ _ _ _ => (pe_tup (pa_cons (pe_ix (ix_tupK (K' := K) rfl) (pv 25) pe_int (fun _ _ => rfl)) (pa_cons (pe_ix (ix_tupK (K' := K) rfl) (pv 25) pe_int (fun _ _ => rfl)) (pa_cons (pe_ix (ix_tupK (K' := K) rfl) (pv 25) pe_int (fun _ _ => rfl)) pa_nil))))))) pa_nil)))
      (pss_cons (ps_set (i := 14) sc_law.nd rfl (Or.inl rfl) (pe_call (ok_beads T) (hr.mono (by decide)) (by rfl) T.g_beads T.F_beads.kp T.b_beads .nil pass0 (pa_cons (pv 4) pa_nil)))
      (pss_cutJ (ps_set (i := 15) sc_law.nd rfl (Or.inl rfl) (pe_call (E := E0) (ok_best_paper T) (hr.mono (by decide)) (by rfl) T.g_best_paper T.F_best_paper.kp T.b_best_paper .nil passF (pa_cons (pv 14) (pa_cons (pv 9) (pa_cons (pv 5) (pa_cons (pv 6) (pa_cons (pv 7) (pa_cons (pv 8) pa_nil))))))))
      (pss_cons (ps_if (PW.pt (pw_or (pt_cmpR (op_neB (rcB_list true (monB_tupI monB_flat) (eqB_tupI monB_flat eqB_flat)) (hr.mono (by decide))) (pe_lc (own := [("_law_row", 24)]) (g := gName 24) (tt := tYes) rfl sc_law.nd (pi_list (pv 15)) (blkOk_by (N := ["_law_script", "_law_cell", "_law_well_here", "_law_four_here", "_law_rows_here", "_law_long", "_law_rates_here", "_law_unit", "_law_over", "_law_rule", "_law_worths", "_law_pairs_here", "_law_due", "_law_keys", "_law_beads_here", "_law_paper", "_law_left", "_law_right", "_law_out", "_law_share", "_law_top_here", "_law_more", "_law_is_due", "_law_kept", "_law_row", "_law_key"]) (sc := defScope s_law) (by decide +kernel)) (fun _ _ _ _ _ => (pg_name (i := 24) sc_law.nd rfl (Or.inl rfl))) (fun _ _ _ _ _ => pts_nil) (fun _ _ _ _ _ => (pe_tup (pa_cons (pe_ix (ix_tupK (K' := K) rfl) (pv 24) pe_int (fun _ _ => rfl)) (pa_cons (pe_ix (ix_tupK (K' := K) rfl) (pv 24) pe_int (fun _ _ => rfl)) (pa_cons (pe_ix (ix_tupK (K' := K) rfl) (pv 24) pe_int (fun _ _ => rfl)) pa_nil)))))) (pv 13) (nomark _)) (pw_or1 (pt_not (pt_val (pe_callB call_isi (by rfl) T.z_isinstance (by decide +kernel) (pa_cons (pv 15) (pa_cons (pe_bltn (v := .ty "list") (by rfl) T.z_list (by decide +kernel) rfl) pa_nil)))))))) (pss_one (ps_ret pe_bl)) pss_nil)
      (pss_cons (ps_for PassesOwn.never rfl (pi_list (pv 15)) (pg_tup (by rfl) (pgs_cons (pg_name (i := 16) sc_law.nd rfl (Or.inl rfl)) (pgs_cons (pg_name (i := 17) sc_law.nd rfl (Or.inl rfl)) (pgs_cons (pg_name (i := 18) sc_law.nd rfl (Or.inl rfl)) (pgs_cons (pg_name (i := 19) sc_law.nd rfl (Or.inl rfl)) pgs_nil)))))
        (pss_one (ps_if (pt_not (pt_val (pe_call (ok_is T) (hr.mono (by decide)) (by rfl) T.g_is T.F_is.kp T.b_is .nil pass0 (pa_cons (pv 19) (pa_cons (pe_dget (Nat.lt_of_le_of_lt (Nat.add_le_add_left (by decide) _) hr.units) (pv 12) (pe_tup (pa_cons (pv 16) (pa_cons (pv 17) (pa_cons (pv 18) pa_nil)))) (fun _ _ => rfl)) pa_nil))))) (pss_one (ps_ret pe_bl)) pss_nil)))
      (pss_cons (ps_set (i := 20) sc_law.nd rfl (Or.inl rfl) (pe_call (ok_top T) (hr.mono (by decide)) (by rfl) T.g_top T.F_top.kp T.b_top .nil pass0 (pa_cons (pv 4) (pa_cons (pv 11) (pa_cons (pv 3) (pa_cons (pv 5) (pa_cons (pv 10) pa_nil)))))))
      (pss_cutJ (ps_set (i := 21) sc_law.nd rfl (Or.inl rfl) (pe_make T.mk_Share (ok_Share_init T) (hr.mono (by decide)) (by rfl) T.g_Share T.b_Share_init .nil passF (pa_cons (pe_call (ok_draw T) (hr.mono (by decide)) (by rfl) T.g_draw T.F_draw.kp T.b_draw .nil pass0 (pa_cons (pv 2) (pa_cons pe_int pa_nil))) (pa_cons (pe_op op_add pe_int (pe_call (ok_draw T) (hr.mono (by decide)) (by rfl) T.g_draw T.F_draw.kp T.b_draw .nil pass0 (pa_cons (pv 2) (pa_cons pe_int pa_nil)))) pa_nil))))
      (pss_cons (ps_for PassesOwn.never rfl (pi_list (pe_call (ok_shares T) (hr.mono (by decide)) (by rfl) T.g_shares T.F_shares.kp T.b_shares .nil pass0 (pa_cons (pv 20) (pa_cons (pv 21) pa_nil)))) (pg_tup (by rfl) (pgs_cons (pg_name (i := 19) sc_law.nd rfl (Or.inl rfl)) (pgs_cons (pg_name (i := 22) sc_law.nd rfl (Or.inl rfl)) pgs_nil)))
        (pss_one (ps_if (pt_cmpR op_ne (pe_callN (E := E0) (ok_bars_better T) (hr.mono (by decide)) (by rfl) T.g_bars_better T.F_bars_better.kp T.kb_3 passF (pa_cons (pv 14) (pa_cons (pv 9) (pa_cons (pv 5) (pa_cons (pv 6) (pa_cons (pv 19) (pa_cons (pv 15) (pa_cons (pv 7) pa_nil))))))) (pk_cons (pv 8) pk_nil)) (pv 22) (nomark _)) (pss_one (ps_ret pe_bl)) pss_nil)))
      (pss_cons (ps_set (i := 23) sc_law.nd rfl (Or.inl rfl) (pe_callTy call_list_of (by rfl) T.z_list (by decide +kernel) (pa_cons (pv 15) pa_nil)))
      (pss_cons (ps_expr (pe_bm PySem.F.plainAttrs_list PySem.F.slot_list_append PySem.F.type_list_append mt_append (pv 15) (pa_cons pe_non pa_nil)))
      (pss_cons (ps_if (pt_cmpR (op_neB (rcB_list true (monB_tupI (monB_fo rs_mon)) (eqB_tupI (monB_fo rs_mon) (eqB_sh T))) (hr.mono (by decide))) (pe_callN (E := E0) (ok_best_paper T) (hr.mono (by decide)) (by rfl) T.g_best_paper T.F_best_paper.kp T.kb_4 passF (pa_cons (pv 14) (pa_cons (pv 9) (pa_cons (pv 5) (pa_cons (pv 6) pa_nil)))) (pk_cons (pv 7) (pk_cons (pv 8) pk_nil))) (pv 23) (nomark _)) (pss_one (ps_ret pe_bl)) pss_nil)
      (pss_one (ps_if (pt_not (pt_val (pe_call (ok_by_defaults T) (hr.mono (by decide)) (by rfl) T.g_by_defaults T.F_by_defaults.kp T.b_by_defaults .nil pass0 (pa_cons (pv 14) (pa_cons (pv 9) (pa_cons (pv 5) (pa_cons (pv 6) (pa_cons (pv 3) (pa_cons (pv 4) pa_nil))))))))) (pss_one (ps_ret pe_bl)) pss_nil))))))))))))))))))))
      (pss_one (ps_ret pe_bl))), ?_⟩
  refine ⟨_, rfl, a, ns, rfl, hS, (by show 1 ≤ sizeLine; decide), fun p hp => ?_⟩
  have s1 : Same H (upd H p (.lst [.int (ns.headD 0)])) := same_upd hp
  refine ⟨_, rfl, _, rfl, _, rfl, a, _, rfl, s1.seq hS, fun p2 hp2 => ?_⟩
  have s2 : Same (upd H p (.lst [.int (ns.headD 0)])) (upd (upd H p (.lst [.int (ns.headD 0)])) p2 (.lst (cutV (ns.map V.int) (some 1) (some 2)))) := same_upd hp2
  have hcut : (cutV (ns.map V.int) (some 1) (some 2)).length ≤ 63 := by
    have := len_cut (ns.map V.int) (some 1) (some 2)
    rw [List.length_map] at this
    omega
  refine ⟨p, p2, _, _, rfl, rfl, s2 _ _ upd_same, upd_same, sz _ (by rw [List.length_singleton]; omega), fun p3 hp3 => ?_⟩
  refine ⟨p3, rfl, ⟨_, SqL.of upd_same⟩, for_list (K := K) (a := p3) (xs := [V.int (ns.headD 0)] ++ cutV (ns.map V.int) (some 1) (some 2)) (fun i σ H' => ∃ w1 w2 w3 w4 w5 w6 w7 w8 w9 w10 w11 w12 w13 w14 w15 w16 w17 w18 w19 w20 w21 w22 w23, σ = [some (.ref a), w1, w2, w3, w4, w5, w6, w7, w8, w9, w10, w11, w12, w13, w14, w15, w16, w17, w18, w19, w20, w21, w22, w23, none, none] ∧ H' p3 = some (.lst ([V.int (ns.headD 0)] ++ cutV (ns.map V.int) (some 1) (some 2)))) ⟨_, _, _, _, _, _, _, _, _, _, _, _, _, _, _, _, _, _, _, _, _, _, _, rfl, upd_same⟩ (fun i σ H' _ h => ?_) ?_ ?_⟩
  · obtain ⟨_, _, _, _, _, _, _, _, _, _, _, _, _, _, _, _, _, _, _, _, _, _, _, _, e⟩ := h
    exact SqL.of e
  rotate_left
  · rintro σ H' ⟨w1, w2, w3, w4, w5, w6, w7, w8, w9, w10, w11, w12, w13, w14, w15, w16, w17, w18, w19, w20, w21, w22, w23, rfl, e0⟩
    exact q H'
  rintro i x σ H0 hi ⟨w1, w2, w3, w4, w5, w6, w7, w8, w9, w10, w11, w12, w13, w14, w15, w16, w17, w18, w19, w20, w21, w22, w23, rfl, e0⟩
  obtain ⟨cell, rfl⟩ := cells_int hi
  refine ⟨_, rfl, cell, rfl, fun d H1 hd t1 dr1 => ?_⟩
  have np3 : p3 ≠ d := ne_of_none e0 hd
  have e1 := t1 _ _ e0
  refine ⟨_, rfl, _, rfl, (by show 4 ≤ sizeLine; decide), fun m1 hm1 => ?_⟩
  have nm1 := dr1.ne hm1
  refine ⟨d, m1, 0, [.int 6, .int 6, .int 6, .int 12], rfl, nm1, SqL.of upd_same, List.cons_ne_nil _ _, by show 4 ≤ 1000; decide, dr1.upd nm1, by omega, fun H2 v hv b2 dr2 => ?_⟩
  obtain ⟨mo, hmo, rfl⟩ := mem_ints (l := [6, 6, 6, 12]) hv
  have qmo : 0 ≤ mo ∧ mo ≤ 12 := by
    simp only [List.mem_cons, List.not_mem_nil, or_false] at hmo
    omega
  have e2 := b2 _ _ np3 (same_upd hm1 _ _ e1)
  refine ⟨d, mo, _, rfl, qmo.1, qmo.2, dr2, by omega, fun HC t f l tf u xs rs long g o zs b3 dr3 hC => ?_⟩
  have e3 := b3 _ _ np3 e2
  clear e0 e1 e2 b2 b3 t1
  refine ⟨t, _, rfl, SqT.of hC.ht, rfl, _, _, rfl, _, _, rfl, _, _, rfl, _, _, rfl, _, _, rfl, _, _, rfl, rfl, ?_⟩
  have h4 := hC.h4
  refine ⟨fun σ' H' => ∃ m, σ' = [some (.ref a), some (.int cell), some (.ref d), some (.ref f), some (.ref l), some (.int (long : Int)), some (.ref tf), some (.int g), some (.int o), some (.ref m), w10, w11, w12, w13, w14, w15, w16, w17, w18, w19, w20, w21, w22, w23, none, none] ∧ Same HC H' ∧ RuleAt T.C_Rule H' m u, ?_, ?_⟩
  · refine ⟨_, rfl, f, _, 0, _, rfl, rfl, SqT.of hC.hf, rfl, _, rfl, f, _, 1, _, rfl, rfl, SqT.of hC.hf, rfl, _, rfl, f, _, 2, _, rfl, rfl, SqT.of hC.hf, rfl, _, rfl, f, _, 3, _, rfl, rfl, SqT.of hC.hf, rfl, fun m dm hm hdm hmne => ?_⟩
    refine ⟨m, dm, u, rfl, upd_same, ⟨by have := h4.1; omega, h4.2.2.1, h4.2.2.2.2.1⟩, fun HR hru kr => ⟨rfl, ?_⟩⟩
    exact ⟨m, rfl, made_same hm hdm kr, hru⟩
  rintro σ' HR ⟨m, rfl, sR, hru⟩
  obtain ⟨ht, hf, _, hl, nl, hF, ln, nd, gd, l1, l9, htf, lz, bz, g0, g1, o1⟩ := hC
  have lk := lk_of (u := u) (long := long) nd gd lz bz g0 o1.1
  have bn := bad_none gd lz bz g0 o1.1
  have flo : u.far < u.lo := h4.2.2.2.2.2
  have smg : Sml g := ⟨by omega, by omega⟩
  have smo : Sml o := ⟨by omega, by omega⟩
  have zW : ∀ r ∈ rs, Sz2 110 (Wof (ks3.zip zs) g o rs r.num) := fun r hr => by
    rw [Wof_at nd hr]
    obtain ⟨_, x0, x1⟩ := rate_has lz bz (gd r hr).2
    exact lWorth_sz x0 x1 (gd r hr).1 smg smo
  have hk : (akH u rs long (ks3.zip zs) g o).ws.map Prod.fst = rs.map Rw.num := shs_fst ..
  have hv4 : (akH u rs long (ks3.zip zs) g o).hv ≤ 4 := by
    rw [lk.hv]
    omega
  have hlR := sR _ _ hl
  refine ⟨_, rfl, l, rfl, ⟨_, SqL.of hlR⟩, fun D hD => lc_listR (K := K) (ts := rs) hD (SqL.of hlR) hF.len (by omega) (fun _ => true) (fun v r H => WRow H (Wof (ks3.zip zs) g o rs) v r) (fun v r H1 H2 s h => ?_) (fun j x r H2 R C hx hr s2 yes no => ?_) fun H2 acc s2 e2 f2 => ?_⟩
  · obtain ⟨t, aw, e, h1, h2⟩ := h
    exact ⟨t, aw, e, s _ _ (fun _ z => by cases z) h1, s _ _ (fun _ z => by cases z) h2⟩
  · obtain ⟨v, hv, t, rfl, htt⟩ := hF.at_ hr
    rw [hv] at hx
    cases hx
    have mr := List.mem_of_getElem? hr
    have htt2 := s2 _ _ (sR _ _ htt)
    obtain ⟨er, x0, x1⟩ := rate_has lz bz (gd r mr).2
    refine ⟨rfl, yesT ⟨_, rfl, t, _, 0, _, rfl, rfl, SqT.of htt2, rfl, _, rfl, _, rfl, _, rfl, _, rfl, t, tf, r, ks3.zip zs, rateI (ks3.zip zs) r, g, o, rfl, htt2, (gd r mr).1, s2 _ _ (sR _ _ htf), er, x0, x1, smg, smo, fun H3 p s3 e3 => ⟨(by show 2 ≤ sizeLine; decide), fun t2 ht2 => ?_⟩⟩⟩
    exact yes rfl _ _ (s3.trans (same_upd ht2)) ⟨t2, p, rfl, upd_same, same_upd ht2 _ _ (by rw [Wof_at nd mr]; exact e3)⟩
  rw [List.filter_eq_self.mpr fun _ _ => rfl] at f2
  obtain ⟨ps, kvs, rfl, hps, hkv⟩ := wd_pairs (K := K) f2
  obtain ⟨em, hW⟩ := wd_dict hkv nd
  refine ⟨D, ps, kvs, rfl, SqL.of e2, hps, fun pw hpw => ?_⟩
  rw [em]
  have sC3 : Same HC (upd H2 pw (.dK kvs)) := sR.trans (s2.trans (same_upd hpw))
  have hu3 : RuleAt T.C_Rule (upd H2 pw (.dK kvs)) m u := by
    obtain ⟨dx, e⟩ := hru
    exact ⟨dx, (s2.trans (same_upd hpw)) _ _ e⟩
  have ew : (upd H2 pw (.dK kvs)) pw = some (.dK kvs) := upd_same
  have hW3 : WAt (upd H2 pw (.dK kvs)) kvs (Wof (ks3.zip zs) g o rs) rs := fun r hr => by
    obtain ⟨aw, e1, e2⟩ := hW r hr
    exact ⟨aw, e1, same_upd hpw _ _ e2⟩
  generalize upd H2 pw (.dK kvs) = H3 at sC3 hu3 ew hW3
  clear hru sR hlR s2 e2 f2 hps hkv
  refine ⟨_, rfl, _, rfl, l, f, xs, rs, u, rfl, sC3 _ _ hl, hF.mono (fun v r h => h.nl (NL.of sC3)), sC3 _ _ hf, by omega, fun H4 lp ys s4 nlp ep fp => ?_⟩
  have sC4 := sC3.trans s4
  have hW4 : WAt H4 kvs (Wof (ks3.zip zs) g o rs) rs := fun r hr => by
    obtain ⟨aw, e1, e2⟩ := hW3 r hr
    exact ⟨aw, e1, s4 _ _ e2⟩
  refine ⟨fun σ' H' => ∃ (dd : Addr) (kvd : List (List Key × V)), σ' = [some (.ref a), some (.int cell), some (.ref d), some (.ref f), some (.ref l), some (.int (long : Int)), some (.ref tf), some (.int g), some (.int o), some (.ref m), some (.ref pw), some (.ref lp), some (.ref dd), w13, w14, w15, w16, w17, w18, w19, w20, w21, w22, w23, none, none] ∧ Same H4 H' ∧ H' dd = some (.dT kvd) ∧ DctM H' kvd (outsM (Wof (ks3.zip zs) g o rs) u rs (lPairs u rs) long (long / 2)) ∧ SzM (long / 2) (outsM (Wof (ks3.zip zs) g o rs) u rs (lPairs u rs) long (long / 2)), ?_, ?_⟩
  · exact ⟨_, rfl, _, rfl, _, rfl, _, rfl, _, rfl, l, lp, f, pw, xs, ys, rs, u, long, Wof (ks3.zip zs) g o rs, kvs, rfl, sC4 _ _ hl, hF.mono (fun v r h => h.nl (NL.of sC4)), by omega, ep, fp, sC4 _ _ hf, s4 _ _ ew, hW4, zW, l9, fun H5 dd kvd s5 ndd edd hM hS => ⟨dd, kvd, rfl, s5, edd, hM, hS⟩⟩
  rintro σ' H5 ⟨dd, kvd, rfl, s5, edd, hM, hS⟩
  have sC5 := sC4.trans s5
  have lF : (outsM (Wof (ks3.zip zs) g o rs) u rs (lPairs u rs) long (long / 2)).length ≤ 3600 := Nat.le_trans (outs_len _) (Nat.le_trans (Nat.mul_le_mul (by omega : long / 2 ≤ 4) (Nat.le_trans (lPairs_len u rs) (Nat.mul_le_mul ln ln))) (by decide))
  have lkD : kvd.length = (outsM (Wof (ks3.zip zs) g o rs) u rs (lPairs u rs) long (long / 2)).length := by
    have := congrArg List.length hM.1
    rwa [List.length_map, List.length_map] at this
  refine ⟨dd, .dT kvd, edd, trivial, fun od => ?_⟩
  have sU : ∀ H5', Same (upd H5 dd (.frz od (.dT kvd))) H5' → Same H5 (upd H5' dd (.dT kvd)) := fun H5 s => unlock edd s
  have eL : (upd H5 dd (.frz od (.dT kvd))) dd = some (.frz od (.dT kvd)) := upd_same
  generalize upd H5 dd (.frz od (.dT kvd)) = HL at sU eL
  refine ⟨_, rfl, dd, od, rfl, .inr ⟨kvd, eL, fun D2 hD2 => lc_walkR walk_keysT hD2 (fun _ _ _ _ y => y.1) (fun H' s => s _ _ eL) (ks := outsM (Wof (ks3.zip zs) g o rs) u rs (lPairs u rs) long (long / 2)) lkD.symm (by omega) (fun _ => true) (fun v p H => TriV H v (p.1.2.2, p.1.1, p.1.2.1)) (fun v p H2 H3 s h => ?_) (fun j x p H6 R C y hp s6 yes no => ?_) fun H6 acc5 s6 e6 f6 => ?_⟩⟩
  · obtain ⟨pa, e, h1⟩ := h
    exact ⟨pa, e, s _ _ (fun _ z => by cases z) h1⟩
  · obtain ⟨_, kk, v, qd, hkj, rfl, hqd⟩ := y
    have ek : kk = key3 p.1 := by
      have e1 : (kvd.map Prod.fst)[j]? = some kk := by rw [List.getElem?_map, hkj]; rfl
      rw [hM.1, List.getElem?_map, hp] at e1
      exact (Option.some.inj e1).symm
    subst ek
    refine ⟨rfl, yesT ⟨_, rfl, qd, _, 2, _, rfl, rfl, SqT.of hqd, rfl, _, rfl, qd, _, 0, _, rfl, rfl, SqT.of hqd, rfl, _, rfl, qd, _, 1, _, rfl, rfl, SqT.of hqd, rfl, (by show 3 ≤ sizeLine; decide), fun tz htz => ?_⟩⟩
    exact yes rfl _ _ (same_upd htz) ⟨tz, rfl, upd_same⟩
  refine ⟨s6 _ _ eL, ?_⟩
  rw [List.filter_eq_self.mpr fun _ _ => rfl] at f6
  have s56 := sU H6 s6
  have s56' := s56
  have tk6 : TK H6 (upd H6 dd (.dT kvd)) := TK.at_ (s6 _ _ eL) fun _ z => nomatch z
  have e6' : (upd H6 dd (.dT kvd)) D2 = some (.lst acc5) := by rw [upd_ne (ne_of_none eL hD2).symm]; exact e6
  have f6' : FF (TriV (upd H6 dd (.dT kvd))) acc5 (lawKeys (outsM (Wof (ks3.zip zs) g o rs) u rs (lPairs u rs) long (long / 2))) := FF.map (f := fun p : T3 × (Int × Int) => ((p.1.2.2, p.1.1, p.1.2.1) : T3)) (f6.mono fun v p h => by
    obtain ⟨pa, e, h1⟩ := h
    exact ⟨pa, e, tk6 _ _ h1⟩)
  have edd6 : (upd H6 dd (.dT kvd)) dd = some (.dT kvd) := upd_same
  have sC6 := sC5.trans s56
  have hM6 := hM.tk (TK.of s56)
  have hu6 : RuleAt T.C_Rule (upd H6 dd (.dT kvd)) m u := by
    obtain ⟨dx, e⟩ := hu3
    exact ⟨dx, s56 _ _ (s5 _ _ (s4 _ _ e))⟩
  have ew6 := s56 _ _ (s5 _ _ (s4 _ _ ew))
  have ep6 := s56 _ _ (s5 _ _ ep)
  have fp6 : FF (RR2 (upd H6 dd (.dT kvd))) ys (lPairs u rs) := fp.mono fun v r h => h.nl (NL.of (s5.trans s56))
  have hW6 : WAt (upd H6 dd (.dT kvd)) kvs (Wof (ks3.zip zs) g o rs) rs := fun r hr => by
    obtain ⟨aw, e1, e2⟩ := hW3 r hr
    exact ⟨aw, e1, s56 _ _ (s5 _ _ (s4 _ _ e2))⟩
  generalize upd H6 dd (.dT kvd) = H7 at s56' e6' f6' edd6 sC6 hM6 hu6 ew6 ep6 fp6 hW6
  clear s56 tk6 e6 s6 sU eL hu3
  refine ⟨D2, acc5, key3V H7, rfl, SqL.of e6', fun x hx => ?_, fun ks p4 srt pm hp4 => ?_⟩
  · obtain ⟨t, _, h⟩ := f2_mem f6' x hx
    have e := key3V_of h
    obtain ⟨a', e1, e2⟩ := h
    exact ⟨a', e1, by rw [e]; exact e2⟩
  have hks := keys_sorted lk f6' srt pm
  have z8 := same_upd hp4 (o := .lst ks)
  have e8 : (upd H7 p4 (.lst ks)) p4 = some (.lst ks) := upd_same
  generalize upd H7 p4 (.lst ks) = H8 at z8 e8
  have sC8 := sC6.trans z8
  refine ⟨_, rfl, l, xs, rs, rfl, sC8 _ _ hl, hF.mono (fun v r h => h.nl (NL.of sC8)), by omega, fun r hr => (gd r hr).1, fun H9 lb bs s9 nlb elb hB => ?_⟩
  have sC9 := sC8.trans s9
  have hu9 : RuleAt T.C_Rule H9 m u := by
    obtain ⟨dx, e⟩ := hu6
    exact ⟨dx, s9 _ _ (z8 _ _ e)⟩
  have inp : ∀ Hn, NL H9 Hn → Hn lb = some (.lst bs) → Inp T.C_Bead T.C_Rule Hn lb m tf long g o bs rs u (ks3.zip zs) := fun Hn s e => inp_of e (hB.nl s) (by
    obtain ⟨dm, hm⟩ := hu9
    exact ⟨dm, s _ _ (fun _ z => by cases z) hm⟩) nd ln l9 gd (s _ _ (fun _ z => by cases z) (sC9 _ _ htf)) bz g1 o1
  have hGA : GoodAk (akH u rs long (ks3.zip zs) g o) := (inp H9 (NL.of (Same.refl _)) elb).good
  have ndb := (dr3.same (sC6.trans z8)).ne nlb
  refine ⟨fun σ' H' => ∃ (pl : Addr) (acc : List V), σ' = [some (.ref a), some (.int cell), some (.ref d), some (.ref f), some (.ref l), some (.int (long : Int)), some (.ref tf), some (.int g), some (.int o), some (.ref m), some (.ref pw), some (.ref lp), some (.ref dd), some (.ref p4), some (.ref lb), some (.ref pl), w16, w17, w18, w19, w20, w21, w22, w23, none, none] ∧ Same H9 H' ∧ H9 pl = none ∧ H' pl = some (.lst acc) ∧ FF (RwAt T.C_Share H') acc (rowsL (akH u rs long (ks3.zip zs) g o) (akH u rs long (ks3.zip zs) g o).hv), ?_, ?_⟩
  · exact ⟨_, rfl, _, rfl, _, rfl, _, rfl, _, rfl, _, rfl, lb, m, tf, long, g, o, bs, rs, u, ks3.zip zs, rfl, inp H9 (NL.of (Same.refl _)) elb, err_none flo bn, fun _ _ H10 pl acc s10 npl epl fpl => ⟨pl, acc, rfl, s10, npl, epl, fpl⟩⟩
  rintro σ' H10 ⟨pl, acc, rfl, s10, npl, epl, fpl⟩
  have ndl := (dr3.same sC9).ne npl
  have lpl : ((rowsL (akH u rs long (ks3.zip zs) g o) (akH u rs long (ks3.zip zs) g o).hv).map some).length ≤ 10000 := by
    rw [List.length_map]
    exact Nat.le_trans (rowsL_len hGA _) (by omega)
  have lpl' : acc.length ≤ 10000 := by
    rw [fpl.len]
    rw [List.length_map] at lpl
    exact lpl
  refine ⟨_, rfl, pl, rfl, ⟨_, SqL.of epl⟩, fun D3 hD3 => lc_listR (K := K) (ts := rowsL (akH u rs long (ks3.zip zs) g o) (akH u rs long (ks3.zip zs) g o).hv) hD3 (SqL.of epl) fpl.len (by rw [← fpl.len]; exact lpl') (fun _ => true) (fun v r H => TriV H v ((r.2.1 : Int), r.1.1, r.1.2)) (fun v r H1 H2 s h => ?_) (fun j x r H2 R C hx hr s2 yes no => ?_) fun H11 acc2 s11 e11 f11 => ?_⟩
  · obtain ⟨pa, e, h1⟩ := h
    exact ⟨pa, e, s _ _ (fun _ z => by cases z) h1⟩
  · obtain ⟨v, hv, t, sp, rfl, htt, _⟩ := fpl.at_ hr
    rw [hv] at hx
    cases hx
    have htt2 := s2 _ _ htt
    refine ⟨rfl, yesT ⟨_, rfl, t, _, 2, _, rfl, rfl, SqT.of htt2, rfl, _, rfl, t, _, 0, _, rfl, rfl, SqT.of htt2, rfl, _, rfl, t, _, 1, _, rfl, rfl, SqT.of htt2, rfl, (by show 3 ≤ sizeLine; decide), fun tz htz => ?_⟩⟩
    exact yes rfl _ _ (same_upd htz) ⟨tz, rfl, upd_same⟩
  rw [List.filter_eq_self.mpr fun _ _ => rfl] at f11
  have f11' : FF (TriV H11) acc2 (rowKeys (akH u rs long (ks3.zip zs) g o) (akH u rs long (ks3.zip zs) g o).hv) := FF.map (f := fun r : Pr × Nat × Sh => (((r.2.1 : Int), r.1.1, r.1.2) : T3)) f11
  have s811 := s9.trans (s10.trans s11)
  refine ⟨_, rfl, true, keys_like e11 (s811 _ _ e8) f11' (hks.mono fun v t h => by
    obtain ⟨a', e, h⟩ := h
    exact ⟨a', e, s811 _ _ (z8 _ _ h)⟩), fun H12 x12 => ⟨_, rfl, iteF ?_⟩⟩
  have z12 : Same H10 H12 := fun c o e => x12 _ _ (s11 _ _ e)
  have epl12 := z12 _ _ epl
  refine ⟨_, rfl, _, _, _, _, _, rfl, .ty _, .base (.lst epl12), kit_ty (r := true) (by decide +kernel), _, rfl, iteF ?_⟩
  have fpl12 : FF (RwAt T.C_Share H12) acc (rowsL (akH u rs long (ks3.zip zs) g o) (akH u rs long (ks3.zip zs) g o).hv) := fpl.mono fun v r h => h.nl (NL.of z12)
  have sC12 : Same HC H12 := sC9.trans (s10.trans z12)
  have z912 : Same H9 H12 := s10.trans z12
  have s712 : Same H7 H12 := z8.trans (s9.trans z912)
  have hM12 := hM6.tk (TK.of s712)
  have edd12 := s712 _ _ edd6
  refine ⟨_, rfl, pl, rfl, ⟨_, SqL.of epl12⟩, for_list (K := K) (a := pl) (xs := acc) (fun i σ H' => ∃ w16 w17 w18 w19, σ = [some (.ref a), some (.int cell), some (.ref d), some (.ref f), some (.ref l), some (.int (long : Int)), some (.ref tf), some (.int g), some (.int o), some (.ref m), some (.ref pw), some (.ref lp), some (.ref dd), some (.ref p4), some (.ref lb), some (.ref pl), w16, w17, w18, w19, w20, w21, w22, w23, none, none] ∧ Same H12 H') ⟨_, _, _, _, rfl, Same.refl _⟩ (fun i σ H' _ h => ?_) ?_ ?_⟩
  · obtain ⟨_, _, _, _, _, s⟩ := h
    exact SqL.of (s _ _ epl12)
  · rintro i v σ H13 hi ⟨w16, w17, w18, w19, rfl, s13⟩
    obtain ⟨r, hr, tr, sp, rfl, htr, hsp⟩ := fpl12.get hi
    obtain ⟨q', eq', fq⟩ := row_due lk (List.mem_of_getElem? hr)
    rw [lk.hv] at eq'
    have hM13 := hM12.tk (TK.of s13)
    obtain ⟨aq, e1q, tq⟩ : ∃ aq, valV kvd (key3 (r.1.1, r.1.2, (r.2.1 : Int))) = some (.ref aq) ∧ TwoV H13 aq q' := by
      rcases hM13.get (r.1.1, r.1.2, (r.2.1 : Int)) with ⟨e1, _⟩ | ⟨x', a', e1, e2, t'⟩
      · rw [eq'] at e1
        cases e1
      · rw [eq'] at e1
        cases e1
        exact ⟨a', e2, t'⟩
    have zq : Sz2 1000 q' := (hS.get eq').mono (by omega)
    refine ⟨tr, _, rfl, SqT.of (s13 _ _ htr), rfl, _, _, rfl, _, _, rfl, _, _, rfl, _, _, rfl, rfl, ?_⟩
    refine ⟨_, rfl, _, rfl, _, rfl, _, rfl, _, rfl, (by show 3 ≤ sizeLine; decide), fun kt hkt => ?_⟩
    have zk := same_upd hkt (o := .tup [.int r.1.1, .int r.1.2, .int (r.2.1 : Int)])
    have gd' : DGet (upd H13 kt (.tup [.int r.1.1, .int r.1.2, .int (r.2.1 : Int)])) dd (.ref kt) (some (.ref aq)) := by
      have h := DGet.t (k := key3 (r.1.1, r.1.2, (r.2.1 : Int))) (zk _ _ (s13 _ _ edd12)) upd_same
      rwa [e1q] at h
    refine ⟨dd, _, rfl, gd', sp, aq, r.2.2, q', 1000, rfl, hsp.same (NL.of (s13.trans zk)), zk _ _ tq, by have := fq.1; omega, zq.1, zq.2, by decide, fun H14 s14 => ⟨_, rfl, ?_⟩⟩
    rw [show likeS r.2.2 (shr q'.1 q'.2) = true by rw [fq.2]; exact like_self _]
    exact iteF ⟨_, _, _, _, rfl, s13.trans (zk.trans s14)⟩
  rintro σ H13 ⟨w16, w17, w18, w19, rfl, s13⟩
  have s413 : Same H4 H13 := s5.trans (s56'.trans (s712.trans s13))
  have sC13 := sC12.trans s13
  have s913 : Same H9 H13 := z912.trans s13
  refine ⟨_, rfl, _, rfl, _, rfl, _, rfl, _, rfl, l, lp, f, pw, xs, ys, rs, u, long, Wof (ks3.zip zs) g o rs, kvs, rfl, sC13 _ _ hl, hF.mono (fun v r h => h.nl (NL.of sC13)), by omega, s413 _ _ ep, fp.mono (fun v r h => h.nl (NL.of s413)), sC13 _ _ hf, s413 _ _ (s4 _ _ ew), (fun r hr => by
    obtain ⟨aw, e1, e2⟩ := hW4 r hr
    exact ⟨aw, e1, s413 _ _ e2⟩), zW, l9, fun H14 vt s14 hvt => ?_⟩
  have dr14 := (dr3.same sC13).same s14
  have sC14 := sC13.trans s14
  refine ⟨fun σ' H' => ∃ (c : Addr) (yq : Int × Int), σ' = [some (.ref a), some (.int cell), some (.ref d), some (.ref f), some (.ref l), some (.int (long : Int)), some (.ref tf), some (.int g), some (.int o), some (.ref m), some (.ref pw), some (.ref lp), some (.ref dd), some (.ref p4), some (.ref lb), some (.ref pl), w16, w17, w18, w19, some vt, some (.ref c), w22, w23, none, none] ∧ But d H14 H' ∧ ShAt T.C_Share H' c (shr yq.1 yq.2) ∧ 0 < yq.2 ∧ 0 ≤ yq.1 ∧ Ok 110 (shr yq.1 yq.2), ?_, ?_⟩
  · refine ⟨_, rfl, d, 100, _, rfl, by decide, log_tiny (by decide) (by decide), dr14, by omega, fun H15 r1 g2 g3 b15 dr15 => ?_⟩
    refine ⟨_, rfl, d, 7, _, rfl, by decide, log_tiny (by decide) (by decide), dr15, by omega, fun H16 r2 g4 g5 b16 dr16 => ⟨_, _, rfl, rfl, fun c cc hc hcc hne => ?_⟩⟩
    have y1 : Sz 20 r1 := sml_sz ⟨by omega, by omega⟩
    have y2 : Sz 20 (1 + r2) := sml_sz ⟨by omega, by omega⟩
    refine ⟨c, cc, r1, 1 + r2, 20, rfl, upd_same, y2, by decide, fun _ H17 h17 kp => ⟨rfl, ?_⟩, fun e => absurd e (by omega)⟩
    have s17 := made_same hc hcc kp
    have szy := shr_sz (k := 110) (n := r1) (d := 1 + r2) (by omega) (y1.mono (by decide)) (y2.mono (by decide))
    exact ⟨c, (r1, 1 + r2), rfl, (b15.trans b16).trans (But.of s17), h17, by show 0 < 1 + r2; omega, g2, ⟨shr_pos (by omega), szy.1, szy.2⟩⟩
  rintro σ' H17 ⟨c, yq, rfl, b17, hc17, yq1, yq0, oy⟩
  have n17 := dr_nl dr14 b17
  have n917 : NL H9 H17 := (NL.of (s913.trans s14)).trans n17
  have nC17 : NL HC H17 := (NL.of sC14).trans n17
  have elb17 := b17 _ _ ndb (s14 _ _ (s913 _ _ elb))
  have epl17 := b17 _ _ ndl (s14 _ _ (s13 _ _ epl12))
  have fpl17 : FF (RwAt T.C_Share H17) acc (rowsL (akH u rs long (ks3.zip zs) g o) (akH u rs long (ks3.zip zs) g o).hv) := fpl12.mono fun v r h => h.nl ((NL.of (s13.trans s14)).trans n17)
  have hl17 := b17 _ _ nl (sC14 _ _ hl)
  have e317 := b17 _ _ np3 (sC14 _ _ e3)
  have hvt17 : TopW H17 vt _ := hvt.tk fun c' xs' h => n17 _ _ (fun _ z => by cases z) h
  have fy : Fr yq (shr yq.1 yq.2) := ⟨yq1, rfl⟩
  have tp := fun z (e : lTop (Wof (ks3.zip zs) g o rs) rs long (outsM (Wof (ks3.zip zs) g o rs) u rs (lPairs u rs) long (long / 2)) = some z) => top_pos lk hk l1 e
  have okc := shares_ok (y := shr yq.1 yq.2) (fun z e => ⟨tp z e, by
    rw [e] at hvt17
    obtain ⟨_, _, _, h⟩ := hvt17
    exact h⟩) oy
  have due := bars_due lk hk l1 fy yq0
  have nplb : lb ≠ pl := ne_of_none elb npl
  have npl_l : l ≠ pl := ne_of_none (sC9 _ _ hl) npl
  have np3pl : p3 ≠ pl := ne_of_none (sC9 _ _ e3) npl
  clear hM hS hks f11 f11' e11 f6 hM6 hM12 edd12 edd6 e8 b17 dr14
  refine ⟨_, rfl, _, rfl, vt, c, _, shr yq.1 yq.2, rfl, hvt17.topV tp, hc17, oy, fun H18 ls xs2 s18 els fls => ?_⟩
  generalize lShares (lTop (Wof (ks3.zip zs) g o rs) rs long (outsM (Wof (ks3.zip zs) g o rs) u rs (lPairs u rs) long (long / 2))) (shr yq.1 yq.2) = cs at fls okc due
  refine ⟨ls, rfl, ⟨_, SqL.of els⟩, for_list (K := K) (a := ls) (xs := xs2) (fun i σ H' => ∃ w19 w22, σ = [some (.ref a), some (.int cell), some (.ref d), some (.ref f), some (.ref l), some (.int (long : Int)), some (.ref tf), some (.int g), some (.int o), some (.ref m), some (.ref pw), some (.ref lp), some (.ref dd), some (.ref p4), some (.ref lb), some (.ref pl), w16, w17, w18, w19, some vt, some (.ref c), w22, w23, none, none] ∧ Same H18 H') ⟨_, _, rfl, Same.refl _⟩ (fun i σ H' _ h => ?_) ?_ ?_⟩
  · obtain ⟨_, _, _, s⟩ := h
    exact SqL.of (s _ _ els)
  · rintro i x σ H19 hi ⟨w19, w22, rfl, s19⟩
    obtain ⟨c', hc', t', p', rfl, ht', hp'⟩ := fls.get hi
    have mc := List.mem_of_getElem? hc'
    have z19 := s18.trans s19
    refine ⟨t', _, rfl, SqT.of (s19 _ _ ht'), rfl, _, _, rfl, _, _, rfl, rfl, ?_⟩
    refine ⟨_, rfl, _, rfl, _, rfl, _, rfl, _, rfl, _, rfl, _, rfl, _, rfl, rfl, rfl, lb, m, tf, p', long, g, o, bs, rs, u, ks3.zip zs, c'.1, .ref pl, rfl, inp H19 (n917.trans (NL.of z19)) (z19 _ _ elb17), err_none flo bn, hp'.same (NL.of s19), okc c' mc, fun _ _ => .inr ⟨pl, acc, _, rfl, z19 _ _ epl17, prow_of lk (fpl17.mono fun v r h => h.nl (NL.of z19)), lpl, rows_ok hGA hv4, fun H20 s20 => ?_⟩⟩
    rw [due c' mc]
    refine ⟨_, rfl, rfl, _, rfl, ?_⟩
    rw [show (!decide (V.bl c'.2 = V.bl c'.2)) = false by rw [decide_eq_true rfl]; rfl]
    exact iteF ⟨_, _, rfl, s19.trans s20⟩
  rintro σ H19 ⟨w19, w22, rfl, s19⟩
  have z19 := s18.trans s19
  refine ⟨_, rfl, pl, acc, rfl, .inl (SqL.of (z19 _ _ epl17)), fun pk hpk => ?_⟩
  have zk := z19.trans (same_upd hpk (o := .lst acc))
  have ek : (upd H19 pk (.lst acc)) pk = some (.lst acc) := upd_same
  have nkpl : pk ≠ pl := (ne_of_none (z19 _ _ epl17) hpk).symm
  generalize upd H19 pk (.lst acc) = H20 at zk ek
  have epl20 := zk _ _ epl17
  refine ⟨_, rfl, .inl ⟨rfl, _, SqL.of epl20⟩, pl, acc, _, rfl, rfl, epl20, Nat.lt_of_le_of_lt lpl' (by decide), ?_⟩
  have nA : NL H20 (upd H20 pl (.lst (acc ++ [.non]))) := NL.at_ epl20
  have nA' : NL H9 (upd H20 pl (.lst (acc ++ [.non]))) := (n917.trans (NL.of zk)).trans nA
  have nAC : NL HC (upd H20 pl (.lst (acc ++ [.non]))) := (nC17.trans (NL.of zk)).trans nA
  have elbA : (upd H20 pl (.lst (acc ++ [.non]))) lb = some (.lst bs) := by rw [upd_ne nplb]; exact zk _ _ elb17
  have elA : (upd H20 pl (.lst (acc ++ [.non]))) l = some (.lst xs) := by rw [upd_ne npl_l]; exact zk _ _ hl17
  have e3A : (upd H20 pl (.lst (acc ++ [.non]))) p3 = some (.lst ([V.int (ns.headD 0)] ++ cutV (ns.map V.int) (some 1) (some 2))) := by rw [upd_ne np3pl]; exact zk _ _ e317
  have ekA : (upd H20 pl (.lst (acc ++ [.non]))) pk = some (.lst acc) := by rw [upd_ne nkpl]; exact ek
  have fA : FF (RwAt T.C_Share (upd H20 pl (.lst (acc ++ [.non])))) acc (rowsL (akH u rs long (ks3.zip zs) g o) (akH u rs long (ks3.zip zs) g o).hv) := fpl17.mono fun v r h => h.nl ((NL.of zk).trans nA)
  generalize upd H20 pl (.lst (acc ++ [.non])) = HA at nA nA' nAC elbA elA e3A ekA fA
  refine ⟨_, rfl, _, rfl, _, rfl, _, rfl, _, rfl, _, rfl, rfl, rfl, lb, m, tf, long, g, o, bs, rs, u, ks3.zip zs, rfl, inp HA nA' elbA, err_none flo bn, fun _ _ H21 p5 acc5' s21 np5 ep5 fp5 => ?_⟩
  refine ⟨_, rfl, true, rows_like T ep5 (s21 _ _ ekA) fp5 (fA.mono fun v r h => h.nl (NL.of s21)), fun H22 x22 => ⟨_, rfl, iteF ?_⟩⟩
  have zA : Same HA H22 := fun c o e => x22 _ _ (s21 _ _ e)
  have nz9 : NL H9 H22 := nA'.trans (NL.of zA)
  have nzC : NL HC H22 := nAC.trans (NL.of zA)
  refine ⟨_, rfl, _, rfl, _, rfl, _, rfl, _, rfl, _, rfl, lb, m, tf, f, l, long, bs, xs, rs, u, zs, rfl, ⟨zA _ _ elbA, hB.nl nz9, (inp H22 nz9 (zA _ _ elbA)).hm, nzC _ _ (fun _ z => by cases z) htf, nzC _ _ (fun _ z => by cases z) hf, zA _ _ elA, hF.mono (fun v r h => h.nl nzC), ln, nd, gd, h4, l1, l9, lz, bz⟩, fun H23 s23 => ⟨_, rfl, ?_⟩⟩
  exact iteF ⟨_, _, _, _, _, _, _, _, _, _, _, _, _, _, _, _, _, _, _, _, _, _, _, rfl, s23 _ _ (zA _ _ e3A)⟩
end
theorem all_mk {l : PySem.W.OpenLaw} {w : World} {K : PySem.W.Frag} {h : Heap} {mg : Str → Option Value} {fa : Addr} (X : K.In h) (G : h.Ns mainGlobals mg) (hfa : mg "law" = some (.ref fa))
    {C_Share : Addr}
    {C_Bead : Addr}
    {C_Rule : Addr}
    {C_Asked : Addr}
    {C_PearlError : Addr}
    {C_BadBead : Addr}
    {C_BadRule : Addr}
    {C_NoShare : Addr}
    {C_NoSuch : Addr}
    {f0 : Addr} {od0 an0 : Option Addr} {sl0 : Array (Option Value)} {oc0 kV0 dc0 pm0 cd0 ct0 : Value}
    {T0 : Addr} {oT0 : Value} {dT0 : Option Addr} {nT0 : Nat} {sT0 : Array (Option Value)} {td0_0 : Tok}
    {f1 : Addr} {od1 an1 : Option Addr} {sl1 : Array (Option Value)} {oc1 kV1 dc1 pm1 cd1 ct1 : Value}
    {f2 : Addr} {od2 an2 : Option Addr} {sl2 : Array (Option Value)} {oc2 kV2 dc2 pm2 cd2 ct2 : Value}
    {f3 : Addr} {od3 an3 : Option Addr} {sl3 : Array (Option Value)} {oc3 kV3 dc3 pm3 cd3 ct3 : Value}
    {f4 : Addr} {od4 an4 : Option Addr} {sl4 : Array (Option Value)} {oc4 kV4 dc4 pm4 cd4 ct4 : Value}
    {f5 : Addr} {od5 an5 : Option Addr} {sl5 : Array (Option Value)} {oc5 kV5 dc5 pm5 cd5 ct5 : Value}
    {f6 : Addr} {od6 an6 : Option Addr} {sl6 : Array (Option Value)} {oc6 kV6 dc6 pm6 cd6 ct6 : Value}
    {f7 : Addr} {od7 an7 : Option Addr} {sl7 : Array (Option Value)} {oc7 kV7 dc7 pm7 cd7 ct7 : Value}
    {f8 : Addr} {od8 an8 : Option Addr} {sl8 : Array (Option Value)} {oc8 kV8 dc8 pm8 cd8 ct8 : Value}
    {T8 : Addr} {oT8 : Value} {dT8 : Option Addr} {nT8 : Nat} {sT8 : Array (Option Value)} {td8_0 : Tok} {td8_1 : Tok} {td8_2 : Tok}
    {f9 : Addr} {od9 an9 : Option Addr} {sl9 : Array (Option Value)} {oc9 kV9 dc9 pm9 cd9 ct9 : Value}
    {f10 : Addr} {od10 an10 : Option Addr} {sl10 : Array (Option Value)} {oc10 kV10 dc10 pm10 cd10 ct10 : Value}
    {f11 : Addr} {od11 an11 : Option Addr} {sl11 : Array (Option Value)} {oc11 kV11 dc11 pm11 cd11 ct11 : Value}
    {T11 : Addr} {oT11 : Value} {dT11 : Option Addr} {nT11 : Nat} {sT11 : Array (Option Value)} {td11_0 : Tok}
    {f12 : Addr} {od12 an12 : Option Addr} {sl12 : Array (Option Value)} {oc12 kV12 dc12 pm12 cd12 ct12 : Value}
    {f13 : Addr} {od13 an13 : Option Addr} {sl13 : Array (Option Value)} {oc13 kV13 dc13 pm13 cd13 ct13 : Value}
    {f14 : Addr} {od14 an14 : Option Addr} {sl14 : Array (Option Value)} {oc14 kV14 dc14 pm14 cd14 ct14 : Value}
    {f15 : Addr} {od15 an15 : Option Addr} {sl15 : Array (Option Value)} {oc15 kV15 dc15 pm15 cd15 ct15 : Value}
    {f16 : Addr} {od16 an16 : Option Addr} {sl16 : Array (Option Value)} {oc16 kV16 dc16 pm16 cd16 ct16 : Value}
    {T16 : Addr} {oT16 : Value} {dT16 : Option Addr} {nT16 : Nat} {sT16 : Array (Option Value)} {td16_0 : Tok} {td16_1 : Tok}
    {f17 : Addr} {od17 an17 : Option Addr} {sl17 : Array (Option Value)} {oc17 kV17 dc17 pm17 cd17 ct17 : Value}
    {f18 : Addr} {od18 an18 : Option Addr} {sl18 : Array (Option Value)} {oc18 kV18 dc18 pm18 cd18 ct18 : Value}
    {f19 : Addr} {od19 an19 : Option Addr} {sl19 : Array (Option Value)} {oc19 kV19 dc19 pm19 cd19 ct19 : Value}
    {f20 : Addr} {od20 an20 : Option Addr} {sl20 : Array (Option Value)} {oc20 kV20 dc20 pm20 cd20 ct20 : Value}
    {f21 : Addr} {od21 an21 : Option Addr} {sl21 : Array (Option Value)} {oc21 kV21 dc21 pm21 cd21 ct21 : Value}
    {f22 : Addr} {od22 an22 : Option Addr} {sl22 : Array (Option Value)} {oc22 kV22 dc22 pm22 cd22 ct22 : Value}
    {f23 : Addr} {od23 an23 : Option Addr} {sl23 : Array (Option Value)} {oc23 kV23 dc23 pm23 cd23 ct23 : Value}
    {f24 : Addr} {od24 an24 : Option Addr} {sl24 : Array (Option Value)} {oc24 kV24 dc24 pm24 cd24 ct24 : Value}
    {f25 : Addr} {od25 an25 : Option Addr} {sl25 : Array (Option Value)} {oc25 kV25 dc25 pm25 cd25 ct25 : Value}
    {f26 : Addr} {od26 an26 : Option Addr} {sl26 : Array (Option Value)} {oc26 kV26 dc26 pm26 cd26 ct26 : Value}
    {f27 : Addr} {od27 an27 : Option Addr} {sl27 : Array (Option Value)} {oc27 kV27 dc27 pm27 cd27 ct27 : Value}
    {T27 : Addr} {oT27 : Value} {dT27 : Option Addr} {nT27 : Nat} {sT27 : Array (Option Value)} {td27_0 : Tok} {td27_1 : Tok}
    {f28 : Addr} {od28 an28 : Option Addr} {sl28 : Array (Option Value)} {oc28 kV28 dc28 pm28 cd28 ct28 : Value}
    {f29 : Addr} {od29 an29 : Option Addr} {sl29 : Array (Option Value)} {oc29 kV29 dc29 pm29 cd29 ct29 : Value}
    {f30 : Addr} {od30 an30 : Option Addr} {sl30 : Array (Option Value)} {oc30 kV30 dc30 pm30 cd30 ct30 : Value}
    {f31 : Addr} {od31 an31 : Option Addr} {sl31 : Array (Option Value)} {oc31 kV31 dc31 pm31 cd31 ct31 : Value}
    {f32 : Addr} {od32 an32 : Option Addr} {sl32 : Array (Option Value)} {oc32 kV32 dc32 pm32 cd32 ct32 : Value}
    {T32 : Addr} {oT32 : Value} {dT32 : Option Addr} {nT32 : Nat} {sT32 : Array (Option Value)} {td32_0 : Tok} {td32_1 : Tok}
    {f33 : Addr} {od33 an33 : Option Addr} {sl33 : Array (Option Value)} {oc33 kV33 dc33 pm33 cd33 ct33 : Value}
    {f34 : Addr} {od34 an34 : Option Addr} {sl34 : Array (Option Value)} {oc34 kV34 dc34 pm34 cd34 ct34 : Value}
    {T34 : Addr} {oT34 : Value} {dT34 : Option Addr} {nT34 : Nat} {sT34 : Array (Option Value)} {td34_0 : Tok}
    {f35 : Addr} {od35 an35 : Option Addr} {sl35 : Array (Option Value)} {oc35 kV35 dc35 pm35 cd35 ct35 : Value}
    {f36 : Addr} {od36 an36 : Option Addr} {sl36 : Array (Option Value)} {oc36 kV36 dc36 pm36 cd36 ct36 : Value}
    {f37 : Addr} {od37 an37 : Option Addr} {sl37 : Array (Option Value)} {oc37 kV37 dc37 pm37 cd37 ct37 : Value}
    {f38 : Addr} {od38 an38 : Option Addr} {sl38 : Array (Option Value)} {oc38 kV38 dc38 pm38 cd38 ct38 : Value}
    {f39 : Addr} {od39 an39 : Option Addr} {sl39 : Array (Option Value)} {oc39 kV39 dc39 pm39 cd39 ct39 : Value}
    {f40 : Addr} {od40 an40 : Option Addr} {sl40 : Array (Option Value)} {oc40 kV40 dc40 pm40 cd40 ct40 : Value}
    {f41 : Addr} {od41 an41 : Option Addr} {sl41 : Array (Option Value)} {oc41 kV41 dc41 pm41 cd41 ct41 : Value}
    {f42 : Addr} {od42 an42 : Option Addr} {sl42 : Array (Option Value)} {oc42 kV42 dc42 pm42 cd42 ct42 : Value}
    {f43 : Addr} {od43 an43 : Option Addr} {sl43 : Array (Option Value)} {oc43 kV43 dc43 pm43 cd43 ct43 : Value}
    {f44 : Addr} {od44 an44 : Option Addr} {sl44 : Array (Option Value)} {oc44 kV44 dc44 pm44 cd44 ct44 : Value}
    {f45 : Addr} {od45 an45 : Option Addr} {sl45 : Array (Option Value)} {oc45 kV45 dc45 pm45 cd45 ct45 : Value}
    {f46 : Addr} {od46 an46 : Option Addr} {sl46 : Array (Option Value)} {oc46 kV46 dc46 pm46 cd46 ct46 : Value}
    {f47 : Addr} {od47 an47 : Option Addr} {sl47 : Array (Option Value)} {oc47 kV47 dc47 pm47 cd47 ct47 : Value}
    {f48 : Addr} {od48 an48 : Option Addr} {sl48 : Array (Option Value)} {oc48 kV48 dc48 pm48 cd48 ct48 : Value}
    {f49 : Addr} {od49 an49 : Option Addr} {sl49 : Array (Option Value)} {oc49 kV49 dc49 pm49 cd49 ct49 : Value}
    {f50 : Addr} {od50 an50 : Option Addr} {sl50 : Array (Option Value)} {oc50 kV50 dc50 pm50 cd50 ct50 : Value}
    {f51 : Addr} {od51 an51 : Option Addr} {sl51 : Array (Option Value)} {oc51 kV51 dc51 pm51 cd51 ct51 : Value}
    {f52 : Addr} {od52 an52 : Option Addr} {sl52 : Array (Option Value)} {oc52 kV52 dc52 pm52 cd52 ct52 : Value}
    {f53 : Addr} {od53 an53 : Option Addr} {sl53 : Array (Option Value)} {oc53 kV53 dc53 pm53 cd53 ct53 : Value}
    {f54 : Addr} {od54 an54 : Option Addr} {sl54 : Array (Option Value)} {oc54 kV54 dc54 pm54 cd54 ct54 : Value}
    {f55 : Addr} {od55 an55 : Option Addr} {sl55 : Array (Option Value)} {oc55 kV55 dc55 pm55 cd55 ct55 : Value}
    {f56 : Addr} {od56 an56 : Option Addr} {sl56 : Array (Option Value)} {oc56 kV56 dc56 pm56 cd56 ct56 : Value}
    {tc0 : Tok}
    {tc1 : Tok}
    {tc4 : Tok}
    {tc5 : Tok}
    {nm_BadRule q_BadRule : Str} {N_BadRule : Addr} {bs_BadRule : List Value} {sn_BadRule : List Str} {sub_BadRule : List Value} {ab_BadRule : Bool} {col_BadRule : Option Bool} {dd_BadRule : Option Addr} {m0_BadRule m1_BadRule m2_BadRule m3_BadRule m5_BadRule : Option Value}
    {nm_NoShare q_NoShare : Str} {N_NoShare : Addr} {bs_NoShare : List Value} {sn_NoShare : List Str} {sub_NoShare : List Value} {ab_NoShare : Bool} {col_NoShare : Option Bool} {dd_NoShare : Option Addr} {m0_NoShare m1_NoShare m2_NoShare m3_NoShare m5_NoShare : Option Value}
    {nm_NoSuch q_NoSuch : Str} {N_NoSuch : Addr} {bs_NoSuch : List Value} {sn_NoSuch : List Str} {sub_NoSuch : List Value} {ab_NoSuch : Bool} {col_NoSuch : Option Bool} {dd_NoSuch : Option Addr} {m0_NoSuch m1_NoSuch m2_NoSuch m3_NoSuch m5_NoSuch : Option Value}
    (aC_Share : PySem.W.nsIn K mainGlobals "Share" = some (some (.ref C_Share)))
    (pg_Share : PySem.W.plainGet K C_Share Str.empty = true)
    (hd_Share : PySem.W.hasDictIn K C_Share = true)
    (po_Share : PySem.W.plainOver K C_Share = true)
    (sa_Share : PySem.W.findIn K (.ref C_Share) "__setattr__" = some (some (.builtin "object.__setattr__")))
    (mk_Share : PySem.W.makesIn K C_Share = true)
    (kc_Share : PySem.W.keepIn K (.ref C_Share) = true)
    (n_Share_num : PySem.W.findIn K (.ref C_Share) "num" = some none)
    (n_Share_over : PySem.W.findIn K (.ref C_Share) "over" = some none)
    (aC_Bead : PySem.W.nsIn K mainGlobals "Bead" = some (some (.ref C_Bead)))
    (pg_Bead : PySem.W.plainGet K C_Bead Str.empty = true)
    (hd_Bead : PySem.W.hasDictIn K C_Bead = true)
    (po_Bead : PySem.W.plainOver K C_Bead = true)
    (sa_Bead : PySem.W.findIn K (.ref C_Bead) "__setattr__" = some (some (.builtin "object.__setattr__")))
    (mk_Bead : PySem.W.makesIn K C_Bead = true)
    (kc_Bead : PySem.W.keepIn K (.ref C_Bead) = true)
    (n_Bead_number : PySem.W.findIn K (.ref C_Bead) "number" = some none)
    (n_Bead_across : PySem.W.findIn K (.ref C_Bead) "across" = some none)
    (n_Bead_weight : PySem.W.findIn K (.ref C_Bead) "weight" = some none)
    (n_Bead_shade : PySem.W.findIn K (.ref C_Bead) "shade" = some none)
    (n_Bead_form : PySem.W.findIn K (.ref C_Bead) "form" = some none)
    (n_Bead_drilled : PySem.W.findIn K (.ref C_Bead) "drilled" = some none)
    (aC_Rule : PySem.W.nsIn K mainGlobals "Rule" = some (some (.ref C_Rule)))
    (pg_Rule : PySem.W.plainGet K C_Rule Str.empty = true)
    (hd_Rule : PySem.W.hasDictIn K C_Rule = true)
    (po_Rule : PySem.W.plainOver K C_Rule = true)
    (sa_Rule : PySem.W.findIn K (.ref C_Rule) "__setattr__" = some (some (.builtin "object.__setattr__")))
    (mk_Rule : PySem.W.makesIn K C_Rule = true)
    (kc_Rule : PySem.W.keepIn K (.ref C_Rule) = true)
    (n_Rule_least : PySem.W.findIn K (.ref C_Rule) "least" = some none)
    (n_Rule_most : PySem.W.findIn K (.ref C_Rule) "most" = some none)
    (n_Rule_match : PySem.W.findIn K (.ref C_Rule) "match" = some none)
    (n_Rule_shades : PySem.W.findIn K (.ref C_Rule) "shades" = some none)
    (aC_Asked : PySem.W.nsIn K mainGlobals "Asked" = some (some (.ref C_Asked)))
    (pg_Asked : PySem.W.plainGet K C_Asked Str.empty = true)
    (hd_Asked : PySem.W.hasDictIn K C_Asked = true)
    (po_Asked : PySem.W.plainOver K C_Asked = true)
    (sa_Asked : PySem.W.findIn K (.ref C_Asked) "__setattr__" = some (some (.builtin "object.__setattr__")))
    (mk_Asked : PySem.W.makesIn K C_Asked = true)
    (kc_Asked : PySem.W.keepIn K (.ref C_Asked) = true)
    (n_Asked_worths : PySem.W.findIn K (.ref C_Asked) "worths" = some none)
    (n_Asked_halves : PySem.W.findIn K (.ref C_Asked) "halves" = some none)
    (n_Asked_is_odd : PySem.W.findIn K (.ref C_Asked) "is_odd" = some none)
    (n_Asked_within : PySem.W.findIn K (.ref C_Asked) "within" = some none)
    (n_Asked_middles : PySem.W.findIn K (.ref C_Asked) "middles" = some none)
    (aC_PearlError : PySem.W.nsIn K mainGlobals "PearlError" = some (some (.ref C_PearlError)))
    (aC_BadBead : PySem.W.nsIn K mainGlobals "BadBead" = some (some (.ref C_BadBead)))
    (aC_BadRule : PySem.W.nsIn K mainGlobals "BadRule" = some (some (.ref C_BadRule)))
    (aC_NoShare : PySem.W.nsIn K mainGlobals "NoShare" = some (some (.ref C_NoShare)))
    (aC_NoSuch : PySem.W.nsIn K mainGlobals "NoSuch" = some (some (.ref C_NoSuch)))
    (a0 : PySem.W.findIn K (.ref C_PearlError) "__init__" = some (some (.ref f0)))
    (i0 : PySem.W.isFn K (.ref f0) = true)
    (l0 : K.lookup f0 = some ⟨oc0, od0, .func (PySem.W.fnOf "__init__" "PearlError.__init__" (defArgs s_PearlError_init) (defBody s_PearlError_init) (defScope s_PearlError_init) (.ref T0) kV0 dc0 pm0 an0 cd0 ct0), sl0⟩)
    (d0 : K.lookup T0 = some ⟨oT0, dT0, .seq (List.toArray [.str "" td0_0]) nT0, sT0⟩)
    (c0 : PySem.W.codeIn K cd0 "PearlError.__init__" = true)
    (k0 : PySem.W.keepIn K (.ref f0) = true)
    (a1 : PySem.W.findIn K (.ref C_NoSuch) "__init__" = some (some (.ref f1)))
    (i1 : PySem.W.isFn K (.ref f1) = true)
    (l1 : K.lookup f1 = some ⟨oc1, od1, .func (PySem.W.fnOf "__init__" "NoSuch.__init__" (defArgs s_NoSuch_init) (defBody s_NoSuch_init) (defScope s_NoSuch_init) .none kV1 dc1 pm1 an1 cd1 ct1), sl1⟩)
    (c1 : PySem.W.codeIn K cd1 "NoSuch.__init__" = true)
    (k1 : PySem.W.keepIn K (.ref f1) = true)
    (a2 : PySem.W.findIn K (.ref C_NoShare) "__init__" = some (some (.ref f2)))
    (i2 : PySem.W.isFn K (.ref f2) = true)
    (l2 : K.lookup f2 = some ⟨oc2, od2, .func (PySem.W.fnOf "__init__" "NoShare.__init__" (defArgs s_NoShare_init) (defBody s_NoShare_init) (defScope s_NoShare_init) .none kV2 dc2 pm2 an2 cd2 ct2), sl2⟩)
    (c2 : PySem.W.codeIn K cd2 "NoShare.__init__" = true)
    (k2 : PySem.W.keepIn K (.ref f2) = true)
    (a3 : PySem.W.nsIn K mainGlobals "is_int" = some (some (.ref f3)))
    (l3 : K.lookup f3 = some ⟨oc3, od3, .func (PySem.W.fnOf "is_int" "is_int" (defArgs s_is_int) (defBody s_is_int) (defScope s_is_int) .none kV3 dc3 pm3 an3 cd3 ct3), sl3⟩)
    (c3 : PySem.W.codeIn K cd3 "is_int" = true)
    (k3 : PySem.W.keepIn K (.ref f3) = true)
    (a4 : PySem.W.nsIn K mainGlobals "is_whole" = some (some (.ref f4)))
    (l4 : K.lookup f4 = some ⟨oc4, od4, .func (PySem.W.fnOf "is_whole" "is_whole" (defArgs s_is_whole) (defBody s_is_whole) (defScope s_is_whole) .none kV4 dc4 pm4 an4 cd4 ct4), sl4⟩)
    (c4 : PySem.W.codeIn K cd4 "is_whole" = true)
    (k4 : PySem.W.keepIn K (.ref f4) = true)
    (a5 : PySem.W.nsIn K mainGlobals "is_from_nought" = some (some (.ref f5)))
    (l5 : K.lookup f5 = some ⟨oc5, od5, .func (PySem.W.fnOf "is_from_nought" "is_from_nought" (defArgs s_is_from_nought) (defBody s_is_from_nought) (defScope s_is_from_nought) .none kV5 dc5 pm5 an5 cd5 ct5), sl5⟩)
    (c5 : PySem.W.codeIn K cd5 "is_from_nought" = true)
    (k5 : PySem.W.keepIn K (.ref f5) = true)
    (a6 : PySem.W.nsIn K mainGlobals "is_name" = some (some (.ref f6)))
    (l6 : K.lookup f6 = some ⟨oc6, od6, .func (PySem.W.fnOf "is_name" "is_name" (defArgs s_is_name) (defBody s_is_name) (defScope s_is_name) .none kV6 dc6 pm6 an6 cd6 ct6), sl6⟩)
    (c6 : PySem.W.codeIn K cd6 "is_name" = true)
    (k6 : PySem.W.keepIn K (.ref f6) = true)
    (a7 : PySem.W.nsIn K mainGlobals "is_number" = some (some (.ref f7)))
    (l7 : K.lookup f7 = some ⟨oc7, od7, .func (PySem.W.fnOf "is_number" "is_number" (defArgs s_is_number) (defBody s_is_number) (defScope s_is_number) .none kV7 dc7 pm7 an7 cd7 ct7), sl7⟩)
    (c7 : PySem.W.codeIn K cd7 "is_number" = true)
    (k7 : PySem.W.keepIn K (.ref f7) = true)
    (a8 : PySem.W.findIn K (.ref C_Rule) "__init__" = some (some (.ref f8)))
    (i8 : PySem.W.isFn K (.ref f8) = true)
    (l8 : K.lookup f8 = some ⟨oc8, od8, .func (PySem.W.fnOf "__init__" "Rule.__init__" (defArgs s_Rule_init) (defBody s_Rule_init) (defScope s_Rule_init) (.ref T8) kV8 dc8 pm8 an8 cd8 ct8), sl8⟩)
    (d8 : K.lookup T8 = some ⟨oT8, dT8, .seq (List.toArray [.int 0 td8_0, .int 10 td8_1, .int 0 td8_2, .bool true]) nT8, sT8⟩)
    (c8 : PySem.W.codeIn K cd8 "Rule.__init__" = true)
    (k8 : PySem.W.keepIn K (.ref f8) = true)
    (a9 : PySem.W.nsIn K mainGlobals "same_look" = some (some (.ref f9)))
    (l9 : K.lookup f9 = some ⟨oc9, od9, .func (PySem.W.fnOf "same_look" "same_look" (defArgs s_same_look) (defBody s_same_look) (defScope s_same_look) .none kV9 dc9 pm9 an9 cd9 ct9), sl9⟩)
    (c9 : PySem.W.codeIn K cd9 "same_look" = true)
    (k9 : PySem.W.keepIn K (.ref f9) = true)
    (a10 : PySem.W.nsIn K mainGlobals "common_part" = some (some (.ref f10)))
    (l10 : K.lookup f10 = some ⟨oc10, od10, .func (PySem.W.fnOf "common_part" "common_part" (defArgs s_common_part) (defBody s_common_part) (defScope s_common_part) .none kV10 dc10 pm10 an10 cd10 ct10), sl10⟩)
    (c10 : PySem.W.codeIn K cd10 "common_part" = true)
    (k10 : PySem.W.keepIn K (.ref f10) = true)
    (a11 : PySem.W.findIn K (.ref C_Share) "__init__" = some (some (.ref f11)))
    (i11 : PySem.W.isFn K (.ref f11) = true)
    (l11 : K.lookup f11 = some ⟨oc11, od11, .func (PySem.W.fnOf "__init__" "Share.__init__" (defArgs s_Share_init) (defBody s_Share_init) (defScope s_Share_init) (.ref T11) kV11 dc11 pm11 an11 cd11 ct11), sl11⟩)
    (d11 : K.lookup T11 = some ⟨oT11, dT11, .seq (List.toArray [.int 1 td11_0]) nT11, sT11⟩)
    (c11 : PySem.W.codeIn K cd11 "Share.__init__" = true)
    (k11 : PySem.W.keepIn K (.ref f11) = true)
    (a12 : PySem.W.findIn K (.ref C_Share) "plus" = some (some (.ref f12)))
    (i12 : PySem.W.isFn K (.ref f12) = true)
    (l12 : K.lookup f12 = some ⟨oc12, od12, .func (PySem.W.fnOf "plus" "Share.plus" (defArgs s_Share_plus) (defBody s_Share_plus) (defScope s_Share_plus) .none kV12 dc12 pm12 an12 cd12 ct12), sl12⟩)
    (c12 : PySem.W.codeIn K cd12 "Share.plus" = true)
    (k12 : PySem.W.keepIn K (.ref f12) = true)
    (a13 : PySem.W.findIn K (.ref C_Share) "minus" = some (some (.ref f13)))
    (i13 : PySem.W.isFn K (.ref f13) = true)
    (l13 : K.lookup f13 = some ⟨oc13, od13, .func (PySem.W.fnOf "minus" "Share.minus" (defArgs s_Share_minus) (defBody s_Share_minus) (defScope s_Share_minus) .none kV13 dc13 pm13 an13 cd13 ct13), sl13⟩)
    (c13 : PySem.W.codeIn K cd13 "Share.minus" = true)
    (k13 : PySem.W.keepIn K (.ref f13) = true)
    (a14 : PySem.W.findIn K (.ref C_Share) "is_below" = some (some (.ref f14)))
    (i14 : PySem.W.isFn K (.ref f14) = true)
    (l14 : K.lookup f14 = some ⟨oc14, od14, .func (PySem.W.fnOf "is_below" "Share.is_below" (defArgs s_Share_is_below) (defBody s_Share_is_below) (defScope s_Share_is_below) .none kV14 dc14 pm14 an14 cd14 ct14), sl14⟩)
    (c14 : PySem.W.codeIn K cd14 "Share.is_below" = true)
    (k14 : PySem.W.keepIn K (.ref f14) = true)
    (a15 : PySem.W.findIn K (.ref C_Share) "__eq__" = some (some (.ref f15)))
    (i15 : PySem.W.isFn K (.ref f15) = true)
    (l15 : K.lookup f15 = some ⟨oc15, od15, .func (PySem.W.fnOf "__eq__" "Share.__eq__" (defArgs s_Share_eq) (defBody s_Share_eq) (defScope s_Share_eq) .none kV15 dc15 pm15 an15 cd15 ct15), sl15⟩)
    (c15 : PySem.W.codeIn K cd15 "Share.__eq__" = true)
    (k15 : PySem.W.keepIn K (.ref f15) = true)
    (a16 : PySem.W.nsIn K mainGlobals "worth" = some (some (.ref f16)))
    (l16 : K.lookup f16 = some ⟨oc16, od16, .func (PySem.W.fnOf "worth" "worth" (defArgs s_worth) (defBody s_worth) (defScope s_worth) (.ref T16) kV16 dc16 pm16 an16 cd16 ct16), sl16⟩)
    (d16 : K.lookup T16 = some ⟨oT16, dT16, .seq (List.toArray [.int 1 td16_0, .int 2 td16_1]) nT16, sT16⟩)
    (c16 : PySem.W.codeIn K cd16 "worth" = true)
    (k16 : PySem.W.keepIn K (.ref f16) = true)
    (a17 : PySem.W.nsIn K mainGlobals "check_rule" = some (some (.ref f17)))
    (l17 : K.lookup f17 = some ⟨oc17, od17, .func (PySem.W.fnOf "check_rule" "check_rule" (defArgs s_check_rule) (defBody s_check_rule) (defScope s_check_rule) .none kV17 dc17 pm17 an17 cd17 ct17), sl17⟩)
    (c17 : PySem.W.codeIn K cd17 "check_rule" = true)
    (k17 : PySem.W.keepIn K (.ref f17) = true)
    (a18 : PySem.W.nsIn K mainGlobals "may_be_partners" = some (some (.ref f18)))
    (l18 : K.lookup f18 = some ⟨oc18, od18, .func (PySem.W.fnOf "may_be_partners" "may_be_partners" (defArgs s_may_be_partners) (defBody s_may_be_partners) (defScope s_may_be_partners) .none kV18 dc18 pm18 an18 cd18 ct18), sl18⟩)
    (c18 : PySem.W.codeIn K cd18 "may_be_partners" = true)
    (k18 : PySem.W.keepIn K (.ref f18) = true)
    (a19 : PySem.W.nsIn K mainGlobals "may_stand_next" = some (some (.ref f19)))
    (l19 : K.lookup f19 = some ⟨oc19, od19, .func (PySem.W.fnOf "may_stand_next" "may_stand_next" (defArgs s_may_stand_next) (defBody s_may_stand_next) (defScope s_may_stand_next) .none kV19 dc19 pm19 an19 cd19 ct19), sl19⟩)
    (c19 : PySem.W.codeIn K cd19 "may_stand_next" = true)
    (k19 : PySem.W.keepIn K (.ref f19) = true)
    (a20 : PySem.W.nsIn K mainGlobals "pairs_of" = some (some (.ref f20)))
    (l20 : K.lookup f20 = some ⟨oc20, od20, .func (PySem.W.fnOf "pairs_of" "pairs_of" (defArgs s_pairs_of) (defBody s_pairs_of) (defScope s_pairs_of) .none kV20 dc20 pm20 an20 cd20 ct20), sl20⟩)
    (c20 : PySem.W.codeIn K cd20 "pairs_of" = true)
    (k20 : PySem.W.keepIn K (.ref f20) = true)
    (a21 : PySem.W.findIn K (.ref C_Asked) "__init__" = some (some (.ref f21)))
    (i21 : PySem.W.isFn K (.ref f21) = true)
    (l21 : K.lookup f21 = some ⟨oc21, od21, .func (PySem.W.fnOf "__init__" "Asked.__init__" (defArgs s_Asked_init) (defBody s_Asked_init) (defScope s_Asked_init) .none kV21 dc21 pm21 an21 cd21 ct21), sl21⟩)
    (c21 : PySem.W.codeIn K cd21 "Asked.__init__" = true)
    (k21 : PySem.W.keepIn K (.ref f21) = true)
    (a22 : PySem.W.findIn K (.ref C_Asked) "worth_with" = some (some (.ref f22)))
    (i22 : PySem.W.isFn K (.ref f22) = true)
    (l22 : K.lookup f22 = some ⟨oc22, od22, .func (PySem.W.fnOf "worth_with" "Asked.worth_with" (defArgs s_Asked_worth_with) (defBody s_Asked_worth_with) (defScope s_Asked_worth_with) .none kV22 dc22 pm22 an22 cd22 ct22), sl22⟩)
    (c22 : PySem.W.codeIn K cd22 "Asked.worth_with" = true)
    (k22 : PySem.W.keepIn K (.ref f22) = true)
    (a23 : PySem.W.findIn K (.ref C_Asked) "goes_on_by" = some (some (.ref f23)))
    (i23 : PySem.W.isFn K (.ref f23) = true)
    (l23 : K.lookup f23 = some ⟨oc23, od23, .func (PySem.W.fnOf "goes_on_by" "Asked.goes_on_by" (defArgs s_Asked_goes_on_by) (defBody s_Asked_goes_on_by) (defScope s_Asked_goes_on_by) .none kV23 dc23 pm23 an23 cd23 ct23), sl23⟩)
    (c23 : PySem.W.codeIn K cd23 "Asked.goes_on_by" = true)
    (k23 : PySem.W.keepIn K (.ref f23) = true)
    (a24 : PySem.W.nsIn K mainGlobals "asked_with" = some (some (.ref f24)))
    (l24 : K.lookup f24 = some ⟨oc24, od24, .func (PySem.W.fnOf "asked_with" "asked_with" (defArgs s_asked_with) (defBody s_asked_with) (defScope s_asked_with) .none kV24 dc24 pm24 an24 cd24 ct24), sl24⟩)
    (c24 : PySem.W.codeIn K cd24 "asked_with" = true)
    (k24 : PySem.W.keepIn K (.ref f24) = true)
    (a25 : PySem.W.nsIn K mainGlobals "greatest" = some (some (.ref f25)))
    (l25 : K.lookup f25 = some ⟨oc25, od25, .func (PySem.W.fnOf "greatest" "greatest" (defArgs s_greatest) (defBody s_greatest) (defScope s_greatest) .none kV25 dc25 pm25 an25 cd25 ct25), sl25⟩)
    (c25 : PySem.W.codeIn K cd25 "greatest" = true)
    (k25 : PySem.W.keepIn K (.ref f25) = true)
    (a26 : PySem.W.nsIn K mainGlobals "rows_of" = some (some (.ref f26)))
    (l26 : K.lookup f26 = some ⟨oc26, od26, .func (PySem.W.fnOf "rows_of" "rows_of" (defArgs s_rows_of) (defBody s_rows_of) (defScope s_rows_of) .none kV26 dc26 pm26 an26 cd26 ct26), sl26⟩)
    (c26 : PySem.W.codeIn K cd26 "rows_of" = true)
    (k26 : PySem.W.keepIn K (.ref f26) = true)
    (a27 : PySem.W.nsIn K mainGlobals "best_paper" = some (some (.ref f27)))
    (l27 : K.lookup f27 = some ⟨oc27, od27, .func (PySem.W.fnOf "best_paper" "best_paper" (defArgs s_best_paper) (defBody s_best_paper) (defScope s_best_paper) (.ref T27) kV27 dc27 pm27 an27 cd27 ct27), sl27⟩)
    (d27 : K.lookup T27 = some ⟨oT27, dT27, .seq (List.toArray [.int 1 td27_0, .int 2 td27_1]) nT27, sT27⟩)
    (c27 : PySem.W.codeIn K cd27 "best_paper" = true)
    (k27 : PySem.W.keepIn K (.ref f27) = true)
    (a28 : PySem.W.nsIn K mainGlobals "is_row" = some (some (.ref f28)))
    (l28 : K.lookup f28 = some ⟨oc28, od28, .func (PySem.W.fnOf "is_row" "is_row" (defArgs s_is_row) (defBody s_is_row) (defScope s_is_row) .none kV28 dc28 pm28 an28 cd28 ct28), sl28⟩)
    (c28 : PySem.W.codeIn K cd28 "is_row" = true)
    (k28 : PySem.W.keepIn K (.ref f28) = true)
    (a29 : PySem.W.nsIn K mainGlobals "shares_by_out" = some (some (.ref f29)))
    (l29 : K.lookup f29 = some ⟨oc29, od29, .func (PySem.W.fnOf "shares_by_out" "shares_by_out" (defArgs s_shares_by_out) (defBody s_shares_by_out) (defScope s_shares_by_out) .none kV29 dc29 pm29 an29 cd29 ct29), sl29⟩)
    (c29 : PySem.W.codeIn K cd29 "shares_by_out" = true)
    (k29 : PySem.W.keepIn K (.ref f29) = true)
    (a30 : PySem.W.nsIn K mainGlobals "has_all" = some (some (.ref f30)))
    (l30 : K.lookup f30 = some ⟨oc30, od30, .func (PySem.W.fnOf "has_all" "has_all" (defArgs s_has_all) (defBody s_has_all) (defScope s_has_all) .none kV30 dc30 pm30 an30 cd30 ct30), sl30⟩)
    (c30 : PySem.W.codeIn K cd30 "has_all" = true)
    (k30 : PySem.W.keepIn K (.ref f30) = true)
    (a31 : PySem.W.nsIn K mainGlobals "none_above" = some (some (.ref f31)))
    (l31 : K.lookup f31 = some ⟨oc31, od31, .func (PySem.W.fnOf "none_above" "none_above" (defArgs s_none_above) (defBody s_none_above) (defScope s_none_above) .none kV31 dc31 pm31 an31 cd31 ct31), sl31⟩)
    (c31 : PySem.W.codeIn K cd31 "none_above" = true)
    (k31 : PySem.W.keepIn K (.ref f31) = true)
    (a32 : PySem.W.nsIn K mainGlobals "bars_better" = some (some (.ref f32)))
    (l32 : K.lookup f32 = some ⟨oc32, od32, .func (PySem.W.fnOf "bars_better" "bars_better" (defArgs s_bars_better) (defBody s_bars_better) (defScope s_bars_better) (.ref T32) kV32 dc32 pm32 an32 cd32 ct32), sl32⟩)
    (d32 : K.lookup T32 = some ⟨oT32, dT32, .seq (List.toArray [.int 1 td32_0, .int 2 td32_1]) nT32, sT32⟩)
    (c32 : PySem.W.codeIn K cd32 "bars_better" = true)
    (k32 : PySem.W.keepIn K (.ref f32) = true)
    (a33 : PySem.W.nsIn K mainGlobals "is_measure" = some (some (.ref f33)))
    (l33 : K.lookup f33 = some ⟨oc33, od33, .func (PySem.W.fnOf "is_measure" "is_measure" (defArgs s_is_measure) (defBody s_is_measure) (defScope s_is_measure) .none kV33 dc33 pm33 an33 cd33 ct33), sl33⟩)
    (c33 : PySem.W.codeIn K cd33 "is_measure" = true)
    (k33 : PySem.W.keepIn K (.ref f33) = true)
    (a34 : PySem.W.findIn K (.ref C_Bead) "__init__" = some (some (.ref f34)))
    (i34 : PySem.W.isFn K (.ref f34) = true)
    (l34 : K.lookup f34 = some ⟨oc34, od34, .func (PySem.W.fnOf "__init__" "Bead.__init__" (defArgs s_Bead_init) (defBody s_Bead_init) (defScope s_Bead_init) (.ref T34) kV34 dc34 pm34 an34 cd34 ct34), sl34⟩)
    (d34 : K.lookup T34 = some ⟨oT34, dT34, .seq (List.toArray [.str "round" td34_0, .bool false]) nT34, sT34⟩)
    (c34 : PySem.W.codeIn K cd34 "Bead.__init__" = true)
    (k34 : PySem.W.keepIn K (.ref f34) = true)
    (a35 : PySem.W.findIn K (.ref C_Bead) "row" = some (some (.ref f35)))
    (i35 : PySem.W.isFn K (.ref f35) = true)
    (l35 : K.lookup f35 = some ⟨oc35, od35, .func (PySem.W.fnOf "row" "Bead.row" (defArgs s_Bead_row) (defBody s_Bead_row) (defScope s_Bead_row) .none kV35 dc35 pm35 an35 cd35 ct35), sl35⟩)
    (c35 : PySem.W.codeIn K cd35 "Bead.row" = true)
    (k35 : PySem.W.keepIn K (.ref f35) = true)
    (a36 : PySem.W.nsIn K mainGlobals "_law_cell_at" = some (some (.ref f36)))
    (l36 : K.lookup f36 = some ⟨oc36, od36, .func (PySem.W.fnOf "_law_cell_at" "_law_cell_at" (defArgs s_cell_at) (defBody s_cell_at) (defScope s_cell_at) .none kV36 dc36 pm36 an36 cd36 ct36), sl36⟩)
    (c36 : PySem.W.codeIn K cd36 "_law_cell_at" = true)
    (k36 : PySem.W.keepIn K (.ref f36) = true)
    (a37 : PySem.W.nsIn K mainGlobals "_law_well" = some (some (.ref f37)))
    (l37 : K.lookup f37 = some ⟨oc37, od37, .func (PySem.W.fnOf "_law_well" "_law_well" (defArgs s_well) (defBody s_well) (defScope s_well) .none kV37 dc37 pm37 an37 cd37 ct37), sl37⟩)
    (c37 : PySem.W.codeIn K cd37 "_law_well" = true)
    (k37 : PySem.W.keepIn K (.ref f37) = true)
    (a38 : PySem.W.nsIn K mainGlobals "_law_draw" = some (some (.ref f38)))
    (l38 : K.lookup f38 = some ⟨oc38, od38, .func (PySem.W.fnOf "_law_draw" "_law_draw" (defArgs s_draw) (defBody s_draw) (defScope s_draw) .none kV38 dc38 pm38 an38 cd38 ct38), sl38⟩)
    (c38 : PySem.W.codeIn K cd38 "_law_draw" = true)
    (k38 : PySem.W.keepIn K (.ref f38) = true)
    (a39 : PySem.W.nsIn K mainGlobals "_law_one" = some (some (.ref f39)))
    (l39 : K.lookup f39 = some ⟨oc39, od39, .func (PySem.W.fnOf "_law_one" "_law_one" (defArgs s_one) (defBody s_one) (defScope s_one) .none kV39 dc39 pm39 an39 cd39 ct39), sl39⟩)
    (c39 : PySem.W.codeIn K cd39 "_law_one" = true)
    (k39 : PySem.W.keepIn K (.ref f39) = true)
    (a40 : PySem.W.nsIn K mainGlobals "_law_four" = some (some (.ref f40)))
    (l40 : K.lookup f40 = some ⟨oc40, od40, .func (PySem.W.fnOf "_law_four" "_law_four" (defArgs s_four) (defBody s_four) (defScope s_four) .none kV40 dc40 pm40 an40 cd40 ct40), sl40⟩)
    (c40 : PySem.W.codeIn K cd40 "_law_four" = true)
    (k40 : PySem.W.keepIn K (.ref f40) = true)
    (a41 : PySem.W.nsIn K mainGlobals "_law_rows" = some (some (.ref f41)))
    (l41 : K.lookup f41 = some ⟨oc41, od41, .func (PySem.W.fnOf "_law_rows" "_law_rows" (defArgs s_rows) (defBody s_rows) (defScope s_rows) .none kV41 dc41 pm41 an41 cd41 ct41), sl41⟩)
    (c41 : PySem.W.codeIn K cd41 "_law_rows" = true)
    (k41 : PySem.W.keepIn K (.ref f41) = true)
    (a42 : PySem.W.nsIn K mainGlobals "_law_rates" = some (some (.ref f42)))
    (l42 : K.lookup f42 = some ⟨oc42, od42, .func (PySem.W.fnOf "_law_rates" "_law_rates" (defArgs s_rates) (defBody s_rates) (defScope s_rates) .none kV42 dc42 pm42 an42 cd42 ct42), sl42⟩)
    (c42 : PySem.W.codeIn K cd42 "_law_rates" = true)
    (k42 : PySem.W.keepIn K (.ref f42) = true)
    (a43 : PySem.W.nsIn K mainGlobals "_law_beads" = some (some (.ref f43)))
    (l43 : K.lookup f43 = some ⟨oc43, od43, .func (PySem.W.fnOf "_law_beads" "_law_beads" (defArgs s_beads) (defBody s_beads) (defScope s_beads) .none kV43 dc43 pm43 an43 cd43 ct43), sl43⟩)
    (c43 : PySem.W.codeIn K cd43 "_law_beads" = true)
    (k43 : PySem.W.keepIn K (.ref f43) = true)
    (a44 : PySem.W.nsIn K mainGlobals "_law_worth" = some (some (.ref f44)))
    (l44 : K.lookup f44 = some ⟨oc44, od44, .func (PySem.W.fnOf "_law_worth" "_law_worth" (defArgs s_Lworth) (defBody s_Lworth) (defScope s_Lworth) .none kV44 dc44 pm44 an44 cd44 ct44), sl44⟩)
    (c44 : PySem.W.codeIn K cd44 "_law_worth" = true)
    (k44 : PySem.W.keepIn K (.ref f44) = true)
    (a45 : PySem.W.nsIn K mainGlobals "_law_plus" = some (some (.ref f45)))
    (l45 : K.lookup f45 = some ⟨oc45, od45, .func (PySem.W.fnOf "_law_plus" "_law_plus" (defArgs s_plus) (defBody s_plus) (defScope s_plus) .none kV45 dc45 pm45 an45 cd45 ct45), sl45⟩)
    (c45 : PySem.W.codeIn K cd45 "_law_plus" = true)
    (k45 : PySem.W.keepIn K (.ref f45) = true)
    (a46 : PySem.W.nsIn K mainGlobals "_law_less" = some (some (.ref f46)))
    (l46 : K.lookup f46 = some ⟨oc46, od46, .func (PySem.W.fnOf "_law_less" "_law_less" (defArgs s_less) (defBody s_less) (defScope s_less) .none kV46 dc46 pm46 an46 cd46 ct46), sl46⟩)
    (c46 : PySem.W.codeIn K cd46 "_law_less" = true)
    (k46 : PySem.W.keepIn K (.ref f46) = true)
    (a47 : PySem.W.nsIn K mainGlobals "_law_is" = some (some (.ref f47)))
    (l47 : K.lookup f47 = some ⟨oc47, od47, .func (PySem.W.fnOf "_law_is" "_law_is" (defArgs s_is) (defBody s_is) (defScope s_is) .none kV47 dc47 pm47 an47 cd47 ct47), sl47⟩)
    (c47 : PySem.W.codeIn K cd47 "_law_is" = true)
    (k47 : PySem.W.keepIn K (.ref f47) = true)
    (a48 : PySem.W.nsIn K mainGlobals "_law_next_in" = some (some (.ref f48)))
    (l48 : K.lookup f48 = some ⟨oc48, od48, .func (PySem.W.fnOf "_law_next_in" "_law_next_in" (defArgs s_next_in) (defBody s_next_in) (defScope s_next_in) .none kV48 dc48 pm48 an48 cd48 ct48), sl48⟩)
    (c48 : PySem.W.codeIn K cd48 "_law_next_in" = true)
    (k48 : PySem.W.keepIn K (.ref f48) = true)
    (a49 : PySem.W.nsIn K mainGlobals "_law_pairs" = some (some (.ref f49)))
    (l49 : K.lookup f49 = some ⟨oc49, od49, .func (PySem.W.fnOf "_law_pairs" "_law_pairs" (defArgs s_pairs) (defBody s_pairs) (defScope s_pairs) .none kV49 dc49 pm49 an49 cd49 ct49), sl49⟩)
    (c49 : PySem.W.codeIn K cd49 "_law_pairs" = true)
    (k49 : PySem.W.keepIn K (.ref f49) = true)
    (a50 : PySem.W.nsIn K mainGlobals "_law_inner" = some (some (.ref f50)))
    (l50 : K.lookup f50 = some ⟨oc50, od50, .func (PySem.W.fnOf "_law_inner" "_law_inner" (defArgs s_inner) (defBody s_inner) (defScope s_inner) .none kV50 dc50 pm50 an50 cd50 ct50), sl50⟩)
    (c50 : PySem.W.codeIn K cd50 "_law_inner" = true)
    (k50 : PySem.W.keepIn K (.ref f50) = true)
    (a51 : PySem.W.nsIn K mainGlobals "_law_most" = some (some (.ref f51)))
    (l51 : K.lookup f51 = some ⟨oc51, od51, .func (PySem.W.fnOf "_law_most" "_law_most" (defArgs s_most) (defBody s_most) (defScope s_most) .none kV51 dc51 pm51 an51 cd51 ct51), sl51⟩)
    (c51 : PySem.W.codeIn K cd51 "_law_most" = true)
    (k51 : PySem.W.keepIn K (.ref f51) = true)
    (a52 : PySem.W.nsIn K mainGlobals "_law_top" = some (some (.ref f52)))
    (l52 : K.lookup f52 = some ⟨oc52, od52, .func (PySem.W.fnOf "_law_top" "_law_top" (defArgs s_top) (defBody s_top) (defScope s_top) .none kV52 dc52 pm52 an52 cd52 ct52), sl52⟩)
    (c52 : PySem.W.codeIn K cd52 "_law_top" = true)
    (k52 : PySem.W.keepIn K (.ref f52) = true)
    (a53 : PySem.W.nsIn K mainGlobals "_law_case" = some (some (.ref f53)))
    (l53 : K.lookup f53 = some ⟨oc53, od53, .func (PySem.W.fnOf "_law_case" "_law_case" (defArgs s_case) (defBody s_case) (defScope s_case) .none kV53 dc53 pm53 an53 cd53 ct53), sl53⟩)
    (c53 : PySem.W.codeIn K cd53 "_law_case" = true)
    (k53 : PySem.W.keepIn K (.ref f53) = true)
    (a54 : PySem.W.nsIn K mainGlobals "_law_shares" = some (some (.ref f54)))
    (l54 : K.lookup f54 = some ⟨oc54, od54, .func (PySem.W.fnOf "_law_shares" "_law_shares" (defArgs s_shares) (defBody s_shares) (defScope s_shares) .none kV54 dc54 pm54 an54 cd54 ct54), sl54⟩)
    (c54 : PySem.W.codeIn K cd54 "_law_shares" = true)
    (k54 : PySem.W.keepIn K (.ref f54) = true)
    (a55 : PySem.W.nsIn K mainGlobals "_law_by_defaults" = some (some (.ref f55)))
    (l55 : K.lookup f55 = some ⟨oc55, od55, .func (PySem.W.fnOf "_law_by_defaults" "_law_by_defaults" (defArgs s_by_defaults) (defBody s_by_defaults) (defScope s_by_defaults) .none kV55 dc55 pm55 an55 cd55 ct55), sl55⟩)
    (c55 : PySem.W.codeIn K cd55 "_law_by_defaults" = true)
    (k55 : PySem.W.keepIn K (.ref f55) = true)
    (a56 : PySem.W.nsIn K mainGlobals "law" = some (some (.ref f56)))
    (l56 : K.lookup f56 = some ⟨oc56, od56, .func (PySem.W.fnOf "law" "law" (defArgs s_law) (defBody s_law) (defScope s_law) .none kV56 dc56 pm56 an56 cd56 ct56), sl56⟩)
    (c56 : PySem.W.codeIn K cd56 "law" = true)
    (k56 : PySem.W.keepIn K (.ref f56) = true)
    (q0 : PySem.W.nsIn K mainGlobals "LONGEST_NAME" = some (some (.int 8 tc0)))
    (q1 : PySem.W.nsIn K mainGlobals "GREATEST_NUMBER" = some (some (.int 1000000000 tc1)))
    (q4 : PySem.W.nsIn K mainGlobals "ROW_LENGTH" = some (some (.int 4 tc4)))
    (q5 : PySem.W.nsIn K mainGlobals "GREATEST_MEASURE" = some (some (.int 1000000 tc5)))
    (z0 : PySem.W.nsIn K mainGlobals "ValueError" = some none)
    (z1 : PySem.W.nsIn K mainGlobals "LookupError" = some none)
    (z2 : PySem.W.nsIn K mainGlobals "ZeroDivisionError" = some none)
    (z3 : PySem.W.nsIn K mainGlobals "bool" = some none)
    (z4 : PySem.W.nsIn K mainGlobals "isinstance" = some none)
    (z5 : PySem.W.nsIn K mainGlobals "int" = some none)
    (z6 : PySem.W.nsIn K mainGlobals "len" = some none)
    (z7 : PySem.W.nsIn K mainGlobals "str" = some none)
    (z8 : PySem.W.nsIn K mainGlobals "all" = some none)
    (z9 : PySem.W.nsIn K mainGlobals "abs" = some none)
    (z10 : PySem.W.nsIn K mainGlobals "sorted" = some none)
    (z11 : PySem.W.nsIn K mainGlobals "range" = some none)
    (z12 : PySem.W.nsIn K mainGlobals "reversed" = some none)
    (z13 : PySem.W.nsIn K mainGlobals "tuple" = some none)
    (z14 : PySem.W.nsIn K mainGlobals "list" = some none)
    (z15 : PySem.W.nsIn K mainGlobals "any" = some none)
    (z16 : PySem.W.nsIn K mainGlobals "enumerate" = some none)
    (z17 : PySem.W.nsIn K mainGlobals "min" = some none)
    (z18 : PySem.W.nsIn K mainGlobals "dict" = some none)
    (xL_BadRule : K.lookup C_BadRule = some (excClassObj nm_BadRule q_BadRule C_BadRule N_BadRule bs_BadRule [.ref C_PearlError, .type "ValueError", .type "Exception", .type "BaseException", .type "object"] true sn_BadRule sub_BadRule ab_BadRule col_BadRule dd_BadRule m0_BadRule m1_BadRule m2_BadRule m3_BadRule m5_BadRule "ValueError.__new__"))
    (xsa_BadRule : PySem.W.findIn K (.ref C_BadRule) "__setattr__" = some (some (.builtin "object.__setattr__")))
    (xe_BadRule : PySem.W.subIn K (.ref C_BadRule) (.type "BaseException") = some true)
    (xt_BadRule : PySem.W.typeIn K (.ref C_BadRule) = some (.type "type"))
    (xk_BadRule : PySem.W.keepIn K (.ref C_BadRule) = true)
    (xi_BadRule : PySem.W.findIn K (.ref C_BadRule) "__init__" = some (some (.ref f0)))
    (xga_BadRule : PySem.W.findIn K (.ref C_BadRule) "__getattribute__" = some (some (.builtin "BaseException.__getattribute__")))
    (xgg_BadRule : PySem.W.findIn K (.ref C_BadRule) "__getattr__" = some none)
    (xhd_BadRule : PySem.W.hasDictIn K C_BadRule = true)
    (xca_BadRule : PySem.W.findIn K (.ref C_BadRule) "__class__" = some (some (.builtin "object.__class__")))
    (xcg_BadRule : PySem.W.specialIn K (.builtin "object.__class__") "__get__" = some (some (.builtin "getset_descriptor.__get__")))
    (xct_BadRule : PySem.W.takesIn K (.builtin "object.__class__") = some true)
    (xmo_BadRule : PySem.W.mroIn K C_BadRule (.type "object") = some true)
    (xn_BadRule_why : PySem.W.findIn K (.ref C_BadRule) "why" = some none)
    (xs_BadRule_PearlError : PySem.W.subIn K (.ref C_BadRule) (.ref C_PearlError) = some true)
    (ye_PearlError : PySem.W.subIn K (.ref C_PearlError) (.type "BaseException") = some true)
    (yh_PearlError : PySem.W.hasDictIn K C_PearlError = true)
    (yt_PearlError : PySem.W.typeIn K (.ref C_PearlError) = some (.type "type"))
    (xL_NoShare : K.lookup C_NoShare = some (excClassObj nm_NoShare q_NoShare C_NoShare N_NoShare bs_NoShare [.type "ZeroDivisionError", .type "ArithmeticError", .type "Exception", .type "BaseException", .type "object"] true sn_NoShare sub_NoShare ab_NoShare col_NoShare dd_NoShare m0_NoShare m1_NoShare m2_NoShare m3_NoShare m5_NoShare "ZeroDivisionError.__new__"))
    (xsa_NoShare : PySem.W.findIn K (.ref C_NoShare) "__setattr__" = some (some (.builtin "object.__setattr__")))
    (xe_NoShare : PySem.W.subIn K (.ref C_NoShare) (.type "BaseException") = some true)
    (xt_NoShare : PySem.W.typeIn K (.ref C_NoShare) = some (.type "type"))
    (xk_NoShare : PySem.W.keepIn K (.ref C_NoShare) = true)
    (xi_NoShare : PySem.W.findIn K (.ref C_NoShare) "__init__" = some (some (.ref f2)))
    (xga_NoShare : PySem.W.findIn K (.ref C_NoShare) "__getattribute__" = some (some (.builtin "BaseException.__getattribute__")))
    (xgg_NoShare : PySem.W.findIn K (.ref C_NoShare) "__getattr__" = some none)
    (xhd_NoShare : PySem.W.hasDictIn K C_NoShare = true)
    (xca_NoShare : PySem.W.findIn K (.ref C_NoShare) "__class__" = some (some (.builtin "object.__class__")))
    (xcg_NoShare : PySem.W.specialIn K (.builtin "object.__class__") "__get__" = some (some (.builtin "getset_descriptor.__get__")))
    (xct_NoShare : PySem.W.takesIn K (.builtin "object.__class__") = some true)
    (xmo_NoShare : PySem.W.mroIn K C_NoShare (.type "object") = some true)
    (xn_NoShare_num : PySem.W.findIn K (.ref C_NoShare) "num" = some none)
    (xs_NoShare_NoShare : PySem.W.subIn K (.ref C_NoShare) (.ref C_NoShare) = some true)
    (ye_NoShare : PySem.W.subIn K (.ref C_NoShare) (.type "BaseException") = some true)
    (yh_NoShare : PySem.W.hasDictIn K C_NoShare = true)
    (yt_NoShare : PySem.W.typeIn K (.ref C_NoShare) = some (.type "type"))
    (xL_NoSuch : K.lookup C_NoSuch = some (excClassObj nm_NoSuch q_NoSuch C_NoSuch N_NoSuch bs_NoSuch [.type "LookupError", .type "Exception", .type "BaseException", .type "object"] true sn_NoSuch sub_NoSuch ab_NoSuch col_NoSuch dd_NoSuch m0_NoSuch m1_NoSuch m2_NoSuch m3_NoSuch m5_NoSuch "LookupError.__new__"))
    (xsa_NoSuch : PySem.W.findIn K (.ref C_NoSuch) "__setattr__" = some (some (.builtin "object.__setattr__")))
    (xe_NoSuch : PySem.W.subIn K (.ref C_NoSuch) (.type "BaseException") = some true)
    (xt_NoSuch : PySem.W.typeIn K (.ref C_NoSuch) = some (.type "type"))
    (xk_NoSuch : PySem.W.keepIn K (.ref C_NoSuch) = true)
    (xi_NoSuch : PySem.W.findIn K (.ref C_NoSuch) "__init__" = some (some (.ref f1)))
    (xga_NoSuch : PySem.W.findIn K (.ref C_NoSuch) "__getattribute__" = some (some (.builtin "BaseException.__getattribute__")))
    (xgg_NoSuch : PySem.W.findIn K (.ref C_NoSuch) "__getattr__" = some none)
    (xhd_NoSuch : PySem.W.hasDictIn K C_NoSuch = true)
    (xca_NoSuch : PySem.W.findIn K (.ref C_NoSuch) "__class__" = some (some (.builtin "object.__class__")))
    (xcg_NoSuch : PySem.W.specialIn K (.builtin "object.__class__") "__get__" = some (some (.builtin "getset_descriptor.__get__")))
    (xct_NoSuch : PySem.W.takesIn K (.builtin "object.__class__") = some true)
    (xmo_NoSuch : PySem.W.mroIn K C_NoSuch (.type "object") = some true)
    (xn_NoSuch_kind : PySem.W.findIn K (.ref C_NoSuch) "kind" = some none)
    (xn_NoSuch_name : PySem.W.findIn K (.ref C_NoSuch) "name" = some none)
    (xs_NoSuch_NoSuch : PySem.W.subIn K (.ref C_NoSuch) (.ref C_NoSuch) = some true)
    (ye_NoSuch : PySem.W.subIn K (.ref C_NoSuch) (.type "BaseException") = some true)
    (yh_NoSuch : PySem.W.hasDictIn K C_NoSuch = true)
    (yt_NoSuch : PySem.W.typeIn K (.ref C_NoSuch) = some (.type "type"))
    (vV_LookupError : PySem.W.findCls K (.type "LookupError") (.type "type") "__init__" = some (.val (.builtin "LookupError.__init__")))
    (vV_ZeroDivisionError : PySem.W.findCls K (.type "ZeroDivisionError") (.type "type") "__init__" = some (.val (.builtin "ZeroDivisionError.__init__")))
    (vV : PySem.W.findCls K (.type "ValueError") (.type "type") "__init__" = some (.val (.builtin "ValueError.__init__")))
    (ic1 : PySem.W.findIn K (.ref C_Share) "__class__" = some (some (.builtin "object.__class__")))
    (ic2 : PySem.W.specialIn K (.builtin "object.__class__") "__get__" = some (some (.builtin "getset_descriptor.__get__")))
    (ic3 : PySem.W.takesIn K (.builtin "object.__class__") = some true)
    (ic4 : PySem.W.mroIn K C_Share (.type "object") = some true) :
    ∃ fd : FuncData, (∀ (s : Shared) (v : Value), BindsTo s fd ⟨[v], []⟩ [("_law_script", v)]) ∧ ∀ base : Heap, K.In base → base.Ns mainGlobals mg → FnOk l.prog w K mg base CX0 32 fa fd ["_law_script"] (spLaw K) := by
  have e := hfa.symm.trans (PySem.W.mg_of X G a56)
  cases e
  have F0 : FunD K "__init__" "PearlError.__init__" (defArgs s_PearlError_init) (defBody s_PearlError_init) (defScope s_PearlError_init) [.str ""] [] f0 (PySem.W.fnOf "__init__" "PearlError.__init__" (defArgs s_PearlError_init) (defBody s_PearlError_init) (defScope s_PearlError_init) (.ref T0) kV0 dc0 pm0 an0 cd0 ct0) := ⟨⟨_, _, _, _, _, _, _, _, _, _, rfl, l0, c0, .inr ⟨(fun z => nomatch z), _, _, _, _, rfl, d0, rfl, .cons ⟨_, rfl⟩ (.nil)⟩, .inl rfl⟩, k0⟩
  have F1 := fun_mk (st := s_NoSuch_init) l1 c1 k1
  have F2 := fun_mk (st := s_NoShare_init) l2 c2 k2
  have F3 := fun_mk (st := s_is_int) l3 c3 k3
  have F4 := fun_mk (st := s_is_whole) l4 c4 k4
  have F5 := fun_mk (st := s_is_from_nought) l5 c5 k5
  have F6 := fun_mk (st := s_is_name) l6 c6 k6
  have F7 := fun_mk (st := s_is_number) l7 c7 k7
  have F8 : FunD K "__init__" "Rule.__init__" (defArgs s_Rule_init) (defBody s_Rule_init) (defScope s_Rule_init) [.int 0, .int 10, .int 0, .bl true] [] f8 (PySem.W.fnOf "__init__" "Rule.__init__" (defArgs s_Rule_init) (defBody s_Rule_init) (defScope s_Rule_init) (.ref T8) kV8 dc8 pm8 an8 cd8 ct8) := ⟨⟨_, _, _, _, _, _, _, _, _, _, rfl, l8, c8, .inr ⟨(fun z => nomatch z), _, _, _, _, rfl, d8, rfl, .cons ⟨_, rfl⟩ (.cons ⟨_, rfl⟩ (.cons ⟨_, rfl⟩ (.cons rfl (.nil))))⟩, .inl rfl⟩, k8⟩
  have F9 := fun_mk (st := s_same_look) l9 c9 k9
  have F10 := fun_mk (st := s_common_part) l10 c10 k10
  have F11 : FunD K "__init__" "Share.__init__" (defArgs s_Share_init) (defBody s_Share_init) (defScope s_Share_init) [.int 1] [] f11 (PySem.W.fnOf "__init__" "Share.__init__" (defArgs s_Share_init) (defBody s_Share_init) (defScope s_Share_init) (.ref T11) kV11 dc11 pm11 an11 cd11 ct11) := ⟨⟨_, _, _, _, _, _, _, _, _, _, rfl, l11, c11, .inr ⟨(fun z => nomatch z), _, _, _, _, rfl, d11, rfl, .cons ⟨_, rfl⟩ (.nil)⟩, .inl rfl⟩, k11⟩
  have F12 := fun_mk (st := s_Share_plus) l12 c12 k12
  have F13 := fun_mk (st := s_Share_minus) l13 c13 k13
  have F14 := fun_mk (st := s_Share_is_below) l14 c14 k14
  have F15 := fun_mk (st := s_Share_eq) l15 c15 k15
  have F16 : FunD K "worth" "worth" (defArgs s_worth) (defBody s_worth) (defScope s_worth) [.int 1, .int 2] [] f16 (PySem.W.fnOf "worth" "worth" (defArgs s_worth) (defBody s_worth) (defScope s_worth) (.ref T16) kV16 dc16 pm16 an16 cd16 ct16) := ⟨⟨_, _, _, _, _, _, _, _, _, _, rfl, l16, c16, .inr ⟨(fun z => nomatch z), _, _, _, _, rfl, d16, rfl, .cons ⟨_, rfl⟩ (.cons ⟨_, rfl⟩ (.nil))⟩, .inl rfl⟩, k16⟩
  have F17 := fun_mk (st := s_check_rule) l17 c17 k17
  have F18 := fun_mk (st := s_may_be_partners) l18 c18 k18
  have F19 := fun_mk (st := s_may_stand_next) l19 c19 k19
  have F20 := fun_mk (st := s_pairs_of) l20 c20 k20
  have F21 := fun_mk (st := s_Asked_init) l21 c21 k21
  have F22 := fun_mk (st := s_Asked_worth_with) l22 c22 k22
  have F23 := fun_mk (st := s_Asked_goes_on_by) l23 c23 k23
  have F24 := fun_mk (st := s_asked_with) l24 c24 k24
  have F25 := fun_mk (st := s_greatest) l25 c25 k25
  have F26 := fun_mk (st := s_rows_of) l26 c26 k26
  have F27 : FunD K "best_paper" "best_paper" (defArgs s_best_paper) (defBody s_best_paper) (defScope s_best_paper) [.int 1, .int 2] [] f27 (PySem.W.fnOf "best_paper" "best_paper" (defArgs s_best_paper) (defBody s_best_paper) (defScope s_best_paper) (.ref T27) kV27 dc27 pm27 an27 cd27 ct27) := ⟨⟨_, _, _, _, _, _, _, _, _, _, rfl, l27, c27, .inr ⟨(fun z => nomatch z), _, _, _, _, rfl, d27, rfl, .cons ⟨_, rfl⟩ (.cons ⟨_, rfl⟩ (.nil))⟩, .inl rfl⟩, k27⟩
  have F28 := fun_mk (st := s_is_row) l28 c28 k28
  have F29 := fun_mk (st := s_shares_by_out) l29 c29 k29
  have F30 := fun_mk (st := s_has_all) l30 c30 k30
  have F31 := fun_mk (st := s_none_above) l31 c31 k31
  have F32 : FunD K "bars_better" "bars_better" (defArgs s_bars_better) (defBody s_bars_better) (defScope s_bars_better) [.int 1, .int 2] [] f32 (PySem.W.fnOf "bars_better" "bars_better" (defArgs s_bars_better) (defBody s_bars_better) (defScope s_bars_better) (.ref T32) kV32 dc32 pm32 an32 cd32 ct32) := ⟨⟨_, _, _, _, _, _, _, _, _, _, rfl, l32, c32, .inr ⟨(fun z => nomatch z), _, _, _, _, rfl, d32, rfl, .cons ⟨_, rfl⟩ (.cons ⟨_, rfl⟩ (.nil))⟩, .inl rfl⟩, k32⟩
  have F33 := fun_mk (st := s_is_measure) l33 c33 k33
  have F34 : FunD K "__init__" "Bead.__init__" (defArgs s_Bead_init) (defBody s_Bead_init) (defScope s_Bead_init) [.str "round", .bl false] [] f34 (PySem.W.fnOf "__init__" "Bead.__init__" (defArgs s_Bead_init) (defBody s_Bead_init) (defScope s_Bead_init) (.ref T34) kV34 dc34 pm34 an34 cd34 ct34) := ⟨⟨_, _, _, _, _, _, _, _, _, _, rfl, l34, c34, .inr ⟨(fun z => nomatch z), _, _, _, _, rfl, d34, rfl, .cons ⟨_, rfl⟩ (.cons rfl (.nil))⟩, .inl rfl⟩, k34⟩
  have F35 := fun_mk (st := s_Bead_row) l35 c35 k35
  have F36 := fun_mk (st := s_cell_at) l36 c36 k36
  have F37 := fun_mk (st := s_well) l37 c37 k37
  have F38 := fun_mk (st := s_draw) l38 c38 k38
  have F39 := fun_mk (st := s_one) l39 c39 k39
  have F40 := fun_mk (st := s_four) l40 c40 k40
  have F41 := fun_mk (st := s_rows) l41 c41 k41
  have F42 := fun_mk (st := s_rates) l42 c42 k42
  have F43 := fun_mk (st := s_beads) l43 c43 k43
  have F44 := fun_mk (st := s_Lworth) l44 c44 k44
  have F45 := fun_mk (st := s_plus) l45 c45 k45
  have F46 := fun_mk (st := s_less) l46 c46 k46
  have F47 := fun_mk (st := s_is) l47 c47 k47
  have F48 := fun_mk (st := s_next_in) l48 c48 k48
  have F49 := fun_mk (st := s_pairs) l49 c49 k49
  have F50 := fun_mk (st := s_inner) l50 c50 k50
  have F51 := fun_mk (st := s_most) l51 c51 k51
  have F52 := fun_mk (st := s_top) l52 c52 k52
  have F53 := fun_mk (st := s_case) l53 c53 k53
  have F54 := fun_mk (st := s_shares) l54 c54 k54
  have F55 := fun_mk (st := s_by_defaults) l55 c55 k55
  have F56 := fun_mk (st := s_law) l56 c56 k56
  have b0 : Binds K (PySem.W.fnOf "__init__" "PearlError.__init__" (defArgs s_PearlError_init) (defBody s_PearlError_init) (defScope s_PearlError_init) (.ref T0) kV0 dc0 pm0 an0 cd0 ct0) ["self", "why"] [] := by
    obtain ⟨ds, hv, hb⟩ := F0.binds1 (ps := ["self", "why"]) 2 1 (fun z => nomatch z) rfl fun _ _ _ _ _ _ _ us its h1 h2 => match us, its, h1, h2 with | [_, _], [_], _, _ => ⟨_, rfl, rfl⟩
    cases hv
    exact hb
  have b1 := F1.binds (ps := ["self", "kind", "name"]) fun _ _ _ _ _ _ us hl => match us, hl with | [_, _, _], _ => rfl
  have b2 := F2.binds (ps := ["self", "num"]) fun _ _ _ _ _ _ us hl => match us, hl with | [_, _], _ => rfl
  have b3 := F3.binds (ps := ["thing"]) fun _ _ _ _ _ _ us hl => match us, hl with | [_], _ => rfl
  have b4 := F4.binds (ps := ["thing", "least", "most"]) fun _ _ _ _ _ _ us hl => match us, hl with | [_, _, _], _ => rfl
  have b5 := F5.binds (ps := ["thing"]) fun _ _ _ _ _ _ us hl => match us, hl with | [_], _ => rfl
  have b6 := F6.binds (ps := ["thing"]) fun _ _ _ _ _ _ us hl => match us, hl with | [_], _ => rfl
  have b7 := F7.binds (ps := ["thing"]) fun _ _ _ _ _ _ us hl => match us, hl with | [_], _ => rfl
  have b8 : Binds K (PySem.W.fnOf "__init__" "Rule.__init__" (defArgs s_Rule_init) (defBody s_Rule_init) (defScope s_Rule_init) (.ref T8) kV8 dc8 pm8 an8 cd8 ct8) ["self", "least", "most", "match", "shades"] [] := by
    obtain ⟨ds, hv, hb⟩ := F8.binds1 (ps := ["self", "least", "most", "match", "shades"]) 5 4 (fun z => nomatch z) rfl fun _ _ _ _ _ _ _ us its h1 h2 => match us, its, h1, h2 with | [_, _, _, _, _], [_, _, _, _], _, _ => ⟨_, rfl, rfl⟩
    cases hv
    exact hb
  have b9 := F9.binds (ps := ["bead", "other"]) fun _ _ _ _ _ _ us hl => match us, hl with | [_, _], _ => rfl
  have b10 := F10.binds (ps := ["one", "other"]) fun _ _ _ _ _ _ us hl => match us, hl with | [_, _], _ => rfl
  have b11 : Binds K (PySem.W.fnOf "__init__" "Share.__init__" (defArgs s_Share_init) (defBody s_Share_init) (defScope s_Share_init) (.ref T11) kV11 dc11 pm11 an11 cd11 ct11) ["self", "num", "over"] [] := by
    obtain ⟨ds, hv, hb⟩ := F11.binds1 (ps := ["self", "num", "over"]) 3 1 (fun z => nomatch z) rfl fun _ _ _ _ _ _ _ us its h1 h2 => match us, its, h1, h2 with | [_, _, _], [_], _, _ => ⟨_, rfl, rfl⟩
    cases hv
    exact hb
  have b12 := F12.binds (ps := ["self", "other"]) fun _ _ _ _ _ _ us hl => match us, hl with | [_, _], _ => rfl
  have b13 := F13.binds (ps := ["self", "other"]) fun _ _ _ _ _ _ us hl => match us, hl with | [_, _], _ => rfl
  have b14 := F14.binds (ps := ["self", "other"]) fun _ _ _ _ _ _ us hl => match us, hl with | [_, _], _ => rfl
  have b15 := F15.binds (ps := ["self", "other"]) fun _ _ _ _ _ _ us hl => match us, hl with | [_, _], _ => rfl
  have b16 : Binds K (PySem.W.fnOf "worth" "worth" (defArgs s_worth) (defBody s_worth) (defScope s_worth) (.ref T16) kV16 dc16 pm16 an16 cd16 ct16) ["bead", "rates", "base", "drilled"] [] := by
    obtain ⟨ds, hv, hb⟩ := F16.binds1 (ps := ["bead", "rates", "base", "drilled"]) 4 2 (fun z => nomatch z) rfl fun _ _ _ _ _ _ _ us its h1 h2 => match us, its, h1, h2 with | [_, _, _, _], [_, _], _, _ => ⟨_, rfl, rfl⟩
    cases hv
    exact hb
  have b17 := F17.binds (ps := ["rule"]) fun _ _ _ _ _ _ us hl => match us, hl with | [_], _ => rfl
  have b18 := F18.binds (ps := ["left", "right", "rule"]) fun _ _ _ _ _ _ us hl => match us, hl with | [_, _, _], _ => rfl
  have b19 := F19.binds (ps := ["bead", "outer", "rule"]) fun _ _ _ _ _ _ us hl => match us, hl with | [_, _, _], _ => rfl
  have b20 := F20.binds (ps := ["beads", "rule"]) fun _ _ _ _ _ _ us hl => match us, hl with | [_, _], _ => rfl
  have b21 := F21.binds (ps := ["self", "beads", "rule", "long", "worths"]) fun _ _ _ _ _ _ us hl => match us, hl with | [_, _, _, _, _], _ => rfl
  have b22 := F22.binds (ps := ["self", "pair", "share"]) fun _ _ _ _ _ _ us hl => match us, hl with | [_, _, _], _ => rfl
  have b23 := F23.binds (ps := ["self", "pair", "out", "inner"]) fun _ _ _ _ _ _ us hl => match us, hl with | [_, _, _, _], _ => rfl
  have b24 := F24.binds (ps := ["beads", "rule", "long", "rates", "base", "drilled"]) fun _ _ _ _ _ _ us hl => match us, hl with | [_, _, _, _, _, _], _ => rfl
  have b25 := F25.binds (ps := ["shares"]) fun _ _ _ _ _ _ us hl => match us, hl with | [_], _ => rfl
  have b26 := F26.binds (ps := ["asked"]) fun _ _ _ _ _ _ us hl => match us, hl with | [_], _ => rfl
  have b27 : Binds K (PySem.W.fnOf "best_paper" "best_paper" (defArgs s_best_paper) (defBody s_best_paper) (defScope s_best_paper) (.ref T27) kV27 dc27 pm27 an27 cd27 ct27) ["beads", "rule", "long", "rates", "base", "drilled"] [] := by
    obtain ⟨ds, hv, hb⟩ := F27.binds1 (ps := ["beads", "rule", "long", "rates", "base", "drilled"]) 6 2 (fun z => nomatch z) rfl fun _ _ _ _ _ _ _ us its h1 h2 => match us, its, h1, h2 with | [_, _, _, _, _, _], [_, _], _, _ => ⟨_, rfl, rfl⟩
    cases hv
    exact hb
  have b28 := F28.binds (ps := ["asked", "row"]) fun _ _ _ _ _ _ us hl => match us, hl with | [_, _], _ => rfl
  have b29 := F29.binds (ps := ["asked", "paper"]) fun _ _ _ _ _ _ us hl => match us, hl with | [_, _], _ => rfl
  have b30 := F30.binds (ps := ["asked", "out", "here", "inner"]) fun _ _ _ _ _ _ us hl => match us, hl with | [_, _, _, _], _ => rfl
  have b31 := F31.binds (ps := ["shares", "most"]) fun _ _ _ _ _ _ us hl => match us, hl with | [_, _], _ => rfl
  have b32 : Binds K (PySem.W.fnOf "bars_better" "bars_better" (defArgs s_bars_better) (defBody s_bars_better) (defScope s_bars_better) (.ref T32) kV32 dc32 pm32 an32 cd32 ct32) ["beads", "rule", "long", "rates", "most", "paper", "base", "drilled"] [] := by
    obtain ⟨ds, hv, hb⟩ := F32.binds1 (ps := ["beads", "rule", "long", "rates", "most", "paper", "base", "drilled"]) 8 2 (fun z => nomatch z) rfl fun _ _ _ _ _ _ _ us its h1 h2 => match us, its, h1, h2 with | [_, _, _, _, _, _, _, _], [_, _], _, _ => ⟨_, rfl, rfl⟩
    cases hv
    exact hb
  have b33 := F33.binds (ps := ["thing"]) fun _ _ _ _ _ _ us hl => match us, hl with | [_], _ => rfl
  have b34 : Binds K (PySem.W.fnOf "__init__" "Bead.__init__" (defArgs s_Bead_init) (defBody s_Bead_init) (defScope s_Bead_init) (.ref T34) kV34 dc34 pm34 an34 cd34 ct34) ["self", "number", "across", "weight", "shade", "form", "drilled"] [] := by
    obtain ⟨ds, hv, hb⟩ := F34.binds1 (ps := ["self", "number", "across", "weight", "shade", "form", "drilled"]) 7 2 (fun z => nomatch z) rfl fun _ _ _ _ _ _ _ us its h1 h2 => match us, its, h1, h2 with | [_, _, _, _, _, _, _], [_, _], _, _ => ⟨_, rfl, rfl⟩
    cases hv
    exact hb
  have b35 := F35.binds (ps := ["self"]) fun _ _ _ _ _ _ us hl => match us, hl with | [_], _ => rfl
  have b36 := F36.binds (ps := ["_law_script", "_law_k"]) fun _ _ _ _ _ _ us hl => match us, hl with | [_, _], _ => rfl
  have b37 := F37.binds (ps := ["_law_cell"]) fun _ _ _ _ _ _ us hl => match us, hl with | [_], _ => rfl
  have b38 := F38.binds (ps := ["_law_well_here", "_law_many"]) fun _ _ _ _ _ _ us hl => match us, hl with | [_, _], _ => rfl
  have b39 := F39.binds (ps := ["_law_well_here", "_law_some"]) fun _ _ _ _ _ _ us hl => match us, hl with | [_, _], _ => rfl
  have b40 := F40.binds (ps := ["_law_well_here"]) fun _ _ _ _ _ _ us hl => match us, hl with | [_], _ => rfl
  have b41 := F41.binds (ps := ["_law_well_here", "_law_four_here", "_law_many"]) fun _ _ _ _ _ _ us hl => match us, hl with | [_, _, _], _ => rfl
  have b42 := F42.binds (ps := ["_law_well_here"]) fun _ _ _ _ _ _ us hl => match us, hl with | [_], _ => rfl
  have b43 := F43.binds (ps := ["_law_rows_here"]) fun _ _ _ _ _ _ us hl => match us, hl with | [_], _ => rfl
  have b44 := F44.binds (ps := ["_law_row", "_law_rates_here", "_law_unit", "_law_over"]) fun _ _ _ _ _ _ us hl => match us, hl with | [_, _, _, _], _ => rfl
  have b45 := F45.binds (ps := ["_law_one_here", "_law_other"]) fun _ _ _ _ _ _ us hl => match us, hl with | [_, _], _ => rfl
  have b46 := F46.binds (ps := ["_law_one_here", "_law_other"]) fun _ _ _ _ _ _ us hl => match us, hl with | [_, _], _ => rfl
  have b47 := F47.binds (ps := ["_law_share", "_law_pair"]) fun _ _ _ _ _ _ us hl => match us, hl with | [_, _], _ => rfl
  have b48 := F48.binds (ps := ["_law_outer", "_law_inner_here", "_law_four_here"]) fun _ _ _ _ _ _ us hl => match us, hl with | [_, _, _], _ => rfl
  have b49 := F49.binds (ps := ["_law_rows_here", "_law_four_here"]) fun _ _ _ _ _ _ us hl => match us, hl with | [_, _], _ => rfl
  have b50 := F50.binds (ps := ["_law_pair", "_law_rows_here", "_law_pairs_here", "_law_out", "_law_four_here", "_law_long"]) fun _ _ _ _ _ _ us hl => match us, hl with | [_, _, _, _, _, _], _ => rfl
  have b51 := F51.binds (ps := ["_law_rows_here", "_law_pairs_here", "_law_four_here", "_law_long", "_law_worths"]) fun _ _ _ _ _ _ us hl => match us, hl with | [_, _, _, _, _], _ => rfl
  have b52 := F52.binds (ps := ["_law_rows_here", "_law_pairs_here", "_law_four_here", "_law_long", "_law_worths"]) fun _ _ _ _ _ _ us hl => match us, hl with | [_, _, _, _, _], _ => rfl
  have b53 := F53.binds (ps := ["_law_well_here", "_law_most_here"]) fun _ _ _ _ _ _ us hl => match us, hl with | [_, _], _ => rfl
  have b54 := F54.binds (ps := ["_law_top_here", "_law_more"]) fun _ _ _ _ _ _ us hl => match us, hl with | [_, _], _ => rfl
  have b55 := F55.binds (ps := ["_law_beads_here", "_law_rule", "_law_long", "_law_rates_here", "_law_four_here", "_law_rows_here"]) fun _ _ _ _ _ _ us hl => match us, hl with | [_, _, _, _, _, _], _ => rfl
  obtain ⟨i_kb_1, h_kb_1⟩ := F27.kbindsD (ps := ["beads", "rule", "long", "rates", "base", "drilled"]) 4 ["drilled"] (fun us its ws => kw [(0, 0), (0, 1), (0, 2), (0, 3), (1, 0), (2, 0)] us its ws) (fun z => nomatch z) (fun r1 r2 r3 => kw_rel _ r1 r2 r3) (fun _ _ _ _ _ _ _ us its ws h1 h2 h3 => match us, its, ws, h1, h2, h3 with | [_, _, _, _], [_, _], [_], _, _, _ => ⟨_, rfl, rfl⟩)
  obtain ⟨i_kb_2, h_kb_2⟩ := F32.kbindsD (ps := ["beads", "rule", "long", "rates", "most", "paper", "base", "drilled"]) 6 ["base"] (fun us its ws => kw [(0, 0), (0, 1), (0, 2), (0, 3), (0, 4), (0, 5), (2, 0), (1, 1)] us its ws) (fun z => nomatch z) (fun r1 r2 r3 => kw_rel _ r1 r2 r3) (fun _ _ _ _ _ _ _ us its ws h1 h2 h3 => match us, its, ws, h1, h2, h3 with | [_, _, _, _, _, _], [_, _], [_], _, _, _ => ⟨_, rfl, rfl⟩)
  obtain ⟨i_kb_3, h_kb_3⟩ := F32.kbindsD (ps := ["beads", "rule", "long", "rates", "most", "paper", "base", "drilled"]) 7 ["drilled"] (fun us its ws => kw [(0, 0), (0, 1), (0, 2), (0, 3), (0, 4), (0, 5), (0, 6), (2, 0)] us its ws) (fun z => nomatch z) (fun r1 r2 r3 => kw_rel _ r1 r2 r3) (fun _ _ _ _ _ _ _ us its ws h1 h2 h3 => match us, its, ws, h1, h2, h3 with | [_, _, _, _, _, _, _], [_, _], [_], _, _, _ => ⟨_, rfl, rfl⟩)
  obtain ⟨i_kb_4, h_kb_4⟩ := F27.kbindsD (ps := ["beads", "rule", "long", "rates", "base", "drilled"]) 4 ["base", "drilled"] (fun us its ws => kw [(0, 0), (0, 1), (0, 2), (0, 3), (2, 0), (2, 1)] us its ws) (fun z => nomatch z) (fun r1 r2 r3 => kw_rel _ r1 r2 r3) (fun _ _ _ _ _ _ _ us its ws h1 h2 h3 => match us, its, ws, h1, h2, h3 with | [_, _, _, _], [_, _], [_, _], _, _, _ => ⟨_, rfl, rfl⟩)
  obtain ⟨dsS, hdS, bdS⟩ := F11.binds1 (ps := ["self", "num", "over"]) 2 0 (fun z => nomatch z) rfl fun _ _ _ _ _ _ _ us its h1 h2 => match us, its, h1, h2 with | [_, _], [_], _, _ => ⟨_, rfl, rfl⟩
  obtain ⟨dsR, hdR, bdR⟩ := F8.binds1 (ps := ["self", "least", "most", "match", "shades"]) 1 0 (fun z => nomatch z) rfl fun _ _ _ _ _ _ _ us its h1 h2 => match us, its, h1, h2 with | [_], [_, _, _, _], _, _ => ⟨_, rfl, rfl⟩
  obtain ⟨ds_4_best_paper, hd_4_best_paper_, bd_4_best_paper⟩ := F27.binds1 (ps := ["beads", "rule", "long", "rates", "base", "drilled"]) 4 0 (fun z => nomatch z) rfl fun _ _ _ _ _ _ _ us its h1 h2 => match us, its, h1, h2 with | [_, _, _, _], [_, _], _, _ => ⟨_, rfl, rfl⟩
  obtain ⟨ds_5_best_paper, hd_5_best_paper_, bd_5_best_paper⟩ := F27.binds1 (ps := ["beads", "rule", "long", "rates", "base", "drilled"]) 5 1 (fun z => nomatch z) rfl fun _ _ _ _ _ _ _ us its h1 h2 => match us, its, h1, h2 with | [_, _, _, _, _], [_, _], _, _ => ⟨_, rfl, rfl⟩
  obtain ⟨ds_6_bars_better, hd_6_bars_better_, bd_6_bars_better⟩ := F32.binds1 (ps := ["beads", "rule", "long", "rates", "most", "paper", "base", "drilled"]) 6 0 (fun z => nomatch z) rfl fun _ _ _ _ _ _ _ us its h1 h2 => match us, its, h1, h2 with | [_, _, _, _, _, _], [_, _], _, _ => ⟨_, rfl, rfl⟩
  let T : Tx K mg := ⟨C_Share, ⟨pg_Share, hd_Share, po_Share, sa_Share⟩, PySem.W.mg_of X G aC_Share, n_Share_num, n_Share_over,
    C_Bead, ⟨pg_Bead, hd_Bead, po_Bead, sa_Bead⟩, PySem.W.mg_of X G aC_Bead, n_Bead_number, n_Bead_across, n_Bead_weight, n_Bead_shade, n_Bead_form, n_Bead_drilled,
    C_Rule, ⟨pg_Rule, hd_Rule, po_Rule, sa_Rule⟩, PySem.W.mg_of X G aC_Rule, n_Rule_least, n_Rule_most, n_Rule_match, n_Rule_shades,
    C_Asked, ⟨pg_Asked, hd_Asked, po_Asked, sa_Asked⟩, PySem.W.mg_of X G aC_Asked, n_Asked_worths, n_Asked_halves, n_Asked_is_odd, n_Asked_within, n_Asked_middles,
    _, _, F0, b0,
    _, _, F1, b1,
    _, _, F2, b2,
    _, _, F3, PySem.W.mg_of X G a3, b3,
    _, _, F4, PySem.W.mg_of X G a4, b4,
    _, _, F5, PySem.W.mg_of X G a5, b5,
    _, _, F6, PySem.W.mg_of X G a6, b6,
    _, _, F7, PySem.W.mg_of X G a7, b7,
    _, _, F8, ⟨mk_Rule, a8, i8, kc_Rule⟩, b8,
    _, _, F9, PySem.W.mg_of X G a9, b9,
    _, _, F10, PySem.W.mg_of X G a10, b10,
    _, _, F11, ⟨mk_Share, a11, i11, kc_Share⟩, b11,
    _, _, F12, ⟨a12, i12, k12⟩, b12,
    _, _, F13, ⟨a13, i13, k13⟩, b13,
    _, _, F14, ⟨a14, i14, k14⟩, b14,
    _, _, F15, ⟨a15, i15, k15⟩, b15,
    _, _, F16, PySem.W.mg_of X G a16, b16,
    _, _, F17, PySem.W.mg_of X G a17, b17,
    _, _, F18, PySem.W.mg_of X G a18, b18,
    _, _, F19, PySem.W.mg_of X G a19, b19,
    _, _, F20, PySem.W.mg_of X G a20, b20,
    _, _, F21, ⟨mk_Asked, a21, i21, kc_Asked⟩, b21,
    _, _, F22, ⟨a22, i22, k22⟩, b22,
    _, _, F23, ⟨a23, i23, k23⟩, b23,
    _, _, F24, PySem.W.mg_of X G a24, b24,
    _, _, F25, PySem.W.mg_of X G a25, b25,
    _, _, F26, PySem.W.mg_of X G a26, b26,
    _, _, F27, PySem.W.mg_of X G a27, b27,
    _, _, F28, PySem.W.mg_of X G a28, b28,
    _, _, F29, PySem.W.mg_of X G a29, b29,
    _, _, F30, PySem.W.mg_of X G a30, b30,
    _, _, F31, PySem.W.mg_of X G a31, b31,
    _, _, F32, PySem.W.mg_of X G a32, b32,
    _, _, F33, PySem.W.mg_of X G a33, b33,
    _, _, F34, ⟨mk_Bead, a34, i34, kc_Bead⟩, b34,
    _, _, F35, ⟨a35, i35, k35⟩, b35,
    _, _, F36, PySem.W.mg_of X G a36, b36,
    _, _, F37, PySem.W.mg_of X G a37, b37,
    _, _, F38, PySem.W.mg_of X G a38, b38,
    _, _, F39, PySem.W.mg_of X G a39, b39,
    _, _, F40, PySem.W.mg_of X G a40, b40,
    _, _, F41, PySem.W.mg_of X G a41, b41,
    _, _, F42, PySem.W.mg_of X G a42, b42,
    _, _, F43, PySem.W.mg_of X G a43, b43,
    _, _, F44, PySem.W.mg_of X G a44, b44,
    _, _, F45, PySem.W.mg_of X G a45, b45,
    _, _, F46, PySem.W.mg_of X G a46, b46,
    _, _, F47, PySem.W.mg_of X G a47, b47,
    _, _, F48, PySem.W.mg_of X G a48, b48,
    _, _, F49, PySem.W.mg_of X G a49, b49,
    _, _, F50, PySem.W.mg_of X G a50, b50,
    _, _, F51, PySem.W.mg_of X G a51, b51,
    _, _, F52, PySem.W.mg_of X G a52, b52,
    _, _, F53, PySem.W.mg_of X G a53, b53,
    _, _, F54, PySem.W.mg_of X G a54, b54,
    _, _, F55, PySem.W.mg_of X G a55, b55,
    C_PearlError, PySem.W.mg_of X G aC_PearlError,
    C_BadBead, PySem.W.mg_of X G aC_BadBead,
    C_BadRule, PySem.W.mg_of X G aC_BadRule,
    C_NoShare, PySem.W.mg_of X G aC_NoShare,
    C_NoSuch, PySem.W.mg_of X G aC_NoSuch,
    ⟨⟨nm_BadRule, q_BadRule, N_BadRule, bs_BadRule, _, sn_BadRule, sub_BadRule, ab_BadRule, col_BadRule, dd_BadRule, m0_BadRule, m1_BadRule, m2_BadRule, m3_BadRule, m5_BadRule, xL_BadRule, rfl⟩, xsa_BadRule, xe_BadRule, xt_BadRule, xk_BadRule⟩,
    xi_BadRule, beq_iff_eq.mp i0,
    ⟨xga_BadRule, xgg_BadRule, xe_BadRule, xhd_BadRule, xca_BadRule, xcg_BadRule, xct_BadRule, xmo_BadRule⟩,
    xn_BadRule_why,
    PySem.W.exm_ref ye_PearlError yh_PearlError yt_PearlError xs_BadRule_PearlError,
    ⟨⟨nm_NoShare, q_NoShare, N_NoShare, bs_NoShare, _, sn_NoShare, sub_NoShare, ab_NoShare, col_NoShare, dd_NoShare, m0_NoShare, m1_NoShare, m2_NoShare, m3_NoShare, m5_NoShare, xL_NoShare, rfl⟩, xsa_NoShare, xe_NoShare, xt_NoShare, xk_NoShare⟩,
    xi_NoShare, beq_iff_eq.mp i2,
    ⟨xga_NoShare, xgg_NoShare, xe_NoShare, xhd_NoShare, xca_NoShare, xcg_NoShare, xct_NoShare, xmo_NoShare⟩,
    xn_NoShare_num,
    PySem.W.exm_ref ye_NoShare yh_NoShare yt_NoShare xs_NoShare_NoShare,
    ⟨⟨nm_NoSuch, q_NoSuch, N_NoSuch, bs_NoSuch, _, sn_NoSuch, sub_NoSuch, ab_NoSuch, col_NoSuch, dd_NoSuch, m0_NoSuch, m1_NoSuch, m2_NoSuch, m3_NoSuch, m5_NoSuch, xL_NoSuch, rfl⟩, xsa_NoSuch, xe_NoSuch, xt_NoSuch, xk_NoSuch⟩,
    xi_NoSuch, beq_iff_eq.mp i1,
    ⟨xga_NoSuch, xgg_NoSuch, xe_NoSuch, xhd_NoSuch, xca_NoSuch, xcg_NoSuch, xct_NoSuch, xmo_NoSuch⟩,
    xn_NoSuch_kind,
    xn_NoSuch_name,
    PySem.W.exm_ref ye_NoSuch yh_NoSuch yt_NoSuch xs_NoSuch_NoSuch,
    vV_LookupError,
    vV_ZeroDivisionError,
    vV,
    i_kb_1,
    h_kb_1,
    i_kb_2,
    h_kb_2,
    i_kb_3,
    h_kb_3,
    i_kb_4,
    h_kb_4,
    dsS,
    hdS,
    bdS,
    ⟨ic1, ic2, ic3, ic4, if_pos (beq_self_eq_true _)⟩,
    dsR,
    hdR,
    bdR,
    ds_4_best_paper,
    hd_4_best_paper_,
    bd_4_best_paper,
    ds_5_best_paper,
    hd_5_best_paper_,
    bd_5_best_paper,
    ds_6_bars_better,
    hd_6_bars_better_,
    bd_6_bars_better,
    _, PySem.W.mg_of X G q0,
    _, PySem.W.mg_of X G q1,
    _, PySem.W.mg_of X G q4,
    _, PySem.W.mg_of X G q5,
    PySem.W.mg_none_of X G z0,
    PySem.W.mg_none_of X G z1,
    PySem.W.mg_none_of X G z2,
    PySem.W.mg_none_of X G z3,
    PySem.W.mg_none_of X G z4,
    PySem.W.mg_none_of X G z5,
    PySem.W.mg_none_of X G z6,
    PySem.W.mg_none_of X G z7,
    PySem.W.mg_none_of X G z8,
    PySem.W.mg_none_of X G z9,
    PySem.W.mg_none_of X G z10,
    PySem.W.mg_none_of X G z11,
    PySem.W.mg_none_of X G z12,
    PySem.W.mg_none_of X G z13,
    PySem.W.mg_none_of X G z14,
    PySem.W.mg_none_of X G z15,
    PySem.W.mg_none_of X G z16,
    PySem.W.mg_none_of X G z17,
    PySem.W.mg_none_of X G z18⟩
  exact ⟨PySem.W.fnOf "law" "law" (defArgs s_law) (defBody s_law) (defScope s_law) .none kV56 dc56 pm56 an56 cd56 ct56, fun s v => .of_eq rfl, fun base _ _ => ok_law T F56⟩
end KB
open PySem PySem.W PyProof.Rows
set_option maxRecDepth 100000 in
set_option maxHeartbeats 0 in
theorem PySem.Challenge.cw_pearlrise_k33_whole_best_papers_reckoned_holds : PySem.Challenge.rw_pearlrise_k33_whole_best_papers_reckoned.Holds := by
  w_on; o_law; k_head; (case hw => w_witness2)
  k_fill
  refine L2.walk_of (l := PySem.Challenge.rw_pearlrise_k33_whole_best_papers_reckoned) (n := 63) (k := 32) (x := "_law_script") (CX := fun _ => L2.CX0) (sp := fun w => KB.spLaw _) rfl (by decide) rfl ⟨rfl, by decide, by decide⟩ (fun w h Y => PySem.W.kIn_of Y) ?F (fun _ _ a ns hl _ hS => ⟨a, ns, rfl, hS, hl, fun _ => rfl⟩) (fun _ _ _ _ _ h => h)
  case F =>
    intro w mg fa h KX G hmg
    refine' KB.all_mk KX G hmg ?aC_Share ?pg_Share ?hd_Share ?po_Share ?sa_Share ?mk_Share ?kc_Share ?n_Share_num ?n_Share_over ?aC_Bead ?pg_Bead ?hd_Bead ?po_Bead ?sa_Bead ?mk_Bead ?kc_Bead ?n_Bead_number ?n_Bead_across ?n_Bead_weight ?n_Bead_shade ?n_Bead_form ?n_Bead_drilled ?aC_Rule ?pg_Rule ?hd_Rule ?po_Rule ?sa_Rule ?mk_Rule ?kc_Rule ?n_Rule_least ?n_Rule_most ?n_Rule_match ?n_Rule_shades ?aC_Asked ?pg_Asked ?hd_Asked ?po_Asked ?sa_Asked ?mk_Asked ?kc_Asked ?n_Asked_worths ?n_Asked_halves ?n_Asked_is_odd ?n_Asked_within ?n_Asked_middles ?aC_PearlError ?aC_BadBead ?aC_BadRule ?aC_NoShare ?aC_NoSuch ?a0 ?i0 ?l0 ?d0 ?c0 ?k0 ?a1 ?i1 ?l1 ?c1 ?k1 ?a2 ?i2 ?l2 ?c2 ?k2 ?a3 ?l3 ?c3 ?k3 ?a4 ?l4 ?c4 ?k4 ?a5 ?l5 ?c5 ?k5 ?a6 ?l6 ?c6 ?k6 ?a7 ?l7 ?c7 ?k7 ?a8 ?i8 ?l8 ?d8 ?c8 ?k8 ?a9 ?l9 ?c9 ?k9 ?a10 ?l10 ?c10 ?k10 ?a11 ?i11 ?l11 ?d11 ?c11 ?k11 ?a12 ?i12 ?l12 ?c12 ?k12 ?a13 ?i13 ?l13 ?c13 ?k13 ?a14 ?i14 ?l14 ?c14 ?k14 ?a15 ?i15 ?l15 ?c15 ?k15 ?a16 ?l16 ?d16 ?c16 ?k16 ?a17 ?l17 ?c17 ?k17 ?a18 ?l18 ?c18 ?k18 ?a19 ?l19 ?c19 ?k19 ?a20 ?l20 ?c20 ?k20 ?a21 ?i21 ?l21 ?c21 ?k21 ?a22 ?i22 ?l22 ?c22 ?k22 ?a23 ?i23 ?l23 ?c23 ?k23 ?a24 ?l24 ?c24 ?k24 ?a25 ?l25 ?c25 ?k25 ?a26 ?l26 ?c26 ?k26 ?a27 ?l27 ?d27 ?c27 ?k27 ?a28 ?l28 ?c28 ?k28 ?a29 ?l29 ?c29 ?k29 ?a30 ?l30 ?c30 ?k30 ?a31 ?l31 ?c31 ?k31 ?a32 ?l32 ?d32 ?c32 ?k32 ?a33 ?l33 ?c33 ?k33 ?a34 ?i34 ?l34 ?d34 ?c34 ?k34 ?a35 ?i35 ?l35 ?c35 ?k35 ?a36 ?l36 ?c36 ?k36 ?a37 ?l37 ?c37 ?k37 ?a38 ?l38 ?c38 ?k38 ?a39 ?l39 ?c39 ?k39 ?a40 ?l40 ?c40 ?k40 ?a41 ?l41 ?c41 ?k41 ?a42 ?l42 ?c42 ?k42 ?a43 ?l43 ?c43 ?k43 ?a44 ?l44 ?c44 ?k44 ?a45 ?l45 ?c45 ?k45 ?a46 ?l46 ?c46 ?k46 ?a47 ?l47 ?c47 ?k47 ?a48 ?l48 ?c48 ?k48 ?a49 ?l49 ?c49 ?k49 ?a50 ?l50 ?c50 ?k50 ?a51 ?l51 ?c51 ?k51 ?a52 ?l52 ?c52 ?k52 ?a53 ?l53 ?c53 ?k53 ?a54 ?l54 ?c54 ?k54 ?a55 ?l55 ?c55 ?k55 ?a56 ?l56 ?c56 ?k56 ?q0 ?q1 ?q4 ?q5 ?z0 ?z1 ?z2 ?z3 ?z4 ?z5 ?z6 ?z7 ?z8 ?z9 ?z10 ?z11 ?z12 ?z13 ?z14 ?z15 ?z16 ?z17 ?z18 ?xL_BadRule ?xsa_BadRule ?xe_BadRule ?xt_BadRule ?xk_BadRule ?xi_BadRule ?xga_BadRule ?xgg_BadRule ?xhd_BadRule ?xca_BadRule ?xcg_BadRule ?xct_BadRule ?xmo_BadRule ?xn_BadRule_why ?xs_BadRule_PearlError ?ye_PearlError ?yh_PearlError ?yt_PearlError ?xL_NoShare ?xsa_NoShare ?xe_NoShare ?xt_NoShare ?xk_NoShare ?xi_NoShare ?xga_NoShare ?xgg_NoShare ?xhd_NoShare ?xca_NoShare ?xcg_NoShare ?xct_NoShare ?xmo_NoShare ?xn_NoShare_num ?xs_NoShare_NoShare ?ye_NoShare ?yh_NoShare ?yt_NoShare ?xL_NoSuch ?xsa_NoSuch ?xe_NoSuch ?xt_NoSuch ?xk_NoSuch ?xi_NoSuch ?xga_NoSuch ?xgg_NoSuch ?xhd_NoSuch ?xca_NoSuch ?xcg_NoSuch ?xct_NoSuch ?xmo_NoSuch ?xn_NoSuch_kind ?xn_NoSuch_name ?xs_NoSuch_NoSuch ?ye_NoSuch ?yh_NoSuch ?yt_NoSuch ?vV_LookupError ?vV_ZeroDivisionError ?vV ?ic1 ?ic2 ?ic3 ?ic4
    (case aC_Share => k_is)
    (case pg_Share => k_is)
    (case hd_Share => k_is)
    (case po_Share => k_is)
    (case sa_Share => k_is)
    (case mk_Share => k_is)
    (case kc_Share => k_is)
    (case n_Share_num => k_is)
    (case n_Share_over => k_is)
    (case aC_Bead => k_is)
    (case pg_Bead => k_is)
    (case hd_Bead => k_is)
    (case po_Bead => k_is)
    (case sa_Bead => k_is)
    (case mk_Bead => k_is)
    (case kc_Bead => k_is)
    (case n_Bead_number => k_is)
    (case n_Bead_across => k_is)
    (case n_Bead_weight => k_is)
    (case n_Bead_shade => k_is)
    (case n_Bead_form => k_is)
    (case n_Bead_drilled => k_is)
    (case aC_Rule => k_is)
    (case pg_Rule => k_is)
    (case hd_Rule => k_is)
    (case po_Rule => k_is)
    (case sa_Rule => k_is)
    (case mk_Rule => k_is)
    (case kc_Rule => k_is)
    (case n_Rule_least => k_is)
    (case n_Rule_most => k_is)
    (case n_Rule_match => k_is)
    (case n_Rule_shades => k_is)
    (case aC_Asked => k_is)
    (case pg_Asked => k_is)
    (case hd_Asked => k_is)
    (case po_Asked => k_is)
    (case sa_Asked => k_is)
    (case mk_Asked => k_is)
    (case kc_Asked => k_is)
    (case n_Asked_worths => k_is)
    (case n_Asked_halves => k_is)
    (case n_Asked_is_odd => k_is)
    (case n_Asked_within => k_is)
    (case n_Asked_middles => k_is)
    (case aC_PearlError => k_is)
    (case aC_BadBead => k_is)
    (case aC_BadRule => k_is)
    (case aC_NoShare => k_is)
    (case aC_NoSuch => k_is)
    (case a0 => k_is)
    (case i0 => k_is)
    (case l0 => k_is)
    (case d0 => k_is)
    (case c0 => k_is)
    (case k0 => k_is)
    (case a1 => k_is)
    (case i1 => k_is)
    (case l1 => k_is)
    (case c1 => k_is)
    (case k1 => k_is)
    (case a2 => k_is)
    (case i2 => k_is)
    (case l2 => k_is)
    (case c2 => k_is)
    (case k2 => k_is)
    (case a3 => k_is)
    (case l3 => k_is)
    (case c3 => k_is)
    (case k3 => k_is)
    (case a4 => k_is)
    (case l4 => k_is)
    (case c4 => k_is)
    (case k4 => k_is)
    (case a5 => k_is)
    (case l5 => k_is)
    (case c5 => k_is)
    (case k5 => k_is)
    (case a6 => k_is)
    (case l6 => k_is)
    (case c6 => k_is)
    (case k6 => k_is)
    (case a7 => k_is)
    (case l7 => k_is)
    (case c7 => k_is)
    (case k7 => k_is)
    (case a8 => k_is)
    (case i8 => k_is)
    (case l8 => k_is)
    (case d8 => k_is)
    (case c8 => k_is)
    (case k8 => k_is)
    (case a9 => k_is)
    (case l9 => k_is)
    (case c9 => k_is)
    (case k9 => k_is)
    (case a10 => k_is)
    (case l10 => k_is)
    (case c10 => k_is)
    (case k10 => k_is)
    (case a11 => k_is)
    (case i11 => k_is)
    (case l11 => k_is)
    (case d11 => k_is)
    (case c11 => k_is)
    (case k11 => k_is)
    (case a12 => k_is)
    (case i12 => k_is)
    (case l12 => k_is)
    (case c12 => k_is)
    (case k12 => k_is)
    (case a13 => k_is)
    (case i13 => k_is)
    (case l13 => k_is)
    (case c13 => k_is)
    (case k13 => k_is)
    (case a14 => k_is)
    (case i14 => k_is)
    (case l14 => k_is)
    (case c14 => k_is)
    (case k14 => k_is)
    (case a15 => k_is)
    (case i15 => k_is)
    (case l15 => k_is)
    (case c15 => k_is)
    (case k15 => k_is)
    (case a16 => k_is)
    (case l16 => k_is)
    (case d16 => k_is)
    (case c16 => k_is)
    (case k16 => k_is)
    (case a17 => k_is)
    (case l17 => k_is)
    (case c17 => k_is)
    (case k17 => k_is)
    (case a18 => k_is)
    (case l18 => k_is)
    (case c18 => k_is)
    (case k18 => k_is)
    (case a19 => k_is)
    (case l19 => k_is)
    (case c19 => k_is)
    (case k19 => k_is)
    (case a20 => k_is)
    (case l20 => k_is)
    (case c20 => k_is)
    (case k20 => k_is)
    (case a21 => k_is)
    (case i21 => k_is)
    (case l21 => k_is)
    (case c21 => k_is)
    (case k21 => k_is)
    (case a22 => k_is)
    (case i22 => k_is)
    (case l22 => k_is)
    (case c22 => k_is)
    (case k22 => k_is)
    (case a23 => k_is)
    (case i23 => k_is)
    (case l23 => k_is)
    (case c23 => k_is)
    (case k23 => k_is)
    (case a24 => k_is)
    (case l24 => k_is)
    (case c24 => k_is)
    (case k24 => k_is)
    (case a25 => k_is)
    (case l25 => k_is)
    (case c25 => k_is)
    (case k25 => k_is)
    (case a26 => k_is)
    (case l26 => k_is)
    (case c26 => k_is)
    (case k26 => k_is)
    (case a27 => k_is)
    (case l27 => k_is)
    (case d27 => k_is)
    (case c27 => k_is)
    (case k27 => k_is)
    (case a28 => k_is)
    (case l28 => k_is)
    (case c28 => k_is)
    (case k28 => k_is)
    (case a29 => k_is)
    (case l29 => k_is)
    (case c29 => k_is)
    (case k29 => k_is)
    (case a30 => k_is)
    (case l30 => k_is)
    (case c30 => k_is)
    (case k30 => k_is)
    (case a31 => k_is)
    (case l31 => k_is)
    (case c31 => k_is)
    (case k31 => k_is)
    (case a32 => k_is)
    (case l32 => k_is)
    (case d32 => k_is)
    (case c32 => k_is)
    (case k32 => k_is)
    (case a33 => k_is)
    (case l33 => k_is)
    (case c33 => k_is)
    (case k33 => k_is)
    (case a34 => k_is)
    (case i34 => k_is)
    (case l34 => k_is)
    (case d34 => k_is)
    (case c34 => k_is)
    (case k34 => k_is)
    (case a35 => k_is)
    (case i35 => k_is)
    (case l35 => k_is)
    (case c35 => k_is)
    (case k35 => k_is)
    (case a36 => k_is)
    (case l36 => k_is)
    (case c36 => k_is)
    (case k36 => k_is)
    (case a37 => k_is)
    (case l37 => k_is)
    (case c37 => k_is)
    (case k37 => k_is)
    (case a38 => k_is)
    (case l38 => k_is)
    (case c38 => k_is)
    (case k38 => k_is)
    (case a39 => k_is)
    (case l39 => k_is)
    (case c39 => k_is)
    (case k39 => k_is)
    (case a40 => k_is)
    (case l40 => k_is)
    (case c40 => k_is)
    (case k40 => k_is)
    (case a41 => k_is)
    (case l41 => k_is)
    (case c41 => k_is)
    (case k41 => k_is)
    (case a42 => k_is)
    (case l42 => k_is)
    (case c42 => k_is)
    (case k42 => k_is)
    (case a43 => k_is)
    (case l43 => k_is)
    (case c43 => k_is)
    (case k43 => k_is)
    (case a44 => k_is)
    (case l44 => k_is)
    (case c44 => k_is)
    (case k44 => k_is)
    (case a45 => k_is)
    (case l45 => k_is)
    (case c45 => k_is)
    (case k45 => k_is)
    (case a46 => k_is)
    (case l46 => k_is)
    (case c46 => k_is)
    (case k46 => k_is)
    (case a47 => k_is)
    (case l47 => k_is)
    (case c47 => k_is)
    (case k47 => k_is)
    (case a48 => k_is)
    (case l48 => k_is)
    (case c48 => k_is)
    (case k48 => k_is)
    (case a49 => k_is)
    (case l49 => k_is)
    (case c49 => k_is)
    (case k49 => k_is)
    (case a50 => k_is)
    (case l50 => k_is)
    (case c50 => k_is)
    (case k50 => k_is)
    (case a51 => k_is)
    (case l51 => k_is)
    (case c51 => k_is)
    (case k51 => k_is)
    (case a52 => k_is)
    (case l52 => k_is)
    (case c52 => k_is)
    (case k52 => k_is)
    (case a53 => k_is)
    (case l53 => k_is)
    (case c53 => k_is)
    (case k53 => k_is)
    (case a54 => k_is)
    (case l54 => k_is)
    (case c54 => k_is)
    (case k54 => k_is)
    (case a55 => k_is)
    (case l55 => k_is)
    (case c55 => k_is)
    (case k55 => k_is)
    (case a56 => k_is)
    (case l56 => k_is)
    (case c56 => k_is)
    (case k56 => k_is)
    (case q0 => k_is)
    (case q1 => k_is)
    (case q4 => k_is)
    (case q5 => k_is)
    (case z0 => k_is)
    (case z1 => k_is)
    (case z2 => k_is)
    (case z3 => k_is)
    (case z4 => k_is)
    (case z5 => k_is)
    (case z6 => k_is)
    (case z7 => k_is)
    (case z8 => k_is)
    (case z9 => k_is)
    (case z10 => k_is)
    (case z11 => k_is)
    (case z12 => k_is)
    (case z13 => k_is)
    (case z14 => k_is)
    (case z15 => k_is)
    (case z16 => k_is)
    (case z17 => k_is)
    (case z18 => k_is)
    (case xL_BadRule => k_is)
    (case xsa_BadRule => k_is)
    (case xe_BadRule => k_is)
    (case xt_BadRule => k_is)
    (case xk_BadRule => k_is)
    (case xi_BadRule => k_is)
    (case xga_BadRule => k_is)
    (case xgg_BadRule => k_is)
    (case xhd_BadRule => k_is)
    (case xca_BadRule => k_is)
    (case xcg_BadRule => k_is)
    (case xct_BadRule => k_is)
    (case xmo_BadRule => k_is)
    (case xn_BadRule_why => k_is)
    (case xs_BadRule_PearlError => k_is)
    (case ye_PearlError => k_is)
    (case yh_PearlError => k_is)
    (case yt_PearlError => k_is)
    (case xL_NoShare => k_is)
    (case xsa_NoShare => k_is)
    (case xe_NoShare => k_is)
    (case xt_NoShare => k_is)
    (case xk_NoShare => k_is)
    (case xi_NoShare => k_is)
    (case xga_NoShare => k_is)
    (case xgg_NoShare => k_is)
    (case xhd_NoShare => k_is)
    (case xca_NoShare => k_is)
    (case xcg_NoShare => k_is)
    (case xct_NoShare => k_is)
    (case xmo_NoShare => k_is)
    (case xn_NoShare_num => k_is)
    (case xs_NoShare_NoShare => k_is)
    (case ye_NoShare => k_is)
    (case yh_NoShare => k_is)
    (case yt_NoShare => k_is)
    (case xL_NoSuch => k_is)
    (case xsa_NoSuch => k_is)
    (case xe_NoSuch => k_is)
    (case xt_NoSuch => k_is)
    (case xk_NoSuch => k_is)
    (case xi_NoSuch => k_is)
    (case xga_NoSuch => k_is)
    (case xgg_NoSuch => k_is)
    (case xhd_NoSuch => k_is)
    (case xca_NoSuch => k_is)
    (case xcg_NoSuch => k_is)
    (case xct_NoSuch => k_is)
    (case xmo_NoSuch => k_is)
    (case xn_NoSuch_kind => k_is)
    (case xn_NoSuch_name => k_is)
    (case xs_NoSuch_NoSuch => k_is)
    (case ye_NoSuch => k_is)
    (case yh_NoSuch => k_is)
    (case yt_NoSuch => k_is)
    (case vV_LookupError => k_is)
    (case vV_ZeroDivisionError => k_is)
    (case vV => k_is)
    (case ic1 => k_is)
    (case ic2 => k_is)
    (case ic3 => k_is)
    (case ic4 => k_is)
