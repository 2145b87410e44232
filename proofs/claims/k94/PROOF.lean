import PyProof.Rows.All
import Wide.All
import OpenK.AllK
import Wide.FinOn
import HandS.ForMost
import HandS.IsInst
import HandS.Wide
import HandS.Walk
import HandS.TupAny
import HandS.Style
import HandS.Defaults
import HandS.MakeKw
import KE.IntTextLaws
import HandS.Flow
import HandS.OwnEq
import HandS.FStr
import PyProof.InstSpecial
import PyProof.FString2
import KE.KCallOwn
import PyProof.Conv_bool
import HandS.DictSub
import PyProof.Rows.SeqMore
import HandS.Iter
import KE.GoesEnum
import PyProof.ReprRoads
import KE.SortKeyHeap
import HandS.SortKw
import HandS.TupLe
import HandS.Text
import HandS.Ends
import HandS.Deep
import HandS.ExcInit
import HandS.ExcField
import HandS.ExcIs
import HandS.ExcOwn
import HandS.WordsExc
import KE.KExcIs
import HandS.MakeKwOnly
import HandS.Lambda
import HandS.EndTab
import HandS.SetFor
import HandS.Strs
import HandS.Conv
import HandS.FStrTup
import HandS.NoneIn
import HandS.StrMore
import HandS.WideBits
import PySem.Challenge.RW_pearlrise_k94_whole_things_compared
set_option Elab.async false
set_option linter.all false
set_option maxRecDepth 100000
set_option maxHeartbeats 4000000
namespace KA
open PySem PySem.Spec PyProof.Rows L2
/-! ### heaps -/
theorem same_upd {H : Hp} {p : Addr} {o : HO} (h : H p = none) : Same H (upd H p o) := fun b x e => by
  rw [upd_ne (ne_of_none e h)]
  exact e
/-- all but what stands at d is as it was -/
def But (d : Addr) (H H' : Hp) : Prop := ∀ b o, b ≠ d → H b = some o → H' b = some o
theorem But.refl (d : Addr) (H : Hp) : But d H H := fun _ _ _ h => h
theorem But.trans {d : Addr} {H H1 H2 : Hp} (a : But d H H1) (b : But d H1 H2) : But d H H2 := fun c o n h => b c o n (a c o n h)
theorem But.of {d : Addr} {H H' : Hp} (s : Same H H') : But d H H' := fun b o _ h => s b o h
theorem But.at_ {d : Addr} {H : Hp} {o : HO} : But d H (upd H d o) := fun b x n h => by
  rw [upd_ne n]
  exact h
theorem But.new {d p : Addr} {H : Hp} {o : HO} (h : H p = none) : But d H (upd H p o) := But.of (same_upd h)
theorem But.same {d : Addr} {H0 H H' : Hp} (h0 : H0 d = none) (s : Same H0 H) (b : But d H H') : Same H0 H' := fun c o h => b c o (ne_of_none h h0) (s c o h)
theorem But.mut {d : Addr} {H0 H : Hp} {o : HO} {p : Addr} (b : But d H0 H) (h : H0 p = none) : But d H0 (upd H p o) := fun c x n e => by
  rw [upd_ne (ne_of_none e h)]
  exact b c x n e
theorem But.free {d p : Addr} {H H' : Hp} (b : But d H H') (n : p ≠ d) (h : H' p = none) : H p = none := by
  cases q : H p with
  | none => rfl
  | some o =>
    rw [b p o n q] at h
    cases h
theorem but_seq {K : PySem.W.Frag} {d a : Addr} {H H' : Hp} {xs : List V} (b : But d H H') (n : a ≠ d) (h : SqL K H a xs) : SqL K H' a xs := by
  rcases h with (h | ⟨o, h⟩) | h
  · exact .inl (.inl (b _ _ n h))
  · exact .inl (.inr ⟨o, b _ _ n h⟩)
  · exact .inr h
/-- the draws' list at d, its counter at most n -/
def Dr (P : Int → Prop) (d : Addr) (n : Nat) (H : Hp) : Prop := ∃ a b c : Int, H d = some (.lst [.int a, .int b, .int c]) ∧ P b ∧ 0 ≤ c ∧ c ≤ n
theorem Dr.same {P : Int → Prop} {d : Addr} {n : Nat} {H H' : Hp} (h : Dr P d n H) (s : Same H H') : Dr P d n H' := by
  obtain ⟨a, b, c, e, r⟩ := h
  exact ⟨a, b, c, s _ _ e, r⟩
theorem Dr.ne {P : Int → Prop} {d p : Addr} {n : Nat} {H : Hp} (h : Dr P d n H) (e : H p = none) : p ≠ d := by
  obtain ⟨a, b, c, z, _⟩ := h
  exact (ne_of_none z e).symm
theorem Dr.mono {P : Int → Prop} {d : Addr} {n m : Nat} {H : Hp} (h : Dr P d n H) (e : n ≤ m) : Dr P d m H := by
  obtain ⟨a, b, c, z, h1, h3, h4⟩ := h
  exact ⟨a, b, c, z, h1, h3, by omega⟩
theorem Dr.upd {P : Int → Prop} {d p : Addr} {n : Nat} {H : Hp} {o : HO} (h : Dr P d n H) (e : p ≠ d) : Dr P d n (L2.upd H p o) := by
  obtain ⟨a, b, c, z, r⟩ := h
  exact ⟨a, b, c, by rw [upd_ne e.symm]; exact z, r⟩
theorem yesT {σ : L2.St} {H : Hp} {A B : Hp → Prop} (h : A H) : tYes σ H (fun b H3 => if b = true then A H3 else B H3) := by
  show if true = true then A H else B H
  exact iteT h
/-! ### what is no own object -/
inductive Th (K : PySem.W.Frag) (H : Hp) : V → Prop
  | int (i : Int) : Th K H (.int i)
  | bl (b : Bool) : Th K H (.bl b)
  | str (z : Str) : Th K H (.str z)
  | non : Th K H .non
  | lst {a : Addr} (h : TyX K H (.ref a) (.type "list")) : Th K H (.ref a)
  | tup {a : Addr} (h : TyX K H (.ref a) (.type "tuple")) : Th K H (.ref a)
  | dct {a : Addr} (h : TyX K H (.ref a) (.type "dict")) : Th K H (.ref a)
def isI : V → Bool
  | .int _ => true
  | _ => false
def isB : V → Bool
  | .bl _ => true
  | _ => false
def isS : V → Bool
  | .str _ => true
  | _ => false
theorem isi_int {K : PySem.W.Frag} {H : Hp} {v : V} (h : Th K H v) : ∃ t, TyX K H v t ∧ PySem.W.kitOne K t (.type "int") = some (isI v || isB v) := by
  cases h with
  | int i => exact ⟨_, .base (.int i), kit_ty (r := true) (by decide +kernel)⟩
  | bl b => exact ⟨_, .base (.bl b), kit_ty (r := true) (by decide +kernel)⟩
  | str z => exact ⟨_, .base (.str z), kit_ty (r := false) (by decide +kernel)⟩
  | non => exact ⟨_, .base .non, kit_ty (r := false) (by decide +kernel)⟩
  | lst h => exact ⟨_, h, kit_ty (r := false) (by decide +kernel)⟩
  | tup h => exact ⟨_, h, kit_ty (r := false) (by decide +kernel)⟩
  | dct h => exact ⟨_, h, kit_ty (r := false) (by decide +kernel)⟩
theorem isi_bool {K : PySem.W.Frag} {H : Hp} {v : V} (h : Th K H v) : ∃ t, TyX K H v t ∧ PySem.W.kitOne K t (.type "bool") = some (isB v) := by
  cases h with
  | int i => exact ⟨_, .base (.int i), kit_ty (r := false) (by decide +kernel)⟩
  | bl b => exact ⟨_, .base (.bl b), kit_ty (r := true) (by decide +kernel)⟩
  | str z => exact ⟨_, .base (.str z), kit_ty (r := false) (by decide +kernel)⟩
  | non => exact ⟨_, .base .non, kit_ty (r := false) (by decide +kernel)⟩
  | lst h => exact ⟨_, h, kit_ty (r := false) (by decide +kernel)⟩
  | tup h => exact ⟨_, h, kit_ty (r := false) (by decide +kernel)⟩
  | dct h => exact ⟨_, h, kit_ty (r := false) (by decide +kernel)⟩
theorem isi_str {K : PySem.W.Frag} {H : Hp} {v : V} (h : Th K H v) : ∃ t, TyX K H v t ∧ PySem.W.kitOne K t (.type "str") = some (isS v) := by
  cases h with
  | int i => exact ⟨_, .base (.int i), kit_ty (r := false) (by decide +kernel)⟩
  | bl b => exact ⟨_, .base (.bl b), kit_ty (r := false) (by decide +kernel)⟩
  | str z => exact ⟨_, .base (.str z), kit_ty (r := true) (by decide +kernel)⟩
  | non => exact ⟨_, .base .non, kit_ty (r := false) (by decide +kernel)⟩
  | lst h => exact ⟨_, h, kit_ty (r := false) (by decide +kernel)⟩
  | tup h => exact ⟨_, h, kit_ty (r := false) (by decide +kernel)⟩
  | dct h => exact ⟨_, h, kit_ty (r := false) (by decide +kernel)⟩
/-! ### signs -/
def lower (c : Nat) : Bool := decide (97 ≤ c) && decide (c ≤ 122)
def figure (c : Nat) : Bool := decide (48 ≤ c) && decide (c ≤ 57)
theorem sgl_lt (a b : Nat) : (([a] : List Nat) < [b]) ↔ a < b := by
  rw [List.cons_lt_cons_iff]
  simp
theorem ge_a (c : Nat) : (!decide ((⟨#[c]⟩ : Str).cps.toList < ("a" : Str).cps.toList)) = decide (97 ≤ c) := by
  have e : ("a" : Str).cps.toList = [97] := by decide +kernel
  rw [e]
  show (!decide ([c] < [97])) = _
  rw [decide_eq_decide.mpr (sgl_lt c 97), ← decide_not, decide_eq_decide]
  omega
theorem le_z (c : Nat) : (!decide (("z" : Str).cps.toList < (⟨#[c]⟩ : Str).cps.toList)) = decide (c ≤ 122) := by
  have e : ("z" : Str).cps.toList = [122] := by decide +kernel
  rw [e]
  show (!decide ([122] < [c])) = _
  rw [decide_eq_decide.mpr (sgl_lt 122 c), ← decide_not, decide_eq_decide]
  omega
theorem in_az (c : Nat) : decide (c ∈ ("abcdefghijklmnopqrstuvwxyz" : Str).cps.toList) = lower c := by
  have e : ("abcdefghijklmnopqrstuvwxyz" : Str).cps.toList = (List.range 26).map (· + 97) := by decide +kernel
  unfold lower
  rw [e, ← Bool.decide_and, decide_eq_decide, List.mem_map]
  constructor
  · rintro ⟨a, ha, rfl⟩
    rw [List.mem_range] at ha
    omega
  · intro h
    exact ⟨c - 97, List.mem_range.mpr (by omega), by omega⟩
theorem in_09 (c : Nat) : decide (c ∈ ("0123456789" : Str).cps.toList) = figure c := by
  have e : ("0123456789" : Str).cps.toList = (List.range 10).map (· + 48) := by decide +kernel
  unfold figure
  rw [e, ← Bool.decide_and, decide_eq_decide, List.mem_map]
  constructor
  · rintro ⟨a, ha, rfl⟩
    rw [List.mem_range] at ha
    omega
  · intro h
    exact ⟨c - 48, List.mem_range.mpr (by omega), by omega⟩
/-! ### numbers by figures -/
open NumText TL
theorem fold_lt : ∀ (cs : List Nat) (a : Nat), AllDigits cs → a * 10 ^ cs.length ≤ cs.foldl (fun acc c => acc * 10 + (c - 48)) a ∧ cs.foldl (fun acc c => acc * 10 + (c - 48)) a < (a + 1) * 10 ^ cs.length
  | [], a, _ => by simp
  | c :: cs, a, h => by
    have hc := h.head
    have ih := fold_lt cs (a * 10 + (c - 48)) h.tail
    rw [List.foldl_cons, List.length_cons, Nat.pow_succ]
    have p : 0 < 10 ^ cs.length := Nat.pos_of_ne_zero (by simp)
    generalize 10 ^ cs.length = q at *
    refine ⟨Nat.le_trans ?_ ih.1, Nat.lt_of_lt_of_le ih.2 ?_⟩
    · have : a * (q * 10) = (a * 10) * q := by rw [Nat.mul_comm q 10, ← Nat.mul_assoc]
      rw [this]
      exact Nat.mul_le_mul_right q (by omega)
    · have : (a + 1) * (q * 10) = ((a + 1) * 10) * q := by rw [Nat.mul_comm q 10, ← Nat.mul_assoc]
      rw [this]
      exact Nat.mul_le_mul_right q (by omega)
theorem val_lt {cs : List Nat} (h : AllDigits cs) : digitsVal cs < 10 ^ cs.length := by
  have := (fold_lt cs 0 h).2
  rw [Nat.zero_add, Nat.one_mul] at this
  exact this
theorem val_ge {c : Nat} {cs : List Nat} (h : AllDigits (c :: cs)) (hc : c ≠ 48) : 10 ^ cs.length ≤ digitsVal (c :: cs) := by
  have h1 := h.head
  have := (fold_lt cs (0 * 10 + (c - 48)) h.tail).1
  refine Nat.le_trans ?_ this
  have : 1 * 10 ^ cs.length ≤ (0 * 10 + (c - 48)) * 10 ^ cs.length := Nat.mul_le_mul_right _ (by omega)
  omega
theorem val_zero {cs : List Nat} : digitsVal (48 :: cs) = digitsVal cs := rfl
/-- the figures of a number have as many signs as the word just where it has no nought ahead of others -/
theorem len_canon {c : Nat} {cs : List Nat} (h : AllDigits (c :: cs)) : (numL (digitsVal (c :: cs))).length = (c :: cs).length ↔ ¬ (c = 48 ∧ 1 < (c :: cs).length) := by
  constructor
  · rintro e ⟨rfl, hl⟩
    rw [val_zero] at e
    rw [List.length_cons] at e hl
    have := numL_len (n := digitsVal cs) (k := cs.length) (by omega) (val_lt h.tail)
    omega
  · intro hn
    by_cases hc : c = 48
    · subst hc
      have : cs = [] := by
        cases cs with
        | nil => rfl
        | cons d r =>
          exact absurd ⟨rfl, by rw [List.length_cons, List.length_cons]; omega⟩ hn
      subst this
      rw [val_zero]
      show (numL 0).length = 1
      rw [numL_lt (by decide)]
      rfl
    · have u := numL_len (n := digitsVal (c :: cs)) (k := (c :: cs).length) (by rw [List.length_cons]; omega) (val_lt h)
      have l := val_ge h hc
      have v := val_lt (numL_digits (digitsVal (c :: cs)))
      rw [numL_val] at v
      have w : 10 ^ cs.length < 10 ^ (numL (digitsVal (c :: cs))).length := Nat.lt_of_le_of_lt l v
      have := (Nat.pow_lt_pow_iff_right (by decide : 1 < 10)).mp w
      rw [List.length_cons] at *
      omega
/-- words of figures of one length and one worth are one -/
theorem fold_inj : ∀ (cs ds : List Nat) (a b : Nat), AllDigits cs → AllDigits ds → cs.length = ds.length → cs.foldl (fun acc c => acc * 10 + (c - 48)) a = ds.foldl (fun acc c => acc * 10 + (c - 48)) b → a = b ∧ cs = ds
  | [], [], a, b, _, _, _, e => ⟨e, rfl⟩
  | [], _ :: _, _, _, _, _, l, _ => by simp at l
  | _ :: _, [], _, _, _, _, l, _ => by simp at l
  | c :: cs, d :: ds, a, b, h1, h2, l, e => by
    have q := fold_inj cs ds (a * 10 + (c - 48)) (b * 10 + (d - 48)) h1.tail h2.tail (by simpa using l) e
    have hc := h1.head
    have hd := h2.head
    have e1 := q.1
    have : a = b ∧ c = d := by omega
    exact ⟨this.1, by rw [this.2, q.2]⟩
theorem canon_eq {c : Nat} {cs : List Nat} (h : AllDigits (c :: cs)) (hn : ¬ (c = 48 ∧ 1 < (c :: cs).length)) : numL (digitsVal (c :: cs)) = c :: cs :=
  (fold_inj _ _ 0 0 (numL_digits _) h ((len_canon h).mpr hn) (numL_val _)).2
section
variable {X : Cx}
/-- a text many times -/
def timesS (z : Str) (n : Nat) : Str := ⟨(List.replicate n z.cps).foldl (· ++ ·) #[]⟩
theorem times_fold (c : Nat) : ∀ (n : Nat) (a : Array Nat), ((List.replicate n #[c]).foldl (· ++ ·) a).toList = a.toList ++ List.replicate n c
  | 0, a => by simp
  | n + 1, a => by
    rw [List.replicate_succ, List.foldl_cons, times_fold c n (a ++ #[c]), Array.toList_append, List.append_assoc]
    rfl
theorem times_list {z : Str} {c n : Nat} (h : z.cps = #[c]) : (timesS z n).cps.toList = List.replicate n c := by
  unfold timesS
  show ((List.replicate n z.cps).foldl (· ++ ·) #[]).toList = _
  rw [h, times_fold c n #[]]
  rfl
theorem times_len {z : Str} {c n : Nat} (h : z.cps = #[c]) : (timesS z n).length = n := by
  show (timesS z n).cps.size = n
  rw [← Array.length_toList, times_list h, List.length_replicate]
theorem op_mulS : OpR X (binaryOp .Mult) (fun x y H Q => ∃ (z : Str) (k : Int), x = .str z ∧ y = .int k ∧ 2 ≤ k ∧ k ≤ 100000 ∧ (∃ c, z.cps = #[c]) ∧ Q (.str (timesS z k.toNat)) H) := by
  intro pins s σ H x y v u Q I rx ry h
  obtain ⟨z, k, rfl, rfl, h2, h3, ⟨c, hc⟩, q⟩ := h
  have hz : z.length = 1 := by
    show z.cps.size = 1
    rw [hc]
    rfl
  obtain ⟨t, rfl⟩ := rx
  obtain ⟨t', rfl⟩ := ry
  refine PySem.P.mul_str ?_ ?_ ?_ ?_
  · rw [decide_eq_false (by omega), decide_eq_false (by omega)]
    rfl
  · intro _ _
    rw [hz]
    have : (1 : Int) ≤ (2 ^ 63 - 1) / k := by
      have : (2 ^ 63 - 1 : Int) / k ≥ 1 := (Int.le_ediv_iff_mul_le (by omega)).mpr (by omega)
      exact this
    omega
  · intro _ _
    rw [hz]
    exact decide_eq_false (by
      have : (100000 : Nat) ≤ sizeLine := by decide
      show ¬ _ > _
      omega)
  · have hk1 : (k == 1) = false := by
      rw [beq_eq_false_iff_ne]
      omega
    rw [if_neg (by omega), if_neg (by rw [hk1, hz]; decide)]
    refine ⟨?_, ⟨.str (timesS z k.toNat), H, I.tok _, ⟨_, rfl⟩, q⟩⟩
    have e := times_len (n := k.toNat) hc
    have : (100000 : Nat) ≤ sizeLine := by decide
    show (timesS z k.toNat).length ≤ sizeLine
    omega
end

/-! ### comprehensions over a text -/
/-- [truth of each sign] -/
theorem lc_all {z : Str} {H : Hp} {D : Addr} (hD : H D = none) (hz : z.length ≤ 100000) (f : Nat → Bool) {g : TG} {tt : TT} {te : TE} {vs : List Nat} {σ : L2.St} {Qd : Hp → Prop}
    (turn : ∀ (c : Nat) (H2 : Hp) (R : V → Hp → Prop) (C : Hp → Prop), Same H H2 → R (.bl (f c)) H2 → g (.str ⟨#[c]⟩) (wipe σ vs) H2 fun σ2 H2 => wipe σ2 vs = wipe σ vs ∧ tt σ2 H2 fun b H3 => if b = true then te σ2 H3 R else C H3)
    (fin : ∀ H', Same H H' → H' D = some (.lst ((z.cps.toList.map f).map V.bl)) → Qd H') :
    ∃ W : Nat → Nat → Hp → Prop, (∃ m, W 0 m (upd H D (.lst []))) ∧ ∀ i m H, W i m H →
      ((Its z).stop i H ∧ Qd H) ∨ ((Its z).go i H ∧ ∃ Nx : Hp → Prop, (∀ H', Nx H' → ∃ m', m' < m ∧ W (i + 1) m' H') ∧ ∀ x H', (Its z).yld i H x H' → g x (wipe σ vs) H' fun σ2 H2 => wipe σ2 vs = wipe σ vs ∧ tt σ2 H2 fun b H3 =>
        if b = true then te σ2 H3 fun y H4 => ∃ acc, H4 D = some (.lst acc) ∧ acc.length < sizeLine ∧ Nx (upd H4 D (.lst (acc ++ [y]))) else Nx H3) := by
  have hzl : z.length ≤ sizeLine := Nat.le_trans hz (by decide)
  refine lc_it walk_str (fun i H' => Same H H' ∧ H' D = some (.lst (((z.cps.toList.take i).map f).map V.bl))) ⟨same_upd hD, upd_same⟩ (fun _ _ _ _ => trivial) ?_ ?_
  · rintro i x H1 H2 hi ⟨s1, e1⟩ ⟨rfl, c, hc, rfl⟩
    refine turn c _ _ _ s1 ?_
    have hc' : z.cps.toList[i]? = some c := by rw [Array.getElem?_toList]; exact hc
    refine ⟨_, e1, ?_, fun b o h => ?_, ?_⟩
    · rw [List.length_map, List.length_map, List.length_take]
      exact Nat.lt_of_le_of_lt (Nat.min_le_left _ _) (Nat.lt_of_lt_of_le hi hzl)
    · rw [upd_ne (ne_of_none h hD)]
      exact s1 _ _ h
    · rw [upd_same, List.take_add_one, hc', List.map_append, List.map_append]
      rfl
  · rintro H' ⟨s1, e1⟩
    have ef : z.cps.toList.take z.cps.size = z.cps.toList := List.take_of_length_le (by rw [Array.length_toList]; exact Nat.le_refl _)
    rw [ef] at e1
    exact fin H' s1 e1
def sg (c : Nat) : V := .str ⟨#[c]⟩
/-- [sign for sign in text if ..] -/
theorem lc_filter {z : Str} {H : Hp} {D : Addr} (hD : H D = none) (hz : z.length ≤ 100000) (f : Nat → Bool) {g : TG} {tt : TT} {te : TE} {vs : List Nat} {σ : L2.St} {Qd : Hp → Prop}
    (turn : ∀ (c : Nat) (H2 : Hp) (R : V → Hp → Prop) (C : Hp → Prop), Same H H2 → (f c = true → R (sg c) H2) → (f c = false → C H2) → g (.str ⟨#[c]⟩) (wipe σ vs) H2 fun σ2 H2 => wipe σ2 vs = wipe σ vs ∧ tt σ2 H2 fun b H3 => if b = true then te σ2 H3 R else C H3)
    (fin : ∀ H', Same H H' → H' D = some (.lst ((z.cps.toList.filter f).map sg)) → Qd H') :
    ∃ W : Nat → Nat → Hp → Prop, (∃ m, W 0 m (upd H D (.lst []))) ∧ ∀ i m H, W i m H →
      ((Its z).stop i H ∧ Qd H) ∨ ((Its z).go i H ∧ ∃ Nx : Hp → Prop, (∀ H', Nx H' → ∃ m', m' < m ∧ W (i + 1) m' H') ∧ ∀ x H', (Its z).yld i H x H' → g x (wipe σ vs) H' fun σ2 H2 => wipe σ2 vs = wipe σ vs ∧ tt σ2 H2 fun b H3 =>
        if b = true then te σ2 H3 fun y H4 => ∃ acc, H4 D = some (.lst acc) ∧ acc.length < sizeLine ∧ Nx (upd H4 D (.lst (acc ++ [y]))) else Nx H3) := by
  have hzl : z.length ≤ sizeLine := Nat.le_trans hz (by decide)
  refine lc_it walk_str (fun i H' => Same H H' ∧ H' D = some (.lst (((z.cps.toList.take i).filter f).map sg))) ⟨same_upd hD, upd_same⟩ (fun _ _ _ _ => trivial) ?_ ?_
  · rintro i x H1 H2 hi ⟨s1, e1⟩ ⟨rfl, c, hc, rfl⟩
    have hc' : z.cps.toList[i]? = some c := by rw [Array.getElem?_toList]; exact hc
    refine turn c _ _ _ s1 (fun hf => ?_) (fun hf => ?_)
    · refine ⟨_, e1, ?_, fun b o h => ?_, ?_⟩
      · rw [List.length_map]
        refine Nat.lt_of_le_of_lt (List.length_filter_le _ _) ?_
        rw [List.length_take]
        exact Nat.lt_of_le_of_lt (Nat.min_le_left _ _) (Nat.lt_of_lt_of_le hi hzl)
      · rw [upd_ne (ne_of_none h hD)]
        exact s1 _ _ h
      · rw [upd_same, List.take_add_one, hc', List.filter_append, List.map_append]
        show _ = some (HO.lst (_ ++ List.map sg (List.filter f [c])))
        rw [List.filter_cons_of_pos hf]
        rfl
    · refine ⟨s1, ?_⟩
      rw [e1, List.take_add_one, hc', List.filter_append, List.map_append]
      show _ = some (HO.lst (_ ++ List.map sg (List.filter f [c])))
      rw [List.filter_cons_of_neg (by rw [hf]; exact Bool.false_ne_true)]
      show _ = some (HO.lst (_ ++ []))
      rw [List.append_nil]
  · rintro H' ⟨s1, e1⟩
    have ef : z.cps.toList.take z.cps.size = z.cps.toList := List.take_of_length_le (by rw [Array.length_toList]; exact Nat.le_refl _)
    rw [ef] at e1
    exact fin H' s1 e1
/-- a list of signs beside [] -/
theorem dp_signs {K : PySem.W.Frag} {H : Hp} : ∀ cs : List Nat, DpAll K H (cs.map sg) (cs.map fun c => PyData.str ⟨#[c]⟩)
  | [] => .nil
  | c :: cs => .cons (.str _) (dp_signs cs)
theorem eqv_nil (ds : List PyData) : PyData.eqv (.list ds) (.list []) = ds.isEmpty := by
  cases ds with
  | nil => rfl
  | cons d r => rfl
theorem lay_signs : ∀ cs : List Nat, (∀ c ∈ cs, c < 128) → PyData.canLayAll0 (cs.map fun c => PyData.str ⟨#[c]⟩) = true
  | [], _ => rfl
  | c :: r, h => by
    have h1 := h c (List.mem_cons_self ..)
    have h2 := lay_signs r fun d hd => h d (List.mem_cons_of_mem _ hd)
    show (PyData.canLay0 (.str ⟨#[c]⟩) && PyData.canLayAll0 (r.map fun c => PyData.str ⟨#[c]⟩)) = true
    rw [h2, Bool.and_true]
    show (#[c].all (· < 0x110000)) = true
    simp
    omega
theorem dep_signs : ∀ cs : List Nat, PyData.depthAll (cs.map fun c => PyData.str ⟨#[c]⟩) = 0
  | [] => rfl
  | c :: r => by
    show max 0 (PyData.depthAll (r.map fun c => PyData.str ⟨#[c]⟩)) = 0
    rw [dep_signs r]
    rfl
theorem shp_signs {cs : List Nat} (h : ∀ c ∈ cs, c < 128) : SeqAt.shaped (.list (cs.map fun c => PyData.str ⟨#[c]⟩)) = true := by
  unfold SeqAt.shaped
  have e1 : PyData.canLay0 (.list (cs.map fun c => PyData.str ⟨#[c]⟩)) = true := lay_signs cs h
  have e2 : PyData.depth (.list (cs.map fun c => PyData.str ⟨#[c]⟩)) = 1 := by
    show PyData.depthAll _ + 1 = 1
    rw [dep_signs]
  rw [e1, e2]
  rfl
/-- signs below 128 alone -/
def Asc (z : Str) : Prop := ∀ c ∈ z.cps.toList, c < 128
theorem asc_cut {z : Str} (h : Asc z) (lo hi : Option Int) : Asc (cutS z lo hi) := fun c hc => h c (List.mem_of_mem_drop (List.mem_of_mem_take hc))
theorem asc_app {x y : Str} (hx : Asc x) (hy : Asc y) : Asc (x ++ y) := fun c hc => by
  have hc : c ∈ TL.tl (x ++ y) := hc
  rw [TL.tl_append] at hc
  rcases List.mem_append.mp hc with h | h
  · exact hx c h
  · exact hy c h
theorem asc_upper {z : Str} (h : Asc z) : Asc (Txt.upper z) ∧ (Txt.upper z).length = z.length := by
  rw [PyProof.Rows.upper_ascii h]
  refine ⟨fun c hc => ?_, ?_⟩
  · have hc : c ∈ (z.cps.map PyProof.Rows.up1).toList := hc
    rw [Array.toList_map] at hc
    obtain ⟨a, ha, rfl⟩ := List.mem_map.mp hc
    have := h a ha
    unfold PyProof.Rows.up1
    split <;> omega
  · show (z.cps.map PyProof.Rows.up1).size = z.cps.size
    rw [Array.size_map]
theorem asc_of {z : Str} {cs : List Nat} (h : z.cps.toList = cs) (hl : ∀ c ∈ cs, c < 128) : Asc z := fun c hc => hl c (by rw [← h]; exact hc)
theorem lower_lt {c : Nat} (h : lower c = true) : c < 128 := by
  unfold lower at h
  simp only [Bool.and_eq_true, decide_eq_true_eq] at h
  omega
theorem figure_lt {c : Nat} (h : figure c = true) : c < 128 := by
  unfold figure at h
  simp only [Bool.and_eq_true, decide_eq_true_eq] at h
  omega
theorem filter_none {l : List Nat} {f : Nat → Bool} : (l.filter (fun c => !f c)).isEmpty = l.all f := by
  induction l with
  | nil => rfl
  | cons c r ih =>
    rw [List.filter_cons, List.all_cons]
    cases h : f c with
    | true => simpa using ih
    | false => rfl
theorem str_sign {c d : Nat} {z : Str} (h : z.cps = #[d]) : decide (V.str ⟨#[c]⟩ = V.str z) = decide (c = d) := by
  obtain ⟨z⟩ := z
  rw [decide_eq_decide]
  constructor
  · intro e
    injection e with e
    injection e with e
    rw [show z = #[d] from h] at e
    injection e with e
    injection e
  · rintro rfl
    rw [show z = #[c] from h]
/-! ### a text joined of signs -/
open TL
theorem join_signs : ∀ cs : List Nat, joinL [] ((cs.map fun c => (⟨#[c]⟩ : Str)).map tl) = cs
  | [] => rfl
  | [c] => rfl
  | c :: d :: r => by
    show [c] ++ ([] ++ joinL [] (((d :: r).map fun c => (⟨#[c]⟩ : Str)).map tl)) = c :: d :: r
    rw [join_signs (d :: r)]
    rfl
theorem join_text {y : Str} (hy : tl y = []) (cs : List Nat) : (Txt.join y (cs.map fun c => (⟨#[c]⟩ : Str))).cps.toList = cs := by
  show tl (Txt.join y _) = cs
  rw [join_eq, tl_join, hy, join_signs]
theorem size_signs : ∀ cs : List Nat, ((cs.map fun c => (⟨#[c]⟩ : Str)).map (·.length)).sum = cs.length
  | [] => rfl
  | c :: r => by
    rw [List.map_cons, List.map_cons, List.sum_cons, size_signs r, List.length_cons]
    show 1 + r.length = _
    omega

/-- [.. for _ in range(k)], each a drawn sign -/
theorem lc_draw {P : Int → Prop} {d D : Addr} {n k : Nat} {H1 : Hp} (hD : H1 D = none) (dr : Dr P d n H1) (hk : k ≤ 1000) (p : Nat → Bool) {g : TG} {tt : TT} {te : TE} {vs : List Nat} {σ : L2.St} {Qd : Hp → Prop}
    (turn : ∀ (i : Nat) (H2 : Hp) (R : V → Hp → Prop) (C : Hp → Prop), i < k → Dr P d (n + i) H2 → (∀ H3 c, p c = true → But d H2 H3 → Dr P d (n + i + 1) H3 → R (sg c) H3) → g (.int (0 + i)) (wipe σ vs) H2 fun σ2 H2 => wipe σ2 vs = wipe σ vs ∧ tt σ2 H2 fun b H3 => if b = true then te σ2 H3 R else C H3)
    (fin : ∀ H' (cs : List Nat), cs.length = k → (∀ c ∈ cs, p c = true) → But d H1 H' → Dr P d (n + k) H' → H' D = some (.lst (cs.map sg)) → Qd H') :
    ∃ W : Nat → Nat → Hp → Prop, (∃ m, W 0 m (upd H1 D (.lst []))) ∧ ∀ i m H, W i m H →
      ((Itr 0 k).stop i H ∧ Qd H) ∨ ((Itr 0 k).go i H ∧ ∃ Nx : Hp → Prop, (∀ H', Nx H' → ∃ m', m' < m ∧ W (i + 1) m' H') ∧ ∀ x H', (Itr 0 k).yld i H x H' → g x (wipe σ vs) H' fun σ2 H2 => wipe σ2 vs = wipe σ vs ∧ tt σ2 H2 fun b H3 =>
        if b = true then te σ2 H3 fun y H4 => ∃ acc, H4 D = some (.lst acc) ∧ acc.length < sizeLine ∧ Nx (upd H4 D (.lst (acc ++ [y]))) else Nx H3) := by
  have nD : D ≠ d := dr.ne hD
  refine lc_range (lo := 0) (n := k) (fun i H' => ∃ cs : List Nat, cs.length = i ∧ (∀ c ∈ cs, p c = true) ∧ But d H1 H' ∧ Dr P d (n + i) H' ∧ H' D = some (.lst (cs.map sg))) ⟨[], rfl, (fun _ h => nomatch h), But.new hD, dr.upd nD, upd_same⟩ ?_ ?_
  · rintro i H2 hi ⟨cs, hl, hp, b2, dr2, e2⟩
    refine turn i H2 _ _ hi dr2 fun H3 c hc b3 dr3 => ?_
    refine ⟨_, b3 _ _ nD e2, ?_, cs ++ [c], ?_, ?_, ?_, ?_, ?_⟩
    · rw [List.length_map, hl]
      exact Nat.lt_of_lt_of_le (show i < 1000 by omega) (by decide)
    · rw [List.length_append, hl]
      rfl
    · intro x hx
      rcases List.mem_append.mp hx with h | h
      · exact hp x h
      · rw [List.mem_singleton.mp h]
        exact hc
    · exact (b2.trans b3).mut hD
    · exact (dr3.upd nD).mono (by omega)
    · rw [upd_same, List.map_append]
      rfl
  · rintro H' ⟨cs, hl, hp, b, dr', e⟩
    exact fin H' cs hl hp b dr' e
theorem map_sg (cs : List Nat) : (cs.map fun c => (⟨#[c]⟩ : Str)).map V.str = cs.map sg := by
  rw [List.map_map]
  rfl
theorem join_len {y : Str} (hy : TL.tl y = []) (cs : List Nat) : (Txt.join y (cs.map fun c => (⟨#[c]⟩ : Str))).length = cs.length := by
  have := join_text hy cs
  show (Txt.join y (cs.map fun c => (⟨#[c]⟩ : Str))).cps.size = _
  rw [← Array.length_toList, this]
theorem az_at {r : Int} (h0 : 0 ≤ r) (h1 : r < 26) : ∃ c, atI ("abcdefghijklmnopqrstuvwxyz" : Str).cps.toList r = some c ∧ lower c = true := by
  obtain ⟨j, rfl⟩ : ∃ j : Nat, r = (j : Int) := ⟨r.toNat, by omega⟩
  have e : ("abcdefghijklmnopqrstuvwxyz" : Str).cps.toList = (List.range 26).map (· + 97) := by decide +kernel
  refine ⟨j + 97, atI_nat ?_, ?_⟩
  · rw [e, List.getElem?_map, List.getElem?_range (by omega)]
    rfl
  · unfold lower
    rw [decide_eq_true (by omega), decide_eq_true (by omega)]
    rfl
theorem fig_at {r : Int} (h0 : 0 ≤ r) (h1 : r < 10) : ∃ c, atI ("0123456789" : Str).cps.toList r = some c ∧ figure c = true := by
  obtain ⟨j, rfl⟩ : ∃ j : Nat, r = (j : Int) := ⟨r.toNat, by omega⟩
  have e : ("0123456789" : Str).cps.toList = (List.range 10).map (· + 48) := by decide +kernel
  refine ⟨j + 48, atI_nat ?_, ?_⟩
  · rw [e, List.getElem?_map, List.getElem?_range (by omega)]
    rfl
  · unfold figure
    rw [decide_eq_true (by omega), decide_eq_true (by omega)]
    rfl
theorem log_small {m : Int} (h0 : 0 < m) (h : m < 2 ^ 200) : m.natAbs.log2 < 9000 := by
  refine Nat.lt_of_lt_of_le (PySem.Flt.log2_lt_of (k := 200) (by decide) ?_) (by decide)
  have e : ((2 : Int) ^ 200) = ((2 ^ 200 : Nat) : Int) := by decide
  rw [e] at h
  omega
theorem log_tiny {m : Int} (h0 : 0 < m) (h : m < 1000000000000000000000000000000) : m.natAbs.log2 < 9000 := log_small h0 (Int.lt_trans h (by decide))
theorem at_str {z : Str} {r : Int} (h0 : 0 ≤ r) (h1 : r < (z.length : Int)) : ∃ c, atI z.cps.toList r = some c ∧ c ∈ z.cps.toList := by
  obtain ⟨j, rfl⟩ : ∃ j : Nat, r = (j : Int) := ⟨r.toNat, by omega⟩
  have hj : j < z.cps.toList.length := by
    have : z.cps.toList.length = z.length := Array.length_toList
    omega
  exact ⟨_, atI_nat (List.getElem?_eq_getElem hj), List.getElem_mem hj⟩
theorem sz (n : Nat) (h : n ≤ 100000) : n ≤ sizeLine := Nat.le_trans h (by decide)
theorem tyx_same {K : PySem.W.Frag} {H H' : Hp} (s : Same H H') {v : V} {t : Value} (h : TyX K H v t) : TyX K H' v t := by
  cases h with
  | base h =>
    cases h with
    | non => exact .base .non
    | bl b => exact .base (.bl b)
    | int i => exact .base (.int i)
    | str z => exact .base (.str z)
    | flt x => exact .base (.flt x)
    | lst e => exact .base (.lst (s _ _ e))
    | frz e => exact .base (.frz (s _ _ e))
    | tup e => exact .base (.tup (s _ _ e))
    | dK e => exact .base (.dK (s _ _ e))
    | dT e => exact .base (.dT (s _ _ e))
    | ins e cl ha hn htk hm => exact .base (.ins (s _ _ e) cl ha hn htk hm)
  | byt b => exact .byt b
  | set e => exact .set (s _ _ e)
  | kList e c => exact .kList e c
  | kTuple e c => exact .kTuple e c
  | kDict e c => exact .kDict e c
  | fTuple e => exact .fTuple (s _ _ e)
  | fDict e => exact .fDict (s _ _ e)
theorem Th.same {K : PySem.W.Frag} {H H' : Hp} (s : Same H H') {v : V} (h : Th K H v) : Th K H' v := by
  cases h with
  | int i => exact .int i
  | bl b => exact .bl b
  | str z => exact .str z
  | non => exact .non
  | lst h => exact .lst (tyx_same s h)
  | tup h => exact .tup (tyx_same s h)
  | dct h => exact .dct (tyx_same s h)
theorem cells_int {ns : List Int} {n : Int} {lo hi : Option Int} {i : Nat} {x : V} (h : ([V.int n] ++ cutV (ns.map V.int) lo hi)[i]? = some x) : ∃ k, x = .int k := by
  have hm := List.mem_of_getElem? h
  rcases List.mem_append.mp hm with h | h
  · exact ⟨n, List.mem_singleton.mp h⟩
  · have := List.mem_of_mem_drop (List.mem_of_mem_take h)
    obtain ⟨k, _, rfl⟩ := List.mem_map.mp this
    exact ⟨k, rfl⟩
section
variable {P : Program} {w : World} {K : PySem.W.Frag} {mg : Str → Option Value} {base : Heap} {x qual : Str} {params : Arguments} {body : List Stmt} {scope : Scope} {dvs : List V} {kws : List (Str × V)} {f : Addr} {fd : FuncData}
theorem okD {N ps : List Str} {k : Nat} {sp : Sp} (F : FunD K x qual params body scope dvs kws f fd) (S : FnScope N ps scope) (len : ∀ vs H Q E, sp vs H Q E → vs.length = ps.length)
    (hbody : ∀ (cdv : Value) (A : Around) (outer : List Env) (s : Shared) (H : Hp) (vs : List V) (Q : VK) (E : XK), Room k (A.deeper (envOfC qual scope s.heap.objs.size f cdv)) → sp vs H Q E →
      ∃ t, PSs (cxOf CX0 P w K mg base N qual scope f cdv A outer s H E).nox body t ∧ t { nx := fun _ H' => Q .non H', rt := Q } (start N vs) H) : FnOk P w K mg base CX0 (k + 1) f fd ps sp :=
  F.ok S len fun cdv A outer s H vs Q E hr h => by
    obtain ⟨t, h, q⟩ := hbody cdv A outer s H vs Q E hr h
    exact ⟨t, h.nox, q⟩
end
end KA
namespace KA
open PySem PySem.Spec PyProof.Rows L2
/-- what is no list is as it was -/
def NL (H H' : Hp) : Prop := ∀ b o, (∀ xs, o ≠ .lst xs) → H b = some o → H' b = some o
theorem NL.of {H H' : Hp} (s : Same H H') : NL H H' := fun b o _ h => s b o h
theorem NL.at_ {H : Hp} {D : Addr} {xs : List V} {o : HO} (h : H D = some (.lst xs)) : NL H (upd H D o) := fun b u n e => by
  have : b ≠ D := fun z => by
    rw [z, h] at e
    exact n xs (Option.some.inj e).symm
  rw [upd_ne this]
  exact e
theorem NL.trans {H H1 H2 : Hp} (a : NL H H1) (b : NL H1 H2) : NL H H2 := fun c o n h => b c o n (a c o n h)
/-- a comprehension over a list: what it makes is told by G -/
theorem lc_gen {K : PySem.W.Frag} {a : Addr} {xs : List V} {H : Hp} {D : Addr} (hD : H D = none) (hS : SqL K H a xs) (hl : xs.length ≤ 10000) (G : Nat → V → Hp → Prop) (hG : ∀ j v H1 H2, NL H1 H2 → G j v H1 → G j v H2)
    {g : TG} {tt : TT} {te : TE} {vs : List Nat} {σ : L2.St} {Qd : Hp → Prop}
    (turn : ∀ (i : Nat) (x : V) (H2 : Hp) (R : V → Hp → Prop) (C : Hp → Prop), xs[i]? = some x → Same H H2 → (∀ v H3, Same H2 H3 → G i v H3 → R v H3) → g x (wipe σ vs) H2 fun σ2 H2 => wipe σ2 vs = wipe σ vs ∧ tt σ2 H2 fun b H3 => if b = true then te σ2 H3 R else C H3)
    (fin : ∀ H' acc, Same H H' → H' D = some (.lst acc) → acc.length = xs.length → (∀ j v, acc[j]? = some v → G j v H') → Qd H') :
    ∃ W : Nat → Nat → Hp → Prop, (∃ m, W 0 m (upd H D (.lst []))) ∧ ∀ i m H, W i m H →
      ((Itl K a).stop i H ∧ Qd H) ∨ ((Itl K a).go i H ∧ ∃ Nx : Hp → Prop, (∀ H', Nx H' → ∃ m', m' < m ∧ W (i + 1) m' H') ∧ ∀ x H', (Itl K a).yld i H x H' → g x (wipe σ vs) H' fun σ2 H2 => wipe σ2 vs = wipe σ vs ∧ tt σ2 H2 fun b H3 =>
        if b = true then te σ2 H3 fun y H4 => ∃ acc, H4 D = some (.lst acc) ∧ acc.length < sizeLine ∧ Nx (upd H4 D (.lst (acc ++ [y]))) else Nx H3) := by
  refine lc_list (K := K) (a := a) (xs := xs) (fun i H' => Same H H' ∧ ∃ acc, H' D = some (.lst acc) ∧ acc.length = i ∧ ∀ j v, acc[j]? = some v → G j v H') ⟨same_upd hD, [], upd_same, rfl, fun j v h => by simp at h⟩ (fun i H' _ h => h.1.seq hS) ?_ ?_
  · rintro i x H2 hi ⟨s2, acc, e2, l2, g2⟩
    have hil : i < xs.length := (List.getElem?_eq_some_iff.mp hi).1
    refine turn i x H2 _ _ hi s2 fun v H3 s3 hv => ?_
    have e3 := s3 _ _ e2
    refine ⟨acc, e3, ?_, fun b o h => ?_, acc ++ [v], upd_same, ?_, fun j w hj => ?_⟩
    · rw [l2]
      exact Nat.lt_of_lt_of_le (show i < 10000 by omega) (by decide)
    · rw [upd_ne (ne_of_none h hD)]
      exact s3 _ _ (s2 _ _ h)
    · rw [List.length_append, l2]
      rfl
    · refine hG j w H3 _ (NL.at_ e3) ?_
      by_cases h : j < acc.length
      · rw [List.getElem?_append_left h] at hj
        exact hG j w H2 H3 (NL.of s3) (g2 j w hj)
      · rw [List.getElem?_append_right (by omega)] at hj
        have : j = i := by
          have := (List.getElem?_eq_some_iff.mp hj).1
          rw [List.length_singleton] at this
          omega
        subst this
        rw [l2, Nat.sub_self] at hj
        have : v = w := Option.some.inj hj
        subst this
        exact hv
  · rintro H' ⟨s, acc, e, l, g⟩
    exact fin H' acc s e l g
/-- .. whose values are f of the place -/
theorem lc_vals {K : PySem.W.Frag} {a : Addr} {xs : List V} {H : Hp} {D : Addr} (hD : H D = none) (hS : SqL K H a xs) (hl : xs.length ≤ 10000) (f : Nat → V)
    {g : TG} {tt : TT} {te : TE} {vs : List Nat} {σ : L2.St} {Qd : Hp → Prop}
    (turn : ∀ (i : Nat) (x : V) (H2 : Hp) (R : V → Hp → Prop) (C : Hp → Prop), xs[i]? = some x → Same H H2 → R (f i) H2 → g x (wipe σ vs) H2 fun σ2 H2 => wipe σ2 vs = wipe σ vs ∧ tt σ2 H2 fun b H3 => if b = true then te σ2 H3 R else C H3)
    (fin : ∀ H', Same H H' → H' D = some (.lst ((List.range xs.length).map f)) → Qd H') :
    ∃ W : Nat → Nat → Hp → Prop, (∃ m, W 0 m (upd H D (.lst []))) ∧ ∀ i m H, W i m H →
      ((Itl K a).stop i H ∧ Qd H) ∨ ((Itl K a).go i H ∧ ∃ Nx : Hp → Prop, (∀ H', Nx H' → ∃ m', m' < m ∧ W (i + 1) m' H') ∧ ∀ x H', (Itl K a).yld i H x H' → g x (wipe σ vs) H' fun σ2 H2 => wipe σ2 vs = wipe σ vs ∧ tt σ2 H2 fun b H3 =>
        if b = true then te σ2 H3 fun y H4 => ∃ acc, H4 D = some (.lst acc) ∧ acc.length < sizeLine ∧ Nx (upd H4 D (.lst (acc ++ [y]))) else Nx H3) := by
  refine lc_gen hD hS hl (fun j v _ => v = f j) (fun _ _ _ _ _ h => h) (fun i x H2 R C hi s hR => turn i x H2 R C hi s (hR _ _ (Same.refl _) rfl)) fun H' acc s e l g => fin H' s ?_
  rw [e]
  congr 2
  refine List.ext_getElem? fun j => ?_
  by_cases h : j < xs.length
  · rw [List.getElem?_map, List.getElem?_range h]
    have : j < acc.length := by omega
    rw [List.getElem?_eq_getElem this]
    exact congrArg some (g j _ (List.getElem?_eq_getElem this))
  · rw [List.getElem?_eq_none (by omega), List.getElem?_eq_none (by rw [List.length_map, List.length_range]; omega)]
/-- a comprehension over a list that leaves some out; the heap stays -/
theorem lc_some {K : PySem.W.Frag} {a : Addr} {xs : List V} {H : Hp} {D : Addr} (hD : H D = none) (hS : SqL K H a xs) (hl : xs.length ≤ 10000) (p : V → Bool) (f : V → V)
    {g : TG} {tt : TT} {te : TE} {vs : List Nat} {σ : L2.St} {Qd : Hp → Prop}
    (turn : ∀ (i : Nat) (x : V) (H2 : Hp) (R : V → Hp → Prop) (C : Hp → Prop), xs[i]? = some x → Same H H2 → (p x = true → R (f x) H2) → (p x = false → C H2) → g x (wipe σ vs) H2 fun σ2 H2 => wipe σ2 vs = wipe σ vs ∧ tt σ2 H2 fun b H3 => if b = true then te σ2 H3 R else C H3)
    (fin : ∀ H', Same H H' → H' D = some (.lst ((xs.filter p).map f)) → Qd H') :
    ∃ W : Nat → Nat → Hp → Prop, (∃ m, W 0 m (upd H D (.lst []))) ∧ ∀ i m H, W i m H →
      ((Itl K a).stop i H ∧ Qd H) ∨ ((Itl K a).go i H ∧ ∃ Nx : Hp → Prop, (∀ H', Nx H' → ∃ m', m' < m ∧ W (i + 1) m' H') ∧ ∀ x H', (Itl K a).yld i H x H' → g x (wipe σ vs) H' fun σ2 H2 => wipe σ2 vs = wipe σ vs ∧ tt σ2 H2 fun b H3 =>
        if b = true then te σ2 H3 fun y H4 => ∃ acc, H4 D = some (.lst acc) ∧ acc.length < sizeLine ∧ Nx (upd H4 D (.lst (acc ++ [y]))) else Nx H3) := by
  refine lc_list (K := K) (a := a) (xs := xs) (fun i H' => Same H H' ∧ H' D = some (.lst (((xs.take i).filter p).map f))) ⟨same_upd hD, upd_same⟩ (fun i H' _ h => h.1.seq hS) ?_ ?_
  · rintro i x H2 hi ⟨s2, e2⟩
    have hil : i < xs.length := (List.getElem?_eq_some_iff.mp hi).1
    refine turn i x H2 _ _ hi s2 (fun hp => ?_) (fun hp => ?_)
    · refine ⟨_, e2, ?_, fun b o h => ?_, ?_⟩
      · rw [List.length_map]
        refine Nat.lt_of_le_of_lt (List.length_filter_le _ _) ?_
        rw [List.length_take]
        exact Nat.lt_of_le_of_lt (Nat.min_le_left _ _) (Nat.lt_of_lt_of_le (show i < 10000 by omega) (by decide))
      · rw [upd_ne (ne_of_none h hD)]
        exact s2 _ _ h
      · rw [upd_same, List.take_add_one, hi, List.filter_append, List.map_append]
        show _ = some (HO.lst (_ ++ List.map f (List.filter p [x])))
        rw [List.filter_cons_of_pos hp]
        rfl
    · refine ⟨s2, ?_⟩
      rw [e2, List.take_add_one, hi, List.filter_append, List.map_append]
      show _ = some (HO.lst (_ ++ List.map f (List.filter p [x])))
      rw [List.filter_cons_of_neg (by rw [hp]; exact Bool.false_ne_true)]
      show _ = some (HO.lst (_ ++ []))
      rw [List.append_nil]
  · rintro H' ⟨s, e⟩
    rw [List.take_of_length_le (Nat.le_refl _)] at e
    exact fin H' s e
theorem cut_to (xs : List V) (i : Nat) : cutV xs none (some (i : Int)) = xs.take i := by
  unfold cutV
  rw [HT.sIx_none, show HT.sIx xs.length xs.length (some (i : Int)) = min i xs.length from HT.sIx_nat xs.length xs.length i, Nat.sub_zero, List.drop_zero]
  by_cases h : i ≤ xs.length
  · rw [Nat.min_eq_left h]
  · rw [Nat.min_eq_right (by omega), List.take_of_length_le (Nat.le_refl _), List.take_of_length_le (by omega)]
theorem cut_from (xs : List V) (i : Nat) : cutV xs (some (i : Int)) none = xs.drop i := by
  unfold cutV
  rw [HT.sIx_none, show HT.sIx xs.length 0 (some (i : Int)) = min i xs.length from HT.sIx_nat xs.length 0 i]
  by_cases h : i ≤ xs.length
  · rw [Nat.min_eq_left h, List.take_of_length_le (by rw [List.length_drop]; omega)]
  · rw [Nat.min_eq_right (by omega), List.drop_of_length_le (Nat.le_refl _), List.drop_of_length_le (by omega)]
    exact List.take_nil
section
variable {X : Cx} {K' : PySem.W.Frag}
/-! the rules with the written part by its own name (for blocks) -/
theorem pe_fldK (hK : X.K = K') {e : Expr} {f : Str} {pos : Pos} {ta : TE} (ha : PE X e ta) (hb : attributeBase e f X.env (eval e X.env) = eval e X.env) : PE X (.Attribute e f pos) (tFld K' ta f) := by
  subst hK
  exact pe_fld ha hb
theorem ix_listK (hK : X.K = K') : IxR X (rIxL K') := by
  subst hK
  exact ix_list
theorem ix_tupK (hK : X.K = K') : IxR X (rIxT K') := by
  subst hK
  exact ix_tup
theorem sl_listK (hK : X.K = K') : SlR X (rSlL K') := by
  subst hK
  exact sl_list
theorem sl_tupAK (hK : X.K = K') : SlR X (rSlA K') := by
  subst hK
  exact sl_tupA
theorem op_eqDK (hK : X.K = K') (hu : X.A.units + 64 < cLine) : OpR X (compareOp .Eq) (rEqD K') := by
  subst hK
  exact op_eqD hu
theorem op_neDK (hK : X.K = K') (hu : X.A.units + 64 < cLine) : OpR X (compareOp .NotEq) (rNeD K') := by
  subst hK
  exact op_neD hu
theorem op_in_seqK (hK : X.K = K') : OpR X (compareOp .In) (rIn K' false) := by
  subst hK
  exact op_in_seq
end
section
variable {X : Cx}
/-- a statement and what follows it, with a word between -/
def tCutJ (t u : TS) : TS := fun D σ H => ∃ Mid : L2.St → Hp → Prop, t { D with nx := Mid } σ H ∧ ∀ σ' H', Mid σ' H' → u D σ' H'
theorem pss_cutJ {st : Stmt} {rest : List Stmt} {t u : TS} (h1 : PS X st t) (h2 : PSs X rest u) : PSs X (st :: rest) (tCutJ t u) := by
  refine ⟨fun pins s σ H D I h => ?_⟩
  obtain ⟨Mid, hm, hu⟩ := h
  refine wpAny_execs_cons (thn (h1.run pins s σ H { D with nx := Mid } I hm) fun f s1 q => ?_)
  cases f with
  | next =>
    obtain ⟨σ', H', I', q⟩ := q
    exact h2.run pins s1 σ' H' D I' (hu σ' H' q)
  | ret v => exact q
  | brk => exact q
  | cont => exact q
end
theorem nl_tup {K : PySem.W.Frag} {H H' : Hp} {a : Addr} {xs : List V} (s : NL H H') (h : SqT K H a xs) : SqT K H' a xs := by
  rcases h with (h | ⟨o, h⟩) | h
  · exact .inl (.inl (s _ _ (fun _ z => by cases z) h))
  · exact .inl (.inr ⟨o, s _ _ (fun _ z => by cases z) h⟩)
  · exact .inr h
theorem mem_cut {xs : List V} {lo hi : Option Int} {v : V} (h : v ∈ cutV xs lo hi) : v ∈ xs := List.mem_of_mem_drop (List.mem_of_mem_take h)
theorem len_cut (xs : List V) (lo hi : Option Int) : (cutV xs lo hi).length ≤ xs.length := by
  unfold cutV
  rw [List.length_take, List.length_drop]
  omega
/-- a comprehension over a list that leaves places out; the heap stays -/
theorem lc_someI {K : PySem.W.Frag} {a : Addr} {xs : List V} {H : Hp} {D : Addr} (hD : H D = none) (hS : SqL K H a xs) (hl : xs.length ≤ 10000) (p : Nat → Bool) (f : Nat → V)
    {g : TG} {tt : TT} {te : TE} {vs : List Nat} {σ : L2.St} {Qd : Hp → Prop}
    (turn : ∀ (i : Nat) (x : V) (H2 : Hp) (R : V → Hp → Prop) (C : Hp → Prop), xs[i]? = some x → Same H H2 → (p i = true → R (f i) H2) → (p i = false → C H2) → g x (wipe σ vs) H2 fun σ2 H2 => wipe σ2 vs = wipe σ vs ∧ tt σ2 H2 fun b H3 => if b = true then te σ2 H3 R else C H3)
    (fin : ∀ H', Same H H' → H' D = some (.lst (((List.range xs.length).filter p).map f)) → Qd H') :
    ∃ W : Nat → Nat → Hp → Prop, (∃ m, W 0 m (upd H D (.lst []))) ∧ ∀ i m H, W i m H →
      ((Itl K a).stop i H ∧ Qd H) ∨ ((Itl K a).go i H ∧ ∃ Nx : Hp → Prop, (∀ H', Nx H' → ∃ m', m' < m ∧ W (i + 1) m' H') ∧ ∀ x H', (Itl K a).yld i H x H' → g x (wipe σ vs) H' fun σ2 H2 => wipe σ2 vs = wipe σ vs ∧ tt σ2 H2 fun b H3 =>
        if b = true then te σ2 H3 fun y H4 => ∃ acc, H4 D = some (.lst acc) ∧ acc.length < sizeLine ∧ Nx (upd H4 D (.lst (acc ++ [y]))) else Nx H3) := by
  refine lc_list (K := K) (a := a) (xs := xs) (fun i H' => Same H H' ∧ H' D = some (.lst (((List.range i).filter p).map f))) ⟨same_upd hD, upd_same⟩ (fun i H' _ h => h.1.seq hS) ?_ ?_
  · rintro i x H2 hi ⟨s2, e2⟩
    have hil : i < xs.length := (List.getElem?_eq_some_iff.mp hi).1
    refine turn i x H2 _ _ hi s2 (fun hp => ?_) (fun hp => ?_)
    · refine ⟨_, e2, ?_, fun b o h => ?_, ?_⟩
      · rw [List.length_map]
        refine Nat.lt_of_le_of_lt (List.length_filter_le _ _) ?_
        rw [List.length_range]
        exact Nat.lt_of_lt_of_le (show i < 10000 by omega) (by decide)
      · rw [upd_ne (ne_of_none h hD)]
        exact s2 _ _ h
      · rw [upd_same, List.range_succ, List.filter_append, List.map_append, List.filter_cons_of_pos hp]
        rfl
    · refine ⟨s2, ?_⟩
      rw [e2, List.range_succ, List.filter_append, List.map_append, List.filter_cons_of_neg (by rw [hp]; exact Bool.false_ne_true)]
      show _ = some (HO.lst (_ ++ []))
      rw [List.append_nil]
  · rintro H' ⟨s, e⟩
    exact fin H' s e
section
variable {X : Cx} {CX : CXT} {k : Nat} {f : Addr} {fd : FuncData} {ps ks : List Str} {sp : Sp} {E : XK} {x : Str} {p pos : Pos} {kws : List Keyword} {tk : TA} {g : List Value → List Value → List Value} {gV : List V → List V → List V}
/-- f(k = v, ..) -/
theorem pe_callN0 (F : FnOk X.prog X.w X.K X.mg X.base CX k f fd ps sp) (hr : Room k X.A) (hg : Gl X x) (hm : X.mg x = some (.ref f)) (hk : PySem.W.keepIn X.K (.ref f) = true) (hb : KBn X.K fd ps 0 ks g gV) (hx : Passes CX X E) (hkw : PK X kws tk)
    (hall : (backToKw pos (keywordEach kws X.env)).all (·.1.isSome) = true := by rfl) (hks : (backToKw pos (keywordEach kws X.env)).filterMap (·.1) = ks := by rfl) (hdb : (x == ("__debug__" : Str)) = false := by decide)
    (hpl : ((backTo pos (starEach [] X.env)).any (·.1) || (backToKw pos (keywordEach kws X.env)).any (·.1.isNone)) = false := by rfl) :
    PE X (.Call (.Name x p) [] kws pos) (tCallN 0 ks.length sp gV E tNil tk) := by
  refine ⟨fun pins s σ H Q I h => ?_⟩
  refine wpAny_Call_Name_kw (ld_glob I hg hm ?_ hdb)
  refine PySem.W.callWith_KW0 (h₀ := X.base) I.ok.mod.kin hk hall ?_ hpl
  refine thn (hkw.run pos pins s σ H _ I h) fun ws s2 ⟨zs, H2, I2, rz, l1, l2, q2⟩ => ⟨I2.kIn, ?_⟩
  rw [hks]
  exact run_fnN (us := []) (vs := []) F hr hb hx I2 .nil rz rfl l2 q2
end
/-- keywords of a def without defaults -/
theorem kbn_of {K : PySem.W.Frag} {x qual : Str} {st : Stmt} {f : Addr} {fd : FuncData} {ps : List Str} (F : Fun K x qual st f fd) (n : Nat) (ks : List Str) (g : List Value → List Value → List Value) (gV : List V → List V → List V)
    (hrel : ∀ {vs : List V} {us : List Value} {zs : List V} {ws : List Value}, Vals vs us → Vals zs ws → Vals (gV vs zs) (g us ws))
    (h : ∀ (kV doc pm : Value) (an : Option Addr) (cdv ct : Value) (us ws : List Value), us.length = n → ws.length = ks.length → bindArgs (PySem.W.fnOf x qual (defArgs st) (defBody st) (defScope st) .none kV doc pm an cdv ct) ⟨us, ks.zip ws⟩ = pure (ps.zip (g us ws))) : KBn K fd ps n ks g gV := by
  obtain ⟨oc, od, kV, doc, pm, an, cdv, ct, osl, rfl, lk, hcd⟩ := F.ex
  exact ⟨fun s us ws _ l1 l2 => .of_eq (h kV doc pm an cdv ct us ws l1 l2), hrel⟩
def gsw {α : Type} (l : List α) : List α := match l with
  | [a, b] => [b, a]
  | l => l
theorem gsw_rel {zs : List V} {ws : List Value} (h : Vals zs ws) : Vals (gsw zs) (gsw ws) := by
  cases h with
  | nil => exact .nil
  | cons r1 h =>
    cases h with
    | nil => exact .cons r1 .nil
    | cons r2 h =>
      cases h with
      | nil => exact .cons r2 (.cons r1 .nil)
      | cons r3 h => exact .cons r1 (.cons r2 (.cons r3 h))
/-- a comprehension over range(n): what it makes is told by G -/
theorem lc_genR {n : Nat} {H : Hp} {D : Addr} (hD : H D = none) (hl : n ≤ 10000) (G : Nat → V → Hp → Prop) (hG : ∀ j v H1 H2, NL H1 H2 → G j v H1 → G j v H2)
    {g : TG} {tt : TT} {te : TE} {vs : List Nat} {σ : L2.St} {Qd : Hp → Prop}
    (turn : ∀ (i : Nat) (H2 : Hp) (R : V → Hp → Prop) (C : Hp → Prop), i < n → Same H H2 → (∀ v H3, Same H2 H3 → G i v H3 → R v H3) → g (.int (0 + i)) (wipe σ vs) H2 fun σ2 H2 => wipe σ2 vs = wipe σ vs ∧ tt σ2 H2 fun b H3 => if b = true then te σ2 H3 R else C H3)
    (fin : ∀ H' acc, Same H H' → H' D = some (.lst acc) → acc.length = n → (∀ j v, acc[j]? = some v → G j v H') → Qd H') :
    ∃ W : Nat → Nat → Hp → Prop, (∃ m, W 0 m (upd H D (.lst []))) ∧ ∀ i m H, W i m H →
      ((Itr 0 n).stop i H ∧ Qd H) ∨ ((Itr 0 n).go i H ∧ ∃ Nx : Hp → Prop, (∀ H', Nx H' → ∃ m', m' < m ∧ W (i + 1) m' H') ∧ ∀ x H', (Itr 0 n).yld i H x H' → g x (wipe σ vs) H' fun σ2 H2 => wipe σ2 vs = wipe σ vs ∧ tt σ2 H2 fun b H3 =>
        if b = true then te σ2 H3 fun y H4 => ∃ acc, H4 D = some (.lst acc) ∧ acc.length < sizeLine ∧ Nx (upd H4 D (.lst (acc ++ [y]))) else Nx H3) := by
  refine lc_range (lo := 0) (n := n) (fun i H' => Same H H' ∧ ∃ acc, H' D = some (.lst acc) ∧ acc.length = i ∧ ∀ j v, acc[j]? = some v → G j v H') ⟨same_upd hD, [], upd_same, rfl, fun j v h => by simp at h⟩ ?_ ?_
  · rintro i H2 hi ⟨s2, acc, e2, l2, g2⟩
    refine turn i H2 _ _ hi s2 fun v H3 s3 hv => ?_
    have e3 := s3 _ _ e2
    refine ⟨acc, e3, ?_, fun b o h => ?_, acc ++ [v], upd_same, ?_, fun j w hj => ?_⟩
    · rw [l2]
      exact Nat.lt_of_lt_of_le (show i < 10000 by omega) (by decide)
    · rw [upd_ne (ne_of_none h hD)]
      exact s3 _ _ (s2 _ _ h)
    · rw [List.length_append, l2]
      rfl
    · refine hG j w H3 _ (NL.at_ e3) ?_
      by_cases h : j < acc.length
      · rw [List.getElem?_append_left h] at hj
        exact hG j w H2 H3 (NL.of s3) (g2 j w hj)
      · rw [List.getElem?_append_right (by omega)] at hj
        have : j = i := by
          have := (List.getElem?_eq_some_iff.mp hj).1
          rw [List.length_singleton] at this
          omega
        subst this
        rw [l2, Nat.sub_self] at hj
        have : v = w := Option.some.inj hj
        subst this
        exact hv
  · rintro H' ⟨s, acc, e, l, g⟩
    exact fin H' acc s e l g
/-- [k for k in range(n) if a draw ..] -/
theorem lc_drawK {P : Int → Prop} {d D : Addr} {m n : Nat} {H1 : Hp} (hD : H1 D = none) (dr : Dr P d m H1) (hn : n ≤ 1000) {g : TG} {tt : TT} {te : TE} {vs : List Nat} {σ : L2.St} {Qd : Hp → Prop}
    (turn : ∀ (i : Nat) (H2 : Hp) (R : V → Hp → Prop) (C : Hp → Prop), i < n → Dr P d (m + i) H2 → (∀ H3, But d H2 H3 → Dr P d (m + i + 1) H3 → R (.int (i : Int)) H3 ∧ C H3) → g (.int (0 + i)) (wipe σ vs) H2 fun σ2 H2 => wipe σ2 vs = wipe σ vs ∧ tt σ2 H2 fun b H3 => if b = true then te σ2 H3 R else C H3)
    (fin : ∀ H' (ks : List Nat), (∀ k ∈ ks, k < n) → ks.length ≤ n → But d H1 H' → Dr P d (m + n) H' → H' D = some (.lst (ks.map fun (k : Nat) => V.int (k : Int))) → Qd H') :
    ∃ W : Nat → Nat → Hp → Prop, (∃ m, W 0 m (upd H1 D (.lst []))) ∧ ∀ i m H, W i m H →
      ((Itr 0 n).stop i H ∧ Qd H) ∨ ((Itr 0 n).go i H ∧ ∃ Nx : Hp → Prop, (∀ H', Nx H' → ∃ m', m' < m ∧ W (i + 1) m' H') ∧ ∀ x H', (Itr 0 n).yld i H x H' → g x (wipe σ vs) H' fun σ2 H2 => wipe σ2 vs = wipe σ vs ∧ tt σ2 H2 fun b H3 =>
        if b = true then te σ2 H3 fun y H4 => ∃ acc, H4 D = some (.lst acc) ∧ acc.length < sizeLine ∧ Nx (upd H4 D (.lst (acc ++ [y]))) else Nx H3) := by
  have nD : D ≠ d := dr.ne hD
  refine lc_range (lo := 0) (n := n) (fun i H' => ∃ ks : List Nat, (∀ k ∈ ks, k < n) ∧ ks.length ≤ i ∧ But d H1 H' ∧ Dr P d (m + i) H' ∧ H' D = some (.lst (ks.map fun (k : Nat) => V.int (k : Int)))) ⟨[], (fun _ h => nomatch h), Nat.le_refl _, But.new hD, dr.upd nD, upd_same⟩ ?_ ?_
  · rintro i H2 hi ⟨ks, hk, hl, b2, dr2, e2⟩
    refine turn i H2 _ _ hi dr2 fun H3 b3 dr3 => ⟨?_, ks, hk, by omega, b2.trans b3, dr3, b3 _ _ nD e2⟩
    refine ⟨_, b3 _ _ nD e2, ?_, ks ++ [i], ?_, ?_, ?_, ?_, ?_⟩
    · rw [List.length_map]
      exact Nat.lt_of_lt_of_le (show ks.length < 1001 by omega) (by decide)
    · intro k h
      rcases List.mem_append.mp h with h | h
      · exact hk k h
      · rw [List.mem_singleton.mp h]
        exact hi
    · rw [List.length_append, List.length_singleton]
      omega
    · exact (b2.trans b3).mut hD
    · exact (dr3.upd nD).mono (by omega)
    · rw [upd_same, List.map_append]
      rfl
  · rintro H' ⟨ks, hk, hl, b, dr', e⟩
    exact fin H' ks hk hl b dr' e
theorem in_ints (k : Nat) (S : List Nat) : inV (.int (k : Int)) (S.map fun (j : Nat) => V.int (j : Int)) = decide (k ∈ S) := by
  unfold inV
  rw [List.any_map]
  induction S with
  | nil => rfl
  | cons j S ih =>
    rw [List.any_cons, ih]
    show (((j : Int) == (k : Int)) || decide (k ∈ S)) = _
    rw [Bool.eq_iff_iff, Bool.or_eq_true, beq_iff_eq, decide_eq_true_eq, decide_eq_true_eq, List.mem_cons]
    constructor
    · rintro (h | h)
      · exact .inl (by omega)
      · exact .inr h
    · rintro (h | h)
      · exact .inl (by omega)
      · exact .inr h
theorem flat_ints (S : List Nat) : (S.map fun (j : Nat) => V.int (j : Int)).all flatV = true := by
  rw [List.all_eq_true]
  intro v hv
  obtain ⟨j, _, rfl⟩ := List.mem_map.mp hv
  rfl
end KA
namespace KA
open PySem PySem.Spec PyProof.Rows L2
section
variable {X : Cx} {a b : Expr} {ta tb : TE} {rest : List Expr} {pos : Pos} {K' : PySem.W.Frag}
/-- the truth of a value, of an instance of an own class without __bool__ and __len__, too -/
def TruW (K : PySem.W.Frag) (x : V) (H : Hp) (k : Bool) : Prop := TruV K x H k ∨ ∃ (a C dx : Addr) (fs : List (Str × V)), x = .ref a ∧ H a = some (.ins C dx fs) ∧ PySem.W.findIn K (.ref C) "__bool__" = some none ∧ PySem.W.findIn K (.ref C) "__len__" = some none ∧ k = true
theorem truW_ok : TruR X (fun x H Q => ∃ k, TruW X.K x H k ∧ Q k H) := by
  intro pins s σ H x v Q I rx h
  obtain ⟨k, h | ⟨a, C, dx, fs, rfl, ha, hb, hl, rfl⟩, q⟩ := h
  · exact tru_ok pins s σ H x v Q I rx ⟨k, h, q⟩
  · cases rx
    obtain ⟨mA, J, _⟩ := ins_get I.hok ha
    obtain ⟨od, J, _⟩ := J.look
    obtain ⟨m, hF⟩ := I.fr
    exact PySem.W.truthy_K0 hF I.ok.mod.kin J hb hl ⟨H, I, q⟩
def tAndW (K : PySem.W.Frag) (ta tb : TE) : TE := fun σ H Q => ta σ H fun x H1 => ∃ k, TruW K x H1 k ∧ if k = true then tb σ H1 Q else Q x H1
theorem pe_andW (hK : X.K = K') (ha : PE X a ta) (hb : PE X (.BoolOp .And (b :: rest) pos) tb) : PE X (.BoolOp .And (a :: b :: rest) pos) (tAndW K' ta tb) := by
  subst hK
  refine ⟨fun pins s σ H Q I h => ?_⟩
  refine BoolOp_and (thn (ha.run pins s σ H _ I h) fun v s1 ⟨x, H1, I1, r1, k, e, q1⟩ => ?_)
  refine thn (truW_ok pins s1 σ H1 x v (fun c H2 => c = k ∧ H2 = H1) I1 r1 ⟨k, e, rfl, rfl⟩) fun c s2 ⟨H2, I2, e1, e2⟩ => ?_
  subst e2 e1
  cases c with
  | true => exact hb.run pins s2 σ H2 Q I2 q1
  | false => exact ⟨x, H2, I2, r1, q1⟩
theorem op_catAK (hK : X.K = K') : OpR X (binaryOp .Add) (rCatA K') := by
  subst hK
  exact op_catA
end
end KA
namespace KA
open PySem PySem.Spec PyProof.Rows L2
section
variable {X : Cx} {K' : PySem.W.Frag} {o e : Expr} {es : List Expr} {to : TE} {t : TA} {name : Str} {apos cpos : Pos} {T id : String} {r : V → List V → Hp → VK → Prop}
/-! methods and len within a block, the written part by its own name -/
theorem pe_bm0K (hK : X.K = K') (pa : PlainAttrs T) (slot : Slot T name id) (hty : typeOf (.builtin id) = pure (.type "method_descriptor")) (hm : MtR X id r) (ho : PE X o to)
    (hbase : attributeBase o name X.env (eval o X.env) = eval o X.env := by rfl) (hline : (apos.endLine == cpos.line) = true := by rfl) : PE X (.Call (.Attribute o name apos) [] [] cpos) (tBM0 K' T r to) := by
  subst hK
  exact pe_bm0 pa slot hty hm ho hbase hline
theorem pe_bmK (hK : X.K = K') (pa : PlainAttrs T) (slot : Slot T name id) (hty : typeOf (.builtin id) = pure (.type "method_descriptor")) (hm : MtR X id r) (ho : PE X o to) (ha : PA X (e :: es) t)
    (hbase : attributeBase o name X.env (eval o X.env) = eval o X.env := by rfl)
    (hfew : ((backTo cpos (starEach (e :: es) X.env)).all (fun x => !x.1) && (backToKw cpos (keywordEach [] X.env)).all (fun x => x.1.isSome)
      && decide ((e :: es).length + ([] : List Keyword).length + (if ([] : List Keyword).isEmpty then 0 else 1) < 30)) = true := by rfl)
    (hline : (apos.endLine == cpos.line) = true := by rfl) (hs : starEach (e :: es) X.env = (false, eval e X.env) :: starEach es X.env := by rfl) (hplain : (backTo cpos (starEach es X.env)).any (·.1) = false := by rfl) :
    PE X (.Call (.Attribute o name apos) (e :: es) [] cpos) (tBM K' T r to t) := by
  subst hK
  exact pe_bm pa slot hty hm ho ha hbase hfew hline hs hplain
def rLenK (K : PySem.W.Frag) : List V → Hp → VK → Prop := fun xs H Q => ∃ p ys, xs = [.ref p] ∧ (SqL K H p ys ∨ SqT K H p ys) ∧ Q (.int (ys.length : Nat)) H
theorem call_len_seqK (hK : X.K = K') : CallR X (.builtin "len") (rLenK K') := by
  subst hK
  exact call_len_seq
theorem call_list_ofK (hK : X.K = K') : CallR X (.type "list") (fun xs H Q => ∃ p ys, xs = [.ref p] ∧ (SqL K' H p ys ∨ SqT K' H p ys) ∧ ∀ l, H l = none → Q (.ref l) (upd H l (.lst ys))) := by
  subst hK
  exact call_list_of
end
end KA
namespace KA
open PySem PySem.Spec PyProof.Rows L2
section
variable {X : Cx} {n : Nat}
/-- x == y (or another comparison), x an instance of the class at C whose own def keeps sp, y of any kind -/
def rOwn (K : PySem.W.Frag) (C : Addr) (sp : Sp) (E : XK) : R2 := fun x y H Q => ∃ (a dx : Addr) (fs : List (Str × V)) (t : Value), x = .ref a ∧ H a = some (.ins C dx fs) ∧ TyX K H y t ∧ PySem.W.notFirst K C t = true ∧ sp [.ref a, y] H (fun v H' => (∃ b, v = .bl b) ∧ Q v H') E
theorem op_own {op : CmpOp} {CX : CXT} {C f : Addr} {fd : FuncData} {ps : List Str} {sp : Sp} {E : XK} (F : FnOk X.prog X.w X.K X.mg X.base CX n f fd ps sp)
    (hs : PySem.W.findIn X.K (.ref C) (cmpInfo op).2.1 = some (some (.ref f))) (hf : PySem.W.isFn X.K (.ref f) = true) (hb : Binds X.K fd ps []) (hx : Passes CX X E) (hr : Room n X.A) (ho : compareOp op = richCompare op := by rfl) : OpR X (compareOp op) (rOwn X.K C sp E) := by
  intro pins s σ H x y u v Q I rx ry d
  obtain ⟨a, dx, fs, t, rfl, ha, ty, hn, hsp⟩ := d
  cases rx
  obtain ⟨mA, J, _⟩ := ins_get I.hok ha
  obtain ⟨od, J, _⟩ := J.look
  obtain ⟨Pz, Z, p, _⟩ := kit_of I ry ty
  obtain ⟨m, hF⟩ := I.fr
  rw [ho]
  refine PySem.W.cmp_K (op := op) (tb := t) hr.units0 hF I.ok.mod.kin J (Z.ty _ _ I.kIn p) hn hs hf ?_
  have hl := F.len _ _ _ _ hsp
  have r2 : Vals [V.ref a, y] [Value.ref a, v] := .cons rfl (.cons ry .nil)
  refine wpAny_call (codeAny_mono (F.run X.A X.stack s H ⟨[.ref a, v], []⟩ [.ref a, v] [.ref a, y] _ E hr I.env0 (by
    have := hb s [.ref a, v] I.kIn (by simpa using hl)
    simpa using this) r2 hsp) fun r s' hq => ?_)
  cases r with
  | error e => exact hx pins σ H s e s' I hq
  | ok fl =>
    cases fl with
    | ret w =>
      obtain ⟨z, H', I', rz, ⟨b, ez⟩, q⟩ := I.after hq
      subst ez
      cases rz
      exact ⟨.bl b, H', I', rfl, q⟩
    | next => exact False.elim hq
    | brk => exact False.elim hq
    | cont => exact False.elim hq
end
end KA
namespace KA
open PySem PySem.Spec PySem.W PyProof.Rows
section
variable {prog : Program} {w : World} {A : Around} {E : Value → Shared → Prop} {s : Shared} {K : Frag} {x C f : Addr} {ox : Obj} {od : Option Obj}
theorem repr_K {Q : Value → Shared → Prop} (hu : A.in1.units < cLine) (X : K.In s.heap) (I : InstAt s.heap x ox C od) (hs : findIn K (.ref C) "__repr__" = some (some (.ref f))) (hf : isFn K (.ref f) = true)
    (hcall : wpAny (model prog w) A.in1 (call (.ref f) [.ref x]) (fun r s' => ∃ m tk, r = .str m tk ∧ Q (.str m tk) s') E s) :
    wpAny (model prog w) A (call (.builtin "repr") [.ref x]) Q E s := by
  refine Calls.call_function_entry F.kind_repr F.plain_repr F.entry_repr (F.args_repr1 _) ?_
  unfold Builtin.«repr»
  refine wpAny_bind (m := oneArg "repr" _) (wpAny_pure ?_)
  refine wpAny_bind (wpAny_cRoomFor hu ?_)
  refine wpAny_bind (wpAny_bind (I.type.here ((looks_findIn X hs).here ?_)))
  show wpAny _ _ (if (some (Value.ref f)).isNone = true then _ else _) _ _ _
  rw [if_neg (by simp)]
  refine wpAny_bind (m := callSpecialIfBound? (.ref x) (Str.ofString "__repr__") _) (ifBound_K X I hs hf (wpAny_mono hcall (fun r s' hr => ?_) fun _ _ y => y))
  obtain ⟨m, tk, rfl, hq⟩ := hr
  refine wpAny_bind (wpAny_isInstance (typeIs_str _ _ _) isSubtype_str_str ?_)
  first
    | exact wpAny_pure ⟨_, rfl, hq⟩
    | (rw [if_pos rfl]; exact wpAny_pure ⟨_, rfl, hq⟩)
    | (simp only [if_true]; exact wpAny_pure ⟨_, rfl, hq⟩)
end
end KA
namespace KA
open PySem PySem.Spec PyProof.Rows L2
section
variable {X : Cx} {n : Nat} {CX : CXT} {C f : Addr} {fd : FuncData} {ps : List Str} {sp : Sp} {E : XK}
/-- repr(x), str(x): x an instance of the class at C, whose own def keeps sp -/
def rShow (C : Addr) (sp : Sp) (E : XK) : List V → Hp → VK → Prop := fun xs H Q => ∃ (a dx : Addr) (fs : List (Str × V)), xs = [.ref a] ∧ H a = some (.ins C dx fs) ∧ sp [.ref a] H (fun v H' => (∃ m, v = .str m) ∧ Q v H') E
theorem run_self {A : Around} {pins : List (Addr × Obj)} {σ : L2.St} {H : Hp} {s : Shared} {a : Addr} {Q : VK} (F : FnOk X.prog X.w X.K X.mg X.base CX n f fd ps sp) (hb : Binds X.K fd ps []) (hx : Passes CX X E) (hr : Room n A) (hA : A.frames = X.A.frames) (I : L2.Inv X pins σ H s)
    (hsp : sp [.ref a] H (fun v H' => (∃ m, v = .str m) ∧ Q v H') E) : wpAny (model X.prog X.w) A (call (.ref f) [.ref a]) (fun r s' => ∃ m tk, r = .str m tk ∧ EP X pins σ Q (.str m tk) s') X.xe s := by
  have e0 : Env0 X.prog X.w X.K X.mg X.base A X.stack s H := by
    have e := I.env0
    exact ⟨by rw [hA]; exact e.frames, e.mod, e.bs, e.bsz, e.funs, e.frf, e.hok, e.bare⟩
  have hl := F.len _ _ _ _ hsp
  have r2 : Vals [V.ref a] [Value.ref a] := .cons rfl .nil
  refine wpAny_call (codeAny_mono (F.run A X.stack s H ⟨[.ref a], []⟩ [.ref a] [.ref a] _ E hr e0 (by
    have := hb s [.ref a] I.kIn (by simpa using hl)
    simpa using this) r2 hsp) fun r s' hq => ?_)
  cases r with
  | error e => exact hx pins σ H s e s' I hq
  | ok fl =>
    cases fl with
    | ret w =>
      obtain ⟨z, H', I', rz, ⟨m, ez⟩, q⟩ := I.after hq
      subst ez
      obtain ⟨tk, rfl⟩ := (show ∃ t, w = Value.str m t from rz)
      exact ⟨m, tk, rfl, .str m, H', I', ⟨tk, rfl⟩, q⟩
    | next => exact False.elim hq
    | brk => exact False.elim hq
    | cont => exact False.elim hq
theorem call_reprO (F : FnOk X.prog X.w X.K X.mg X.base CX n f fd ps sp) (hs : PySem.W.findIn X.K (.ref C) "__repr__" = some (some (.ref f))) (hf : PySem.W.isFn X.K (.ref f) = true) (hb : Binds X.K fd ps []) (hx : Passes CX X E) (hr : Room (n + 1) X.A) :
    CallR X (.builtin "repr") (rShow C sp E) := by
  intro pins s σ H xs us Q I r h
  obtain ⟨a, dx, fs, rfl, ha, hsp⟩ := h
  obtain ⟨u, rfl, r1⟩ := vals1 r
  cases (show u = Value.ref a from r1)
  obtain ⟨mA, J, _⟩ := ins_get I.hok ha
  obtain ⟨od, J, _⟩ := J.look
  exact repr_K hr.in1.units0 I.kIn J hs hf (run_self F hb hx hr.in1 rfl I hsp)
theorem call_strO (F : FnOk X.prog X.w X.K X.mg X.base CX n f fd ps sp) (hs : PySem.W.findIn X.K (.ref C) "__str__" = some (some (.ref f))) (hf : PySem.W.isFn X.K (.ref f) = true) (hb : Binds X.K fd ps []) (hx : Passes CX X E) (hr : Room (n + 2) X.A) :
    CallR X (.type "str") (rShow C sp E) := by
  intro pins s σ H xs us Q I r h
  obtain ⟨a, dx, fs, rfl, ha, hsp⟩ := h
  obtain ⟨u, rfl, r1⟩ := vals1 r
  cases (show u = Value.ref a from r1)
  obtain ⟨mA, J, _⟩ := ins_get I.hok ha
  obtain ⟨od, J, _⟩ := J.look
  refine PySem.W.kso_call hr.in1.in1.units0 I.kIn J hs hf (wpAny_mono (run_self F hb hx hr.in1.in1 rfl I hsp) (fun r s' hr => ?_) fun _ _ y => y)
  obtain ⟨m, tk, rfl, q⟩ := hr
  exact q
/-- {x}: a text, an int, a truth -/
def tFmtB (te : TE) : TE := fun σ H Q => te σ H fun x H1 => (∃ y : Str, x = .str y ∧ y.length ≤ sizeLine ∧ Q (.str y) H1) ∨ (∃ i : Int, x = .int i ∧ i.natAbs.log2 < 1920 ∧ Q (.str (toString i)) H1) ∨ ∃ b : Bool, x = .bl b ∧ Q (.str (if b then "True" else "False")) H1
theorem pe_fmtB {e : Expr} {te : TE} {pos : Pos} (he : PE X e te) : PE X (.FormattedValue e (-1) none pos) (tFmtB te) := by
  refine ⟨fun pins s σ H Q I h => ?_⟩
  refine wpAny_FormattedValue_plain (thn (he.run pins s σ H _ I h) fun v s1 hv => ?_)
  obtain ⟨x, H1, I1, r1, q⟩ := hv
  rcases q with ⟨y, rfl, hz, q⟩ | ⟨i, rfl, hz, q⟩ | ⟨b, rfl, q⟩
  · obtain ⟨t, rfl⟩ := r1
    exact wpAny_formatField_str ⟨.str y, H1, I1, ⟨t, rfl⟩, q⟩ ⟨.str y, H1, I1.tok _, ⟨_, rfl⟩, q⟩ hz
  · obtain ⟨t, rfl⟩ := r1
    exact wpAny_formatField_int hz ⟨.str (toString i), H1, I1.tok _, ⟨_, rfl⟩, q⟩
  · cases (show v = Value.bool b from r1)
    exact wpAny_formatField_bool ⟨.str (if b then "True" else "False"), H1, I1.tok _, ⟨_, rfl⟩, q⟩
end
end KA
namespace KA
open PySem PySem.Spec PySem.W PyProof.Rows
section
variable {prog : Program} {w : World} {A : Around} {E : Value → Shared → Prop} {s : Shared} {K : Frag} {x C f : Addr} {ox : Obj} {od : Option Obj}
theorem special_K {M : Model} {name : Str} {args : List Value} {Q : Option Value → Shared → Prop} (X : K.In s.heap) (I : InstAt s.heap x ox C od) (hs : findIn K (.ref C) name = some (some (.ref f))) (hf : isFn K (.ref f) = true)
    (h : wpAny M A (call (.ref f) (.ref x :: args)) (fun v => Q (some v)) E s) : wpAny M A (callSpecial? (.ref x) name args) Q E s := by
  unfold callSpecial? specialOf
  refine wpAny_bind (wpAny_bind (I.type.here ((looks_findIn X hs).here ?_)))
  refine wpAny_holding ?_
  have fin : wpAny M A (call (.ref f) ([.ref x] ++ args) >>= fun v => pure (some v)) Q E s := wpAny_bind (wpAny_mono h (fun v s' h' => wpAny_pure h') fun _ _ h' => h')
  exact wpAny_bind ((bind_fn X _ (beq_iff_eq.mp hf)).here (by exact fin))
theorem len_K {Q : Value → Shared → Prop} (X : K.In s.heap) (I : InstAt s.heap x ox C od) (hs : findIn K (.ref C) "__len__" = some (some (.ref f))) (hf : isFn K (.ref f) = true)
    (hcall : wpAny (model prog w) A.in1 (call (.ref f) [.ref x]) (fun r s' => ∃ n u, r = .int n u ∧ 0 ≤ n ∧ n < 2 ^ 63 ∧ Q (.int n s'.toks) { s' with toks := s'.toks + 1 }) E s) :
    wpAny (model prog w) A (call (.builtin "len") [.ref x]) Q E s := by
  refine Calls.call_function_entry kind_len plain_len entry_len (args_len1 _) ?_
  unfold Builtin.«len»
  refine wpAny_bind (m := oneArg "len" _) (wpAny_pure ?_)
  refine wpAny_bind (m := callSpecial? (.ref x) (Str.ofString "__len__")) (special_K X I hs hf (wpAny_mono hcall (fun r s' hr => ?_) fun _ _ y => y))
  obtain ⟨n, u, rfl, h0, h1, hq⟩ := hr
  refine wpAny_bind (wpAny_holding (wpAny_pure ?_))
  refine wpAny_bind (wpAny_letGo ?_)
  show wpAny _ _ (if n < 0 then _ else _) _ _ _
  rw [if_neg (by omega)]
  show wpAny _ _ (if n ≥ 2 ^ 63 then _ else _) _ _ _
  rw [if_neg (by omega)]
  exact wpAny_bind (wpAny_mkInt (wpAny_pure ⟨_, rfl, hq⟩))
end
end KA
namespace KA
open PySem PySem.Spec PyProof.Rows L2
section
variable {X : Cx} {n : Nat} {CX : CXT} {C f : Addr} {fd : FuncData} {ps : List Str} {sp : Sp} {E : XK}
theorem run_selfI {A : Around} {pins : List (Addr × Obj)} {σ : L2.St} {H : Hp} {s : Shared} {a : Addr} {Q : Int → Hp → Prop} (F : FnOk X.prog X.w X.K X.mg X.base CX n f fd ps sp) (hb : Binds X.K fd ps []) (hx : Passes CX X E) (hr : Room n A) (hA : A.frames = X.A.frames) (I : L2.Inv X pins σ H s)
    (hsp : sp [.ref a] H (fun v H' => ∃ i : Int, v = .int i ∧ 0 ≤ i ∧ i < 2 ^ 63 ∧ Q i H') E) : wpAny (model X.prog X.w) A (call (.ref f) [.ref a]) (fun r s' => ∃ i u, r = .int i u ∧ 0 ≤ i ∧ i < 2 ^ 63 ∧ ∃ H', L2.Inv X pins σ H' s' ∧ Q i H') X.xe s := by
  have e0 : Env0 X.prog X.w X.K X.mg X.base A X.stack s H := by
    have e := I.env0
    exact ⟨by rw [hA]; exact e.frames, e.mod, e.bs, e.bsz, e.funs, e.frf, e.hok, e.bare⟩
  have hl := F.len _ _ _ _ hsp
  have r2 : Vals [V.ref a] [Value.ref a] := .cons rfl .nil
  refine wpAny_call (codeAny_mono (F.run A X.stack s H ⟨[.ref a], []⟩ [.ref a] [.ref a] _ E hr e0 (by
    have := hb s [.ref a] I.kIn (by simpa using hl)
    simpa using this) r2 hsp) fun r s' hq => ?_)
  cases r with
  | error e => exact hx pins σ H s e s' I hq
  | ok fl =>
    cases fl with
    | ret w =>
      obtain ⟨z, H', I', rz, i, ez, h0, h1, q⟩ := I.after hq
      subst ez
      obtain ⟨tk, rfl⟩ := (show ∃ t, w = Value.int i t from rz)
      exact ⟨i, tk, rfl, h0, h1, H', I', q⟩
    | next => exact False.elim hq
    | brk => exact False.elim hq
    | cont => exact False.elim hq
/-- len(x): x an instance of the class at C, whose own __len__ keeps sp -/
def rLenO (C : Addr) (sp : Sp) (E : XK) : List V → Hp → VK → Prop := fun xs H Q => ∃ (a dx : Addr) (fs : List (Str × V)), xs = [.ref a] ∧ H a = some (.ins C dx fs) ∧ sp [.ref a] H (fun v H' => ∃ i : Int, v = .int i ∧ 0 ≤ i ∧ i < 2 ^ 63 ∧ Q (.int i) H') E
theorem call_lenO (F : FnOk X.prog X.w X.K X.mg X.base CX n f fd ps sp) (hs : PySem.W.findIn X.K (.ref C) "__len__" = some (some (.ref f))) (hf : PySem.W.isFn X.K (.ref f) = true) (hb : Binds X.K fd ps []) (hx : Passes CX X E) (hr : Room (n + 1) X.A) :
    CallR X (.builtin "len") (rLenO C sp E) := by
  intro pins s σ H xs us Q I r h
  obtain ⟨a, dx, fs, rfl, ha, hsp⟩ := h
  obtain ⟨u, rfl, r1⟩ := vals1 r
  cases (show u = Value.ref a from r1)
  obtain ⟨mA, J, _⟩ := ins_get I.hok ha
  obtain ⟨od, J, _⟩ := J.look
  refine len_K I.kIn J hs hf (wpAny_mono (run_selfI (Q := fun i H' => Q (.int i) H') F hb hx hr.in1 rfl I hsp) (fun r s' hr => ?_) fun _ _ y => y)
  obtain ⟨i, tk, rfl, h0, h1, H', I', q⟩ := hr
  exact ⟨i, tk, rfl, h0, h1, .int i, H', I'.tok _, ⟨_, rfl⟩, q⟩
end
end KA
namespace KA
open PySem PySem.Spec PySem.W PyProof.Rows
section
variable {prog : Program} {w : World} {A : Around} {E : Value → Shared → Prop} {s : Shared} {K : Frag} {x C f : Addr} {ox : Obj} {od : Option Obj}
theorem len_bodyK {Q : Value → Shared → Prop} (X : K.In s.heap) (I : InstAt s.heap x ox C od) (hs : findIn K (.ref C) "__len__" = some (some (.ref f))) (hf : isFn K (.ref f) = true)
    (hcall : wpAny (model prog w) A (call (.ref f) [.ref x]) (fun r s' => ∃ n u, r = .int n u ∧ 0 ≤ n ∧ n < 2 ^ 63 ∧ Q (.int n s'.toks) { s' with toks := s'.toks + 1 }) E s) :
    wpAny (model prog w) A (Builtin.«len» ⟨[.ref x], []⟩) (fun fin s' => ∃ v, fin = .done (.ret v) ∧ Q v s') E s := by
  unfold Builtin.«len»
  refine wpAny_bind (m := oneArg "len" _) (wpAny_pure ?_)
  refine wpAny_bind (m := callSpecial? (.ref x) (Str.ofString "__len__")) (special_K X I hs hf (wpAny_mono hcall (fun r s' hr => ?_) fun _ _ y => y))
  obtain ⟨n, u, rfl, h0, h1, hq⟩ := hr
  refine wpAny_bind (wpAny_holding (wpAny_pure ?_))
  refine wpAny_bind (wpAny_letGo ?_)
  show wpAny _ _ (if n < 0 then _ else _) _ _ _
  rw [if_neg (by omega)]
  show wpAny _ _ (if n ≥ 2 ^ 63 then _ else _) _ _ _
  rw [if_neg (by omega)]
  exact wpAny_bind (wpAny_mkInt (wpAny_pure ⟨_, rfl, hq⟩))
theorem truth_K {Q : Bool → Shared → Prop} (X : K.In s.heap) (I : InstAt s.heap x ox C od) (hb : findIn K (.ref C) "__bool__" = some none) (hs : findIn K (.ref C) "__len__" = some (some (.ref f))) (hf : isFn K (.ref f) = true)
    (hcall : wpAny (model prog w) A.in1 (call (.ref f) [.ref x]) (fun r s' => ∃ n u, r = .int n u ∧ 0 ≤ n ∧ n < 2 ^ 63 ∧ Q (n != 0) { s' with toks := s'.toks + 1 }) E s) :
    wpAny (model prog w) A (truthy (.ref x)) Q E s := by
  have key : wpAny (model prog w) A (runValue (.builtin "len" ⟨[.ref x], []⟩)) (fun r s' => ∃ n u, r = .int n u ∧ Q (n != 0) s') E s := by
    refine wpAny_runValue (codeAny_builtin entry_len ?_)
    rw [Around.under_plainId plain_len _]
    refine wpAny_mono (len_bodyK (Q := fun r s' => ∃ n u, r = .int n u ∧ Q (n != 0) s') X I hs hf (wpAny_mono hcall (fun r s' hr => ?_) fun _ _ y => y)) (fun fin s' h' => ?_) fun _ _ e => e
    · obtain ⟨n, u, rfl, h0, h1, hq⟩ := hr
      exact ⟨n, u, rfl, h0, h1, n, _, rfl, hq⟩
    · obtain ⟨r, rfl, hq⟩ := h'
      exact hq
  unfold truthy
  first
    | refine wpAny_bind (DSub.special_no X I hb ?_)
    | refine wpAny_bind (wpAny_pure (wpAny_bind (DSub.special_no X I hb ?_)))
  first
    | refine wpAny_bind (wpAny_bind (I.type.here ((looks_findIn X hs).here ?_)))
    | refine wpAny_bind (wpAny_pure (wpAny_bind (wpAny_bind (I.type.here ((looks_findIn X hs).here ?_)))))
  first
    | exact wpAny_bind (wpAny_mono key (fun r s' h' => by obtain ⟨n, u, rfl, hq⟩ := h'; exact wpAny_pure hq) fun _ _ e => e)
    | exact wpAny_bind (wpAny_pure (wpAny_bind (wpAny_mono key (fun r s' h' => by obtain ⟨n, u, rfl, hq⟩ := h'; exact wpAny_pure hq) fun _ _ e => e)))
    | exact (0 : Nat)
theorem bool_K {Q : Value → Shared → Prop} (X : K.In s.heap) (I : InstAt s.heap x ox C od) (hb : findIn K (.ref C) "__bool__" = some none) (hs : findIn K (.ref C) "__len__" = some (some (.ref f))) (hf : isFn K (.ref f) = true)
    (hcall : wpAny (model prog w) A.in1.in1.in1 (call (.ref f) [.ref x]) (fun r s' => ∃ n u, r = .int n u ∧ 0 ≤ n ∧ n < 2 ^ 63 ∧ Q (.bool (n != 0)) { s' with toks := s'.toks + 1 }) E s) :
    wpAny (model prog w) A (call (.type "bool") [.ref x]) Q E s := by
  refine callType_codes (T := "bool") (Bi := Builtin.«object.__init__») (Q₁ := fun r s₁ => ∃ b, r = .bool b ∧ Q r s₁) PySem.F.called_bool (PySem.F.typeCall_bool_1 _) PySem.F.entry_object_init ?_ ?_
  · refine codeAny_of_tree ?_
    show wpAny _ A.in1.in1 (do checkBuiltinCall "bool.__new__" ⟨[.type "bool", .ref x], []⟩; again (.builtin "bool.__new__" ⟨[.type "bool", .ref x], []⟩)) _ _ s
    refine wpAny_bind (wpAny_of_eq (PySem.F.newCall_bool_1 _) (wpAny_pure ⟨plainId_quiet (by decide +kernel) _, codeAny_builtin PySem.F.entry_bool_new ?_⟩))
    rw [Around.under_plainId (by decide +kernel) _]
    unfold Builtin.«bool.__new__»
    dsimp only
    refine wpAny_bind (wpAny_of_eq (show isType (.type "bool") = pure true by first | rfl | kernel_rfl) ?_)
    simp only [Bool.not_true, Bool.false_eq_true, if_false]
    refine wpAny_bind (wpAny_of_eq PySem.F.conv_sub_bool ?_)
    simp only [Bool.not_true, Bool.false_eq_true, if_false]
    refine wpAny_bind (wpAny_of_eq (show someArgs "bool" 0 1 ⟨[.ref x], []⟩ = pure [.ref x] by first | rfl | kernel_rfl) ?_)
    dsimp only
    refine wpAny_bind (truth_K X I hb hs hf (wpAny_mono hcall (fun r s' hr => ?_) fun _ _ y => y))
    obtain ⟨n, u, rfl, h0, h1, hq⟩ := hr
    exact ⟨n, u, rfl, h0, h1, wpAny_pure ⟨_, rfl, hq⟩⟩
  · rintro obj s₁ ⟨b, rfl, hq⟩
    exact ⟨rfl, PySem.F.args_object_init_2 _ _, object_init_meets PySem.F.called_bool.init.lookup PySem.F.called_bool.made (by decide) prog w A.in1 _ s₁ ⟨rfl, rfl, hq⟩⟩
end
end KA
namespace KA
open PySem PySem.Spec PyProof.Rows L2
section
variable {X : Cx} {n : Nat} {CX : CXT} {C f : Addr} {fd : FuncData} {ps : List Str} {sp : Sp} {E : XK}
/-- bool(x): x an instance of the class at C without __bool__, whose own __len__ keeps sp -/
def rBoolO (C : Addr) (sp : Sp) (E : XK) : List V → Hp → VK → Prop := fun xs H Q => ∃ (a dx : Addr) (fs : List (Str × V)), xs = [.ref a] ∧ H a = some (.ins C dx fs) ∧ sp [.ref a] H (fun v H' => ∃ i : Int, v = .int i ∧ 0 ≤ i ∧ i < 2 ^ 63 ∧ Q (.bl (i != 0)) H') E
theorem call_boolO (F : FnOk X.prog X.w X.K X.mg X.base CX n f fd ps sp) (hb0 : PySem.W.findIn X.K (.ref C) "__bool__" = some none) (hs : PySem.W.findIn X.K (.ref C) "__len__" = some (some (.ref f))) (hf : PySem.W.isFn X.K (.ref f) = true) (hb : Binds X.K fd ps []) (hx : Passes CX X E) (hr : Room (n + 3) X.A) :
    CallR X (.type "bool") (rBoolO C sp E) := by
  intro pins s σ H xs us Q I r h
  obtain ⟨a, dx, fs, rfl, ha, hsp⟩ := h
  obtain ⟨u, rfl, r1⟩ := vals1 r
  cases (show u = Value.ref a from r1)
  obtain ⟨mA, J, _⟩ := ins_get I.hok ha
  obtain ⟨od, J, _⟩ := J.look
  refine bool_K I.kIn J hb0 hs hf (wpAny_mono (run_selfI (Q := fun i H' => Q (.bl (i != 0)) H') F hb hx hr.in1.in1.in1 rfl I hsp) (fun r s' hr => ?_) fun _ _ y => y)
  obtain ⟨i, tk, rfl, h0, h1, H', I', q⟩ := hr
  exact ⟨i, tk, rfl, h0, h1, .bl (i != 0), H', I'.tok _, rfl, q⟩
end
end KA
namespace KA
open PySem PySem.Spec PyProof.Rows L2
/-- list + list, whoever made them -/
def rCatQ (K : PySem.W.Frag) : R2 := fun x y H Q => ∃ l b xs zs, x = .ref l ∧ y = .ref b ∧ SqL K H l xs ∧ SqL K H b zs ∧ xs.length + zs.length ≤ sizeLine ∧ ∀ p, H p = none → Q (.ref p) (upd H p (.lst (xs ++ zs)))
theorem op_catQ {X : Cx} : OpR X (binaryOp .Add) (rCatQ X.K) := by
  intro pins s σ H x y v u Q I rx ry h
  obtain ⟨l, b, xs, zs, rfl, rfl, hH, hB, hz, q⟩ := h
  cases rx
  cases ry
  obtain ⟨its, r, p, _⟩ := I.list hH
  obtain ⟨its2, r2, p2, _⟩ := I.list hB
  have e1 := r.length
  have e2 := r2.length
  obtain ⟨⟨cls, dd, data, sl⟩, ho, hc, n, hd⟩ := id p.isList
  obtain ⟨⟨cls2, dd2, data2, sl2⟩, ho2, hc2, n2, hd2⟩ := id p2.isList
  simp only at hc hd hc2 hd2
  subst hc hd hc2 hd2
  have e : its.toArray ++ its2.toArray = (its ++ its2).toArray := by simp
  refine concat_meets ⟨_, ho, rfl⟩ ⟨_, ho2, rfl⟩ noFill_list_add seq_list_add PySem.F.slot_list_add PySem.F.entry_list_add (PySem.F.args_list_add_2 _ _) (list_addW l b its.toArray its2.toArray n n2 dd dd2 sl sl2 (by rw [List.size_toArray, List.size_toArray]; omega)) ⟨ho, ho2, ?_⟩
  rw [e]
  exact ⟨.ref _, _, I.lnew (t' := s.toks) (r.append r2) (by rw [List.length_append]; omega), rfl, q _ I.fresh⟩
end KA
namespace KA
open PySem PySem.Spec PyProof.Rows L2
/-! enumerate over a tuple -/
theorem meets_enumT {v : Value} {o1 : Obj} {P1 : Heap → Prop} (Bg : Begins v o1 P1) :
    Meets (Builtin.«enumerate.__new__» ⟨[.type "enumerate", v], []⟩) (fun _ R s0 => P1 s0.heap ∧
      R (.ok (.ret (.ref (s0.heap.push o1).objs.size))) { s0 with heap := (s0.heap.push o1).push { cls := .type "enumerate", data := .fields #[.none, .bool false, .ref s0.heap.objs.size, rawInt 0, .none, .none] } }) :=
  .of_wp fun prog w A R s0 hyp => by
    obtain ⟨hp, gg, dd, tk, os⟩ := s0
    obtain ⟨hb, fin⟩ := hyp
    have hsub := sub_enumerate
    have go : ∀ {A' : Around} {E : Value → Shared → Prop} {Q : Value → Shared → Prop}, Q (.ref hp.objs.size) ⟨hp.push o1, gg, dd, tk, os⟩ → wpAny (model prog w) A' (pyIter v) Q E ⟨hp, gg, dd, tk, os⟩ := fun z => Bg.iter prog w _ _ ⟨hp, gg, dd, tk, os⟩ _ hb z
    wp_walk using go
    refine wpAny_stack_any fun _ => wpAny_pure ?_
    split
    · rename_i c _ _ _ _ _
      cases (c == Value.type "enumerate") <;> (wp_walk using go; exact ⟨_, rfl, fin⟩)
    · wp_walk using go
      exact ⟨_, rfl, fin⟩
section
variable {prog : Program} {w : World} {A : Around} {E : Value → Shared → Prop} {s : Shared}
theorem call_enumT {v : Value} {o1 : Obj} {P1 : Heap → Prop} {Q : Value → Shared → Prop} (Bg : Begins v o1 P1) (hb : P1 s.heap)
    (fin : ∀ g, IsEnum g (s.heap.objs.size + 1) s.heap.objs.size 0 .none → g.get? s.heap.objs.size = some o1 → (∀ b ob, s.heap.get? b = some ob → g.get? b = some ob) → Q (.ref (s.heap.objs.size + 1)) { s with heap := g }) :
    wpAny (model prog w) A (call (.type "enumerate") [v]) Q E s := by
  refine callType_new F.called_enumerate (by decide) (F.typeCall_enumerate_1 _) (F.newCall_enumerate_1 _) (fun ob => F.args_object_init_2 ob _) F.entry_enumerate_new (meets_enumT Bg) ⟨hb, ?_⟩
  have sz1 : (s.heap.push o1).objs.size = s.heap.objs.size + 1 := Heap.size_push ..
  show _ ∧ _
  rw [sz1]
  have isE : IsEnum ((s.heap.push o1).push { cls := .type "enumerate", data := .fields #[.none, .bool false, .ref s.heap.objs.size, rawInt 0, .none, .none] }) (s.heap.objs.size + 1) s.heap.objs.size 0 .none := by
    have z := Heap.get?_push_size (s.heap.push o1) (o := { cls := .type "enumerate", data := .fields #[.none, .bool false, .ref s.heap.objs.size, rawInt 0, .none, .none] }) rfl
    rwa [sz1] at z
  exact ⟨⟨_, isE, rfl⟩, fin _ isE (Heap.get?_push_of_some _ (Heap.get?_push_size _ Bg.free)) fun b ob z => Heap.get?_push_of_some _ (Heap.get?_push_of_some _ z)⟩
theorem enumT_end {en it a : Addr} {i : Nat} {its : List Value} {old : Value} {Q : Option Value → Shared → Prop} (nh : A.handled = none) (isE : IsEnum s.heap en it i old) (isT : s.heap.IsTupleIter it a i) (tp : s.heap.IsTuple a its.toArray) (le : its.length ≤ i)
    (fin : ∀ g, Heap.ExtBut it s.heap g → Q none { s with heap := g }) : wpAny (model prog w) A (pyNext (.ref en)) Q E s := by
  have ty : s.TypeIs (.ref en) "enumerate" := ⟨_, isE, rfl⟩
  unfold pyNext
  refine wpAny_bind (wpAny_attempt (wpAny_callSpecial?_slot (name := Str.ofString "__next__") ty F.slot_enumerate_next (wpAny_call_entry F.slot_enumerate_next ty F.entry_enumerate_next ?_ (F.args_enumerate_next_1 _))))
  show wpAny _ _ (field (.ref en) 2 >>= _) _ _ _
  refine wpAny_bind (wpAny_field isE rfl (x := .ref it) rfl (wpAny_bind (wpAny_nextOf_tuple_end nh isT tp (by simp; omega) fun g z eb ⟨o, ho, co⟩ => ?_)))
  exact wpAny_bind (wpAny_isInstance (T := "StopIteration") (b := true) ⟨o, ho, co⟩ isSubtype_stop (wpAny_pure (fin _ eb)))
end
/-- the tuple at a, each item in a new pair -/
def IteT (K : PySem.W.Frag) (a : Addr) : It :=
  ⟨fun i H => ∃ (xs : List V) (x : V), SqT K H a xs ∧ xs[i]? = some x, fun i H v G => ∃ T x, v = .ref T ∧ H T = none ∧ G = upd H T (.tup [.int (i : Nat), x]) ∧ ∀ xs, SqT K H a xs → xs[i]? = some x, fun i H => ∃ xs : List V, SqT K H a xs ∧ xs.length ≤ i⟩
theorem tup_no_iter {h : Heap} {a it : Addr} {i : Nat} {b : Addr} {its : Array Value} (hi : h.IsTupleIter it b i) (ht : h.IsTuple a its) : a ≠ it := fun e => by
  obtain ⟨o, h1, c1, _⟩ := hi
  obtain ⟨o', h2, c2, _⟩ := ht
  rw [e] at h2
  rw [Option.some.inj (h1.symm.trans h2)] at c1
  exact absurd (c1.symm.trans c2) (by decide)
theorem tup_no_enum {h : Heap} {a en it : Addr} {i : Int} {old : Value} {its : Array Value} (hi : IsEnum h en it i old) (ht : h.IsTuple a its) : en ≠ a := fun e => by
  obtain ⟨o', h2, c2, _⟩ := ht
  have h1 : h.get? en = _ := hi
  rw [← e] at h2
  rw [← Option.some.inj (h1.symm.trans h2)] at c2
  exact absurd (show Value.type "enumerate" = Value.type "tuple" from c2) (by decide)
theorem turn_enumT {P : Program} {w : World} {K : PySem.W.Frag} {elts : List Expr} {kk : Nat} {tp : Pos} (a en it : Addr) :
    Turn P w K (.Tuple elts kk tp) (IteT K a) [en, it] en (fun i h => (∃ old, IsEnum h en it ((i : Nat) : Int) old) ∧ h.IsTupleIter it a i ∧ en ≠ it) where
  mem := by simp
  obj := fun i h st b hb => by
    obtain ⟨⟨old, isE⟩, ⟨o, ho, _, dt⟩, _⟩ := st
    rcases (show b = en ∨ b = it by simpa using hb) with rfl | rfl
    · exact ⟨_, isE, fun v z => nomatch z⟩
    · exact ⟨o, ho, fun v z => by rw [dt] at z; cases z⟩
  keep := fun i h g st k => by
    obtain ⟨⟨old, isE⟩, isT, ne⟩ := st
    exact ⟨⟨old, k en (by simp) _ isE⟩, isT.at fun o z => k it (by simp) o z, ne⟩
  item := by
    intro X eP ew eK cm i pins s σ H E I fp st go
    subst eP ew eK
    obtain ⟨⟨old, isE⟩, isT, ne⟩ := st
    obtain ⟨xs, x, sq, hx⟩ := go
    obtain ⟨its, rv, tp', hz⟩ := I.tuple sq
    have tp' : s.heap.IsTuple a its.toArray := tp'
    obtain ⟨u, hu, ru⟩ := rv.get hx
    have lte : en < s.heap.objs.size := Heap.lt_size isE
    have lti : it < s.heap.objs.size := by
      obtain ⟨_, z, _⟩ := isT
      exact Heap.lt_size z
    have dr := Draws.tuple (prog := X.prog) (w := X.w) (A := X.A.in1) (show X.A.in1.handled = none from I.ok.hd cm) it a (tup_no_iter isT tp') its.toArray
    have iLt : i < its.toArray.size := by
      have := (List.getElem?_eq_some_iff.mp hu).1
      simpa using this
    refine wpAny_pyNext_enum_itemD dr isE ⟨isT, tp'⟩ iLt ne (by simp [ne, tup_no_enum isE tp']) fun y g tk py isO st' newT szg kp => ?_
    have ey : y = u := by
      have py : its.toArray[i]? = some y := py
      have : its[i]? = some y := by simpa using py
      exact Option.some.inj (this.symm.trans hu)
    subst ey
    refine ⟨_, rfl, wpAny_letOwnedTupleGo_enum (s := { s with heap := g, toks := tk + 1 }) isO fun g2 isE2 sb => ?_⟩
    have newT2 : g2.get? s.heap.objs.size = some { cls := .type "tuple", data := .seq #[.int i tk, y] } := (sb.2 _ (Nat.ne_of_gt lte)).trans newT
    have okT : ObjOk X.prog X.w (upd H s.heap.objs.size (.tup [.int (i : Nat), x])) g2 s.heap.objs.size (.tup [.int (i : Nat), x]) :=
      ⟨by show 2 ≤ sizeLine; decide, [.int i tk, y], .cons ⟨_, rfl⟩ (.cons ru .nil), ⟨_, newT2, rfl, _, rfl⟩⟩
    have J : Inv X pins σ (upd H s.heap.objs.size (.tup [.int (i : Nat), x])) { s with heap := g2, toks := tk + 1 } :=
      I.turnedNew (ch := [en, it]) (fun b ob nb z => (sb.2 b (fun q => nb (by simp [q]))).trans (kp b ob (fun q => nb (by simp [q])) (fun q => nb (by simp [q])) z)) fp (Nat.le_refl _) okT
    refine ⟨.ref s.heap.objs.size, _, J, rfl, ⟨_, x, rfl, I.hok.fresh (Nat.le_refl _), rfl, fun ys hy => by rw [I.tuple_inj hy sq]; exact hx⟩, ⟨⟨y, ?_⟩, st'.1.at fun o z => (sb.2 it (Ne.symm ne)).trans z, ne⟩, fun b hb => ?_⟩
    · rw [show ((i + 1 : Nat) : Int) = (i : Int) + 1 by omega]
      exact isE2
    · have ltb : b < s.heap.objs.size := by
        rcases (show b = en ∨ b = it by simpa using hb) with q | q
        · rw [q]; exact lte
        · rw [q]; exact lti
      rw [upd_ne (Nat.ne_of_lt ltb)]
      exact (fp b hb).1
  done := by
    intro X eP ew eK cm i pins s σ H E I fp st go
    subst eP ew eK
    obtain ⟨⟨old, isE⟩, isT, ne⟩ := st
    obtain ⟨xs, sq, hx⟩ := go
    obtain ⟨its, rv, tp', hz⟩ := I.tuple sq
    have tp' : s.heap.IsTuple a its.toArray := tp'
    obtain ⟨f0, f1, f2, f3, f4, f5⟩ := fp it (by simp)
    have ll := rv.length
    exact enumT_end (I.ok.hd cm) isE isT tp' (by omega) fun g eb => ⟨rfl, I.turned (t' := s.toks) (fun b o nb z => eb b o nb z) f0 f1 f3 f4 f5⟩
  self := fun A i s Q E st fin => by
    obtain ⟨⟨_, isE⟩, _⟩ := st
    exact wpAny_pyIter_enum isE fin
def iEnumT (K : PySem.W.Frag) (ta : TA) : TI := fun σ H R => ta σ H fun vs G => ∃ a xs, vs = [.ref a] ∧ SqT K G a xs ∧ R (IteT K a) G
theorem pi_enumT {X : Cx} {e : Expr} {ta : TA} {p pos tp : Pos} {elts : List Expr} {kk : Nat} (gl : Gl X "enumerate") (mn : X.mg "enumerate" = none) (ha : PA X [e] ta) (st : starEach [e] X.env = [(false, eval e X.env)] := by rfl) :
    PI X (.Tuple elts kk tp) (.Call (.Name "enumerate" p) [e] [] pos) (iEnumT X.K ta) := by
  refine ⟨fun pins s σ H R I h => ?_⟩
  refine Call_ (ld_blt I gl mn boot_enumerate (PyProof.Rows.callWith_type1 (thn (ha.run pos pins s σ H _ I h) fun us s1 ⟨vs, H1, I1, r1, a, xs, ex, sq, q⟩ => ?_) st rfl))
  subst ex
  obtain ⟨u, rfl, r⟩ : ∃ u, us = [u] ∧ RelV (.ref a) u := by
    cases r1 with
    | cons r rr => cases rr; exact ⟨_, rfl, r⟩
  cases r
  obtain ⟨its, rv, tp', hz⟩ := I1.tuple sq
  refine call_enumT (begins_tuple a its.toArray) tp' fun g isE isT kp => wpAny_pyIter_enum isE ?_
  have I2 : Inv X pins σ H1 { s1 with heap := g } := I1.kept (t' := s1.toks) kp
  refine ⟨s1.heap.objs.size + 1, [s1.heap.objs.size + 1, s1.heap.objs.size], _, _, H1, rfl, I2, turn_enumT a (s1.heap.objs.size + 1) s1.heap.objs.size, ⟨⟨.none, isE⟩, ⟨_, isT, rfl, rfl⟩, Nat.succ_ne_self _⟩, fun b hb => ?_, q⟩
  have le : s1.heap.objs.size ≤ b := by
    rcases (show b = s1.heap.objs.size + 1 ∨ b = s1.heap.objs.size by simpa using hb) with z | z
    · rw [z]; exact Nat.le_add_right _ _
    · rw [z]; exact Nat.le_refl _
  exact I1.fpOk le (I1.hok.fresh le)
/-- a comprehension over enumerate(tuple) that leaves places out; the heap stays but for the pairs -/
theorem lc_enumT {K : PySem.W.Frag} {a : Addr} {xs : List V} {H : Hp} {D : Addr} (hD : H D = none) (hS : H a = some (.tup xs)) (hl : xs.length ≤ 10000) (p : Nat → Bool) (f : Nat → V)
    {g : TG} {tt : TT} {te : TE} {vs : List Nat} {σ : L2.St} {Qd : Hp → Prop}
    (turn : ∀ (i : Nat) (x : V) (T : Addr) (H2 : Hp) (R : V → Hp → Prop) (C : Hp → Prop), xs[i]? = some x → Same H H2 → H2 T = some (.tup [.int (i : Nat), x]) → (p i = true → R (f i) H2) → (p i = false → C H2) → g (.ref T) (wipe σ vs) H2 fun σ2 H3 => wipe σ2 vs = wipe σ vs ∧ tt σ2 H3 fun b H4 => if b = true then te σ2 H4 R else C H4)
    (fin : ∀ H', Same H H' → H' D = some (.lst (((List.range xs.length).filter p).map f)) → Qd H') :
    ∃ W : Nat → Nat → Hp → Prop, (∃ m, W 0 m (upd H D (.lst []))) ∧ ∀ i m H, W i m H →
      ((IteT K a).stop i H ∧ Qd H) ∨ ((IteT K a).go i H ∧ ∃ Nx : Hp → Prop, (∀ H', Nx H' → ∃ m', m' < m ∧ W (i + 1) m' H') ∧ ∀ x H', (IteT K a).yld i H x H' → g x (wipe σ vs) H' fun σ2 H2 => wipe σ2 vs = wipe σ vs ∧ tt σ2 H2 fun b H3 =>
        if b = true then te σ2 H3 fun y H4 => ∃ acc, H4 D = some (.lst acc) ∧ acc.length < sizeLine ∧ Nx (upd H4 D (.lst (acc ++ [y]))) else Nx H3) := by
  refine ⟨fun i m H' => i ≤ xs.length ∧ m = xs.length - i ∧ Same H H' ∧ H' D = some (.lst (((List.range i).filter p).map f)), ⟨_, Nat.zero_le _, rfl, same_upd hD, upd_same⟩, ?_⟩
  rintro i m H1 ⟨hi, rfl, s1, e1⟩
  have ea := s1 _ _ hS
  by_cases he : i = xs.length
  · subst he
    exact .inl ⟨⟨xs, .inl (.inl ea), Nat.le_refl _⟩, fin H1 s1 e1⟩
  have hlt : i < xs.length := by omega
  refine .inr ⟨⟨xs, xs[i], .inl (.inl ea), List.getElem?_eq_getElem hlt⟩, fun H' => Same H H' ∧ H' D = some (.lst (((List.range (i + 1)).filter p).map f)), fun H' ⟨z1, z2⟩ => ⟨xs.length - (i + 1), by omega, by omega, rfl, z1, z2⟩, ?_⟩
  rintro _ _ ⟨T, x, rfl, hT, rfl, hx⟩
  have nT := ne_of_none e1 hT
  have z := same_upd hT (o := .tup [.int (i : Nat), x])
  have s2 := s1.trans z
  have e2 := z _ _ e1
  refine turn i x T _ _ _ (hx xs (.inl (.inl ea))) s2 upd_same (fun hp => ?_) (fun hp => ?_)
  · refine ⟨_, e2, ?_, fun b o h => ?_, ?_⟩
    · rw [List.length_map]
      refine Nat.lt_of_le_of_lt (List.length_filter_le _ _) ?_
      rw [List.length_range]
      exact Nat.lt_of_lt_of_le (show i < 10000 by omega) (by decide)
    · rw [upd_ne (ne_of_none h hD)]
      exact s2 _ _ h
    · rw [upd_same, List.range_succ, List.filter_append, List.map_append, List.filter_cons_of_pos hp]
      rfl
  · refine ⟨s2, ?_⟩
    rw [e2, List.range_succ, List.filter_append, List.map_append, List.filter_cons_of_neg (by rw [hp]; exact Bool.false_ne_true)]
    show _ = some (HO.lst (_ ++ []))
    rw [List.append_nil]
end KA
namespace KA
open PySem PySem.SeqAt
open AutoSeq1 (wpAny_loadPart')
open MeetsSeq MeetsSeq2 MeetsSeq3 SeqRoads2
section
variable {prog : Program} {w : World} {A : Around} {R : Result → Shared → Prop}
/-- two lists whose items are equal, turn by turn: != is False -/
theorem ne_turns (p q : Addr) (N : Nat) (J : Nat → Shared → Prop) (hJ : GQ.ListI prog w A (fun e s' => R (.error e) s') p q N J)
    (done : ∀ s, J N s → R (.ok (.ret (.bool false))) s) : ∀ (k i : Nat), N - i = k → i ≤ N → ∀ s, J i s →
      wpAny (model prog w) A.in1 (Builtin.«list.__eq__.loop» ⟨[.ref p, .ref q, rawInt i, rawInt 3], []⟩) (GQ.FinOf prog w A R) (fun e s' => R (.error e) s') s
  | 0, i, hk, hi, s, hs => by
    obtain ⟨xs, ys, m, m2, gp, gq, zp, zq, _⟩ := hJ _ _ hs
    have iN : i = N := by omega
    have last : R (.ok (.ret (.bool false))) s := done s (iN ▸ hs)
    obtain ⟨hh, gg, dd, kk, oo⟩ := s
    wp_walk using wpAny_loadPart' gp, wpAny_loadPart' gq
    have n1 : xs[((i : Nat) : Int).toNat]? = none := by simp; omega
    have n2 : ys[((i : Nat) : Int).toNat]? = none := by simp; omega
    rw [n1, n2]
    wp_walk using wpAny_loadPart' gp, wpAny_loadPart' gq
    show R (.ok (.ret (.bool (xs.size != ys.size)))) _
    rw [zp, zq]
    simpa using last
  | k + 1, i, hk, hi, s, hs => by
    obtain ⟨xs, ys, m, m2, gp, gq, zp, zq, tn⟩ := hJ _ _ hs
    have ip : i < xs.size := by omega
    have iq : i < ys.size := by omega
    have tt := tn ip iq
    obtain ⟨hh, gg, dd, kk, oo⟩ := s
    wp_walk using wpAny_loadPart' gp, wpAny_loadPart' gq
    have n1 : xs[((i : Nat) : Int).toNat]? = some xs[i] := by simp [ip]
    have n2 : ys[((i : Nat) : Int).toNat]? = some ys[i] := by simp [iq]
    have up : ((i : Int) + 1) = ((i + 1 : Nat) : Int) := by omega
    rw [n1, n2]
    refine wpAny_bind (wpAny_mono tt (fun r s2 h2 => ?_) fun _ _ x => x)
    obtain ⟨er, h2⟩ := h2
    subst er
    have next := ne_turns p q N J hJ done k (i + 1) (by omega) (by omega) s2 h2
    obtain ⟨hh2, gg2, dd2, kk2, oo2⟩ := s2
    wp_walk
    rw [up]
    exact ⟨plainId_quiet plain_eq_loop _, codeAny_builtin entry_eq_loop (by rw [Around.under_plainId plain_eq_loop _]; exact next)⟩
theorem ne_lists (p q : Addr) (N : Nat) (J : Nat → Shared → Prop) (hJ : GQ.ListI prog w A (fun e s' => R (.error e) s') p q N J)
    (done : ∀ s, J N s → R (.ok (.ret (.bool false))) s) {s : Shared} (hs : J 0 s) :
    wpAny (model prog w) A.in1 (Builtin.«list.__ne__» ⟨[.ref p, .ref q], []⟩) (GQ.FinOf prog w A R) (fun e s' => R (.error e) s') s := by
  obtain ⟨xs, ys, m, m2, gp, gq, zp, zq, _⟩ := hJ _ _ hs
  have all := ne_turns (A := A) (R := R) p q N J hJ done _ 0 rfl (Nat.zero_le _) s hs
  obtain ⟨hh, gg, dd, kk, oo⟩ := s
  have sub := AutoSeq1.sub_list_list
  have same : ¬ (xs.size != ys.size) = true := by simp [zp, zq]
  wp_walk using wpAny_loadPart' gp, wpAny_loadPart' gq
  exact ⟨plainId_quiet plain_eq_loop _, codeAny_builtin entry_eq_loop (by rw [Around.under_plainId plain_eq_loop _]; exact all)⟩
end
section
variable {prog : Program} {w : World} {A : Around} {E : Value → Shared → Prop} {s : Shared}
theorem rc_ne {p q : Addr} {N : Nat} {Q : Value → Shared → Prop} (hu : A.units < cLine) (J : Nat → Shared → Prop) (hJ : GQ.ListI prog w A E p q N J)
    (done : ∀ s, J N s → Q (.bool false) s) (hs : J 0 s) : wpAny (model prog w) A (richCompare .NotEq (.ref p) (.ref q)) Q E s := by
  obtain ⟨xs, ys, m, m2, gp, gq, _, _, _⟩ := hJ _ _ hs
  refine wpAny_richCompare_same_room (op := .NotEq) ⟨_, gp, rfl⟩ ⟨_, gq, rfl⟩ F.slot_list_ne (GQ.call_here F.slot_list_ne ⟨_, gp, rfl⟩ F.entry_list_ne (F.args_list_ne_2 _ _) ?_) hu
  exact ne_lists (R := wants (fun v s' => v ≠ .notImplemented ∧ Q v s') E) p q N J hJ (fun s' z => ⟨(fun x => nomatch x), done s' z⟩) hs
end
open L2 in
/-- xs != ys, where the items are equal by their own == : False -/
def rNeG (D : Eqv) : R2 := fun x y H Q => DList D x y H ∧ ∀ H', Ext H H' → Q (.bl false) H'
open L2 in
theorem op_neG {X : Cx} {n : Nat} {D : Eqv} (hD : Mon D) (h : EqG X n D) (hr : Room (n + 1) X.A) : OpR X (compareOp .NotEq) (rNeG D) := by
  intro pins s σ H x y v u Q I rx ry hq
  obtain ⟨⟨a, b, xs, ys, rfl, rfl, ha, hb, p⟩, q⟩ := hq
  cases rx
  cases ry
  show wpAny (model X.prog X.w) X.A (richCompare .NotEq (.ref a) (.ref b)) (EP X pins σ Q) X.xe s
  refine rc_ne (N := xs.length) hr.units0 (fun _ s' => LoopI X pins σ H s') (fun i s' z => ?_) (fun s' z => ?_) ⟨H, I, Ext.rfl'⟩
  · obtain ⟨H1, I1, e1⟩ := id z
    obtain ⟨_, its, k, r, e⟩ := I1.hok a _ (e1 _ _ ha)
    obtain ⟨_, its2, k2, r2, e2⟩ := I1.hok b _ (e1 _ _ hb)
    exact ⟨its.toArray, its2.toArray, k, k2, e, e2, by rw [List.size_toArray, ← r.length], by rw [List.size_toArray, ← r2.length, ← p.1], fun g1 g2 => turnG hD h ⟨hr, rfl⟩ p r r2 i g1 g2 s' z⟩
  · obtain ⟨H1, I1, e1⟩ := z
    exact ⟨.bl false, H1, I1, rfl, q H1 e1⟩
end KA
namespace KA
open PySem PySem.Spec PyProof.Rows L2
/-- a comprehension over a list that leaves places out; what it asks may make new things -/
theorem lc_someX {K : PySem.W.Frag} {a : Addr} {xs : List V} {H : Hp} {D : Addr} (hD : H D = none) (hS : SqL K H a xs) (hl : xs.length ≤ 10000) (p : Nat → Bool) (f : Nat → V)
    {g : TG} {tt : TT} {te : TE} {vs : List Nat} {σ : L2.St} {Qd : Hp → Prop}
    (turn : ∀ (i : Nat) (x : V) (H2 : Hp) (R : V → Hp → Prop) (C : Hp → Prop), xs[i]? = some x → Same H H2 → (p i = true → ∀ H3, Same H2 H3 → R (f i) H3) → (p i = false → ∀ H3, Same H2 H3 → C H3) → g x (wipe σ vs) H2 fun σ2 H2 => wipe σ2 vs = wipe σ vs ∧ tt σ2 H2 fun b H3 => if b = true then te σ2 H3 R else C H3)
    (fin : ∀ H', Same H H' → H' D = some (.lst (((List.range xs.length).filter p).map f)) → Qd H') :
    ∃ W : Nat → Nat → Hp → Prop, (∃ m, W 0 m (upd H D (.lst []))) ∧ ∀ i m H, W i m H →
      ((Itl K a).stop i H ∧ Qd H) ∨ ((Itl K a).go i H ∧ ∃ Nx : Hp → Prop, (∀ H', Nx H' → ∃ m', m' < m ∧ W (i + 1) m' H') ∧ ∀ x H', (Itl K a).yld i H x H' → g x (wipe σ vs) H' fun σ2 H2 => wipe σ2 vs = wipe σ vs ∧ tt σ2 H2 fun b H3 =>
        if b = true then te σ2 H3 fun y H4 => ∃ acc, H4 D = some (.lst acc) ∧ acc.length < sizeLine ∧ Nx (upd H4 D (.lst (acc ++ [y]))) else Nx H3) := by
  refine lc_list (K := K) (a := a) (xs := xs) (fun i H' => Same H H' ∧ H' D = some (.lst (((List.range i).filter p).map f))) ⟨same_upd hD, upd_same⟩ (fun i H' _ h => h.1.seq hS) ?_ ?_
  · rintro i x H2 hi ⟨s2, e2⟩
    have hil : i < xs.length := (List.getElem?_eq_some_iff.mp hi).1
    refine turn i x H2 _ _ hi s2 (fun hp H3 s3 => ?_) (fun hp H3 s3 => ?_)
    · refine ⟨_, s3 _ _ e2, ?_, fun b o h => ?_, ?_⟩
      · rw [List.length_map]
        refine Nat.lt_of_le_of_lt (List.length_filter_le _ _) ?_
        rw [List.length_range]
        exact Nat.lt_of_lt_of_le (show i < 10000 by omega) (by decide)
      · rw [upd_ne (ne_of_none h hD)]
        exact s3 _ _ (s2 _ _ h)
      · rw [upd_same, List.range_succ, List.filter_append, List.map_append, List.filter_cons_of_pos hp]
        rfl
    · refine ⟨s2.trans s3, ?_⟩
      rw [s3 _ _ e2, List.range_succ, List.filter_append, List.map_append, List.filter_cons_of_neg (by rw [hp]; exact Bool.false_ne_true)]
      show _ = some (HO.lst (_ ++ []))
      rw [List.append_nil]
  · rintro H' ⟨s, e⟩
    exact fin H' s e
theorem lc_someR {n : Nat} {H : Hp} {D : Addr} (hD : H D = none) (hl : n ≤ 10000) (p : Nat → Bool) (f : Nat → V)
    {g : TG} {tt : TT} {te : TE} {vs : List Nat} {σ : L2.St} {Qd : Hp → Prop}
    (turn : ∀ (i : Nat) (H2 : Hp) (R : V → Hp → Prop) (C : Hp → Prop), i < n → Same H H2 → (p i = true → ∀ H3, Same H2 H3 → R (f i) H3) → (p i = false → ∀ H3, Same H2 H3 → C H3) → g (.int (0 + i)) (wipe σ vs) H2 fun σ2 H2 => wipe σ2 vs = wipe σ vs ∧ tt σ2 H2 fun b H3 => if b = true then te σ2 H3 R else C H3)
    (fin : ∀ H', Same H H' → H' D = some (.lst (((List.range n).filter p).map f)) → Qd H') :
    ∃ W : Nat → Nat → Hp → Prop, (∃ m, W 0 m (upd H D (.lst []))) ∧ ∀ i m H, W i m H →
      ((Itr 0 n).stop i H ∧ Qd H) ∨ ((Itr 0 n).go i H ∧ ∃ Nx : Hp → Prop, (∀ H', Nx H' → ∃ m', m' < m ∧ W (i + 1) m' H') ∧ ∀ x H', (Itr 0 n).yld i H x H' → g x (wipe σ vs) H' fun σ2 H2 => wipe σ2 vs = wipe σ vs ∧ tt σ2 H2 fun b H3 =>
        if b = true then te σ2 H3 fun y H4 => ∃ acc, H4 D = some (.lst acc) ∧ acc.length < sizeLine ∧ Nx (upd H4 D (.lst (acc ++ [y]))) else Nx H3) := by
  refine lc_range (lo := 0) (n := n) (fun i H' => Same H H' ∧ H' D = some (.lst (((List.range i).filter p).map f))) ⟨same_upd hD, upd_same⟩ ?_ ?_
  · rintro i H2 hil ⟨s2, e2⟩
    refine turn i H2 _ _ hil s2 (fun hp H3 s3 => ?_) (fun hp H3 s3 => ?_)
    · refine ⟨_, s3 _ _ e2, ?_, fun b o h => ?_, ?_⟩
      · rw [List.length_map]
        refine Nat.lt_of_le_of_lt (List.length_filter_le _ _) ?_
        rw [List.length_range]
        exact Nat.lt_of_lt_of_le (show i < 10000 by omega) (by decide)
      · rw [upd_ne (ne_of_none h hD)]
        exact s3 _ _ (s2 _ _ h)
      · rw [upd_same, List.range_succ, List.filter_append, List.map_append, List.filter_cons_of_pos hp]
        rfl
    · refine ⟨s2.trans s3, ?_⟩
      rw [s3 _ _ e2, List.range_succ, List.filter_append, List.map_append, List.filter_cons_of_neg (by rw [hp]; exact Bool.false_ne_true)]
      show _ = some (HO.lst (_ ++ []))
      rw [List.append_nil]
  · rintro H' ⟨s, e⟩
    exact fin H' s e
end KA
namespace KA
open PySem PySem.Spec PyProof.Rows L2
/-- a comprehension over enumerate(list) that leaves places out; what it asks may make new things -/
theorem lc_enumX {K : PySem.W.Frag} {a : Addr} {xs : List V} {H : Hp} {D : Addr} (hD : H D = none) (hS : SqL K H a xs) (hl : xs.length ≤ 10000) (p : Nat → Bool) (f : Nat → V)
    {g : TG} {tt : TT} {te : TE} {vs : List Nat} {σ : L2.St} {Qd : Hp → Prop}
    (turn : ∀ (i : Nat) (x : V) (T : Addr) (H2 : Hp) (R : V → Hp → Prop) (C : Hp → Prop), xs[i]? = some x → Same H H2 → H2 T = some (.tup [.int (i : Nat), x]) → (p i = true → ∀ H3, Same H2 H3 → R (f i) H3) → (p i = false → ∀ H3, Same H2 H3 → C H3) → g (.ref T) (wipe σ vs) H2 fun σ2 H2 => wipe σ2 vs = wipe σ vs ∧ tt σ2 H2 fun b H3 => if b = true then te σ2 H3 R else C H3)
    (fin : ∀ H', Same H H' → H' D = some (.lst (((List.range xs.length).filter p).map f)) → Qd H') :
    ∃ W : Nat → Nat → Hp → Prop, (∃ m, W 0 m (upd H D (.lst []))) ∧ ∀ i m H, W i m H →
      ((Ite K a).stop i H ∧ Qd H) ∨ ((Ite K a).go i H ∧ ∃ Nx : Hp → Prop, (∀ H', Nx H' → ∃ m', m' < m ∧ W (i + 1) m' H') ∧ ∀ x H', (Ite K a).yld i H x H' → g x (wipe σ vs) H' fun σ2 H2 => wipe σ2 vs = wipe σ vs ∧ tt σ2 H2 fun b H3 =>
        if b = true then te σ2 H3 fun y H4 => ∃ acc, H4 D = some (.lst acc) ∧ acc.length < sizeLine ∧ Nx (upd H4 D (.lst (acc ++ [y]))) else Nx H3) := by
  refine lc_it (walk_enum (K := K) (a := a) (xs := xs)) (fun i H' => Same H H' ∧ H' D = some (.lst (((List.range i).filter p).map f))) ⟨same_upd hD, upd_same⟩ (fun i H' _ h => h.1.seq hS) ?_ ?_
  · rintro i x H1 H2 hi ⟨s1, e1⟩ ⟨T, u, v, rfl, nT, rfl, c1, c2⟩
    have c1 : some (V.int (i : Nat)) = some u := c1
    cases c1
    have sT := same_upd nT (o := .tup [.int (i : Nat), v])
    refine turn i v T _ _ _ c2 (s1.trans sT) upd_same (fun hp H3 s3 => ?_) (fun hp H3 s3 => ?_)
    · refine ⟨_, s3 _ _ (sT _ _ e1), ?_, fun b o h => ?_, ?_⟩
      · rw [List.length_map]
        refine Nat.lt_of_le_of_lt (List.length_filter_le _ _) ?_
        rw [List.length_range]
        exact Nat.lt_of_lt_of_le (show i < 10000 by omega) (by decide)
      · rw [upd_ne (ne_of_none h hD)]
        exact s3 _ _ (sT _ _ (s1 _ _ h))
      · rw [upd_same, List.range_succ, List.filter_append, List.map_append, List.filter_cons_of_pos hp]
        rfl
    · refine ⟨(s1.trans sT).trans s3, ?_⟩
      rw [s3 _ _ (sT _ _ e1), List.range_succ, List.filter_append, List.map_append, List.filter_cons_of_neg (by rw [hp]; exact Bool.false_ne_true)]
      show _ = some (HO.lst (_ ++ []))
      rw [List.append_nil]
  · rintro H' ⟨s, e⟩
    exact fin H' s e
end KA
namespace KA
open PySem PySem.SeqAt
open AutoSeq1 (wpAny_loadPart')
open MeetsSeq MeetsSeq2 MeetsSeq3 SeqRoads2
section
variable {prog : Program} {w : World} {A : Around} {R : Result → Shared → Prop}
/-- two lists as long, read anew at each turn: the two items are told equal (then J goes on) or not (then F) -/
def LstI (prog : Program) (w : World) (A : Around) (E : Value → Shared → Prop) (p q : Addr) (N : Nat) (J : Nat → Shared → Prop) (F : Shared → Prop) : Prop :=
  ∀ i s, J i s → ∃ (xs ys : Array Value) (m m2 : Nat), s.heap.get? p = some { cls := .type "list", data := .seq xs m } ∧ s.heap.get? q = some { cls := .type "list", data := .seq ys m2 } ∧ xs.size = N ∧ ys.size = N ∧
    ∀ (g1 : i < xs.size) (g2 : i < ys.size), wpAny (model prog w) A.in1 (eqBool xs[i] ys[i]) (fun r s' => (r = true → J (i + 1) s') ∧ (r = false → F s' ∧ ∃ (xs ys : Array Value) (m m2 : Nat), s'.heap.get? p = some { cls := .type "list", data := .seq xs m } ∧ s'.heap.get? q = some { cls := .type "list", data := .seq ys m2 } ∧ xs.size = N ∧ ys.size = N)) E s
/-- op: 2 is ==, 3 is != ; what is told where all items are equal is no -/
theorem turnsB (op : Nat) (yes : Bool) (hop : (op = 2 ∧ yes = true) ∨ (op = 3 ∧ yes = false)) (p q : Addr) (N : Nat) (J : Nat → Shared → Prop) (F : Shared → Prop) (hJ : LstI prog w A (fun e s' => R (.error e) s') p q N J F)
    (done : ∀ s, J N s → R (.ok (.ret (.bool yes))) s) (fail : ∀ s, F s → R (.ok (.ret (.bool (!yes)))) s) : ∀ (k i : Nat), N - i = k → i ≤ N → ∀ s, J i s →
      wpAny (model prog w) A.in1 (Builtin.«list.__eq__.loop» ⟨[.ref p, .ref q, rawInt i, rawInt op], []⟩) (GQ.FinOf prog w A R) (fun e s' => R (.error e) s') s
  | 0, i, hk, hi, s, hs => by
    obtain ⟨xs, ys, m, m2, gp, gq, zp, zq, _⟩ := hJ _ _ hs
    have iN : i = N := by omega
    have last : R (.ok (.ret (.bool yes))) s := done s (iN ▸ hs)
    have n1 : xs[((i : Nat) : Int).toNat]? = none := by simp; omega
    have n2 : ys[((i : Nat) : Int).toNat]? = none := by simp; omega
    rcases hop with ⟨rfl, rfl⟩ | ⟨rfl, rfl⟩
    · obtain ⟨hh, gg, dd, kk, oo⟩ := s
      wp_walk using wpAny_loadPart' gp, wpAny_loadPart' gq
      rw [n1, n2]
      wp_walk using wpAny_loadPart' gp, wpAny_loadPart' gq
      show R (.ok (.ret (.bool (xs.size == ys.size)))) _
      rw [zp, zq]
      simpa using last
    · obtain ⟨hh, gg, dd, kk, oo⟩ := s
      wp_walk using wpAny_loadPart' gp, wpAny_loadPart' gq
      rw [n1, n2]
      wp_walk using wpAny_loadPart' gp, wpAny_loadPart' gq
      show R (.ok (.ret (.bool (xs.size != ys.size)))) _
      rw [zp, zq]
      simpa using last
  | k + 1, i, hk, hi, s, hs => by
    obtain ⟨xs, ys, m, m2, gp, gq, zp, zq, tn⟩ := hJ _ _ hs
    have ip : i < xs.size := by omega
    have iq : i < ys.size := by omega
    have tt := tn ip iq
    have n1 : xs[((i : Nat) : Int).toNat]? = some xs[i] := by simp [ip]
    have n2 : ys[((i : Nat) : Int).toNat]? = some ys[i] := by simp [iq]
    have up : ((i : Int) + 1) = ((i + 1 : Nat) : Int) := by omega
    have next := fun s2 h2 => turnsB op yes hop p q N J F hJ done fail k (i + 1) (by omega) (by omega) s2 h2
    rcases hop with ⟨rfl, rfl⟩ | ⟨rfl, rfl⟩
    · obtain ⟨hh, gg, dd, kk, oo⟩ := s
      wp_walk using wpAny_loadPart' gp, wpAny_loadPart' gq
      rw [n1, n2]
      refine wpAny_bind (wpAny_mono tt (fun r s2 h2 => ?_) fun _ _ x => x)
      cases r with
      | true =>
        have h3 := next s2 (h2.1 rfl)
        obtain ⟨hh2, gg2, dd2, kk2, oo2⟩ := s2
        wp_walk
        rw [up]
        exact ⟨plainId_quiet plain_eq_loop _, codeAny_builtin entry_eq_loop (by rw [Around.under_plainId plain_eq_loop _]; exact h3)⟩
      | false =>
        obtain ⟨hF, xs2, ys2, m3, m4, gp2, gq2, zp2, zq2⟩ := h2.2 rfl
        have h3 := fail s2 hF
        have n3 : xs2[((i : Nat) : Int).toNat]? = some (xs2[i]'(by omega)) := by simp
        have n4 : ys2[((i : Nat) : Int).toNat]? = some (ys2[i]'(by omega)) := by simp
        obtain ⟨hh2, gg2, dd2, kk2, oo2⟩ := s2
        wp_walk using wpAny_loadPart' gp2, wpAny_loadPart' gq2
        rw [n3, n4]
        wp_walk
        exact h3
    · obtain ⟨hh, gg, dd, kk, oo⟩ := s
      wp_walk using wpAny_loadPart' gp, wpAny_loadPart' gq
      rw [n1, n2]
      refine wpAny_bind (wpAny_mono tt (fun r s2 h2 => ?_) fun _ _ x => x)
      cases r with
      | true =>
        have h3 := next s2 (h2.1 rfl)
        obtain ⟨hh2, gg2, dd2, kk2, oo2⟩ := s2
        wp_walk
        rw [up]
        exact ⟨plainId_quiet plain_eq_loop _, codeAny_builtin entry_eq_loop (by rw [Around.under_plainId plain_eq_loop _]; exact h3)⟩
      | false =>
        obtain ⟨hF, xs2, ys2, m3, m4, gp2, gq2, zp2, zq2⟩ := h2.2 rfl
        have h3 := fail s2 hF
        have n3 : xs2[((i : Nat) : Int).toNat]? = some (xs2[i]'(by omega)) := by simp
        have n4 : ys2[((i : Nat) : Int).toNat]? = some (ys2[i]'(by omega)) := by simp
        obtain ⟨hh2, gg2, dd2, kk2, oo2⟩ := s2
        wp_walk using wpAny_loadPart' gp2, wpAny_loadPart' gq2
        rw [n3, n4]
        wp_walk
        exact h3
theorem listsB (ne yes : Bool) (hop : ne = !yes) (p q : Addr) (N : Nat) (J : Nat → Shared → Prop) (F : Shared → Prop) (hJ : LstI prog w A (fun e s' => R (.error e) s') p q N J F)
    (done : ∀ s, J N s → R (.ok (.ret (.bool yes))) s) (fail : ∀ s, F s → R (.ok (.ret (.bool (!yes)))) s) {s : Shared} (hs : J 0 s) :
    wpAny (model prog w) A.in1 ((if ne then Builtin.«list.__ne__» else Builtin.«list.__eq__») ⟨[.ref p, .ref q], []⟩) (GQ.FinOf prog w A R) (fun e s' => R (.error e) s') s := by
  obtain ⟨xs, ys, m, m2, gp, gq, zp, zq, _⟩ := hJ _ _ hs
  have same : ¬ (xs.size != ys.size) = true := by simp [zp, zq]
  have sub := AutoSeq1.sub_list_list
  cases yes with
  | true =>
    subst hop
    have all := turnsB (A := A) (R := R) 2 true (.inl ⟨rfl, rfl⟩) p q N J F hJ done fail _ 0 rfl (Nat.zero_le _) s hs
    obtain ⟨hh, gg, dd, kk, oo⟩ := s
    show wpAny _ _ (Builtin.«list.__eq__» ⟨[.ref p, .ref q], []⟩) _ _ _
    wp_walk using wpAny_loadPart' gp, wpAny_loadPart' gq
    exact ⟨plainId_quiet plain_eq_loop _, codeAny_builtin entry_eq_loop (by rw [Around.under_plainId plain_eq_loop _]; exact all)⟩
  | false =>
    subst hop
    have all := turnsB (A := A) (R := R) 3 false (.inr ⟨rfl, rfl⟩) p q N J F hJ done fail _ 0 rfl (Nat.zero_le _) s hs
    obtain ⟨hh, gg, dd, kk, oo⟩ := s
    show wpAny _ _ (Builtin.«list.__ne__» ⟨[.ref p, .ref q], []⟩) _ _ _
    wp_walk using wpAny_loadPart' gp, wpAny_loadPart' gq
    exact ⟨plainId_quiet plain_eq_loop _, codeAny_builtin entry_eq_loop (by rw [Around.under_plainId plain_eq_loop _]; exact all)⟩
/-- lists of unlike lengths -/
theorem listsN (ne : Bool) (p q : Addr) {xs ys : Array Value} {m m2 : Nat} {s : Shared} (gp : s.heap.get? p = some { cls := .type "list", data := .seq xs m }) (gq : s.heap.get? q = some { cls := .type "list", data := .seq ys m2 }) (h : xs.size ≠ ys.size)
    (fail : R (.ok (.ret (.bool ne))) s) : wpAny (model prog w) A.in1 ((if ne then Builtin.«list.__ne__» else Builtin.«list.__eq__») ⟨[.ref p, .ref q], []⟩) (GQ.FinOf prog w A R) (fun e s' => R (.error e) s') s := by
  have unl : (xs.size != ys.size) = true := by simpa using h
  have sub := AutoSeq1.sub_list_list
  cases ne with
  | true =>
    obtain ⟨hh, gg, dd, kk, oo⟩ := s
    show wpAny _ _ (Builtin.«list.__ne__» ⟨[.ref p, .ref q], []⟩) _ _ _
    wp_walk using wpAny_loadPart' gp, wpAny_loadPart' gq
    exact fail
  | false =>
    obtain ⟨hh, gg, dd, kk, oo⟩ := s
    show wpAny _ _ (Builtin.«list.__eq__» ⟨[.ref p, .ref q], []⟩) _ _ _
    wp_walk using wpAny_loadPart' gp, wpAny_loadPart' gq
    exact fail
end
end KA
namespace KA
open PySem PySem.SeqAt
open AutoSeq1 (wpAny_loadPart')
open MeetsSeq MeetsSeq2 MeetsSeq3 SeqRoads2
section
variable {prog : Program} {w : World} {A : Around} {R : Result → Shared → Prop}
theorem tupsB (ne : Bool) (p q : Addr) (xs ys : Array Value) (n n2 : Nat) (d1 d2 : Option Addr) (l1 l2 : Array (Option Value)) (J : Nat → Shared → Prop) (F : Shared → Prop)
    (turn : ∀ i (h1 : i < xs.size) (h2 : i < ys.size) s, J i s → wpAny (model prog w) A.in1 (eqBool xs[i] ys[i]) (fun r s' => (r = true → J (i + 1) s') ∧ (r = false → F s')) (fun e s' => R (.error e) s') s)
    (done : ∀ s, J (min xs.size ys.size) s → R (.ok (.ret (.bool (ne ^^ (xs.size == ys.size))))) s) (fail : ∀ s, F s → R (.ok (.ret (.bool ne))) s)
    {s : Shared} (gp : s.heap.get? p = some { cls := .type "tuple", dict := d1, data := .seq xs n, slots := l1 }) (gq : s.heap.get? q = some { cls := .type "tuple", dict := d2, data := .seq ys n2, slots := l2 }) (h : J 0 s) :
    wpAny (model prog w) A.in1 ((if ne then Builtin.«tuple.__ne__» else Builtin.«tuple.__eq__») ⟨[.ref p, .ref q], []⟩) (GQ.FinOf prog w A R) (fun e s' => R (.error e) s') s := by
  have sub := AutoSeq1.sub_tuple_tuple
  have hZ : (xs.toList.zip ys.toList).length = min xs.size ys.size := by simp
  have h0 := h
  have at_ : ∀ {i : Nat} {z : Value × Value} {rest : List (Value × Value)}, z :: rest = (xs.toList.zip ys.toList).drop i → ∃ (h1 : i < xs.size) (h2 : i < ys.size), z = (xs[i], ys[i]) ∧ rest = (xs.toList.zip ys.toList).drop (i + 1) := fun {i z rest} hz => by
    have lt : i < (xs.toList.zip ys.toList).length := by
      rcases Nat.lt_or_ge i (xs.toList.zip ys.toList).length with h' | h'
      · exact h'
      · rw [List.drop_of_length_le h'] at hz
        cases hz
    have h1 : i < xs.size := by omega
    have h2 : i < ys.size := by omega
    rw [List.drop_eq_getElem_cons lt] at hz
    injection hz with e1 e2
    exact ⟨h1, h2, by rw [e1]; simp, e2⟩
  have end_ : ∀ {i : Nat}, ([] : List (Value × Value)) = (xs.toList.zip ys.toList).drop i → i ≤ min xs.size ys.size → i = min xs.size ys.size := fun {i} hz hi => by
    rcases Nat.lt_or_ge i (xs.toList.zip ys.toList).length with h' | h'
    · rw [List.drop_eq_getElem_cons h'] at hz
      cases hz
    · omega
  cases ne with
  | false =>
    obtain ⟨hh, gg, dd, kk, oo⟩ := s
    show wpAny _ _ (Builtin.«tuple.__eq__» ⟨[.ref p, .ref q], []⟩) _ _ _
    wp_walk using wpAny_loadPart' gp, wpAny_loadPart' gq, wpAny_forIn_list _ (fun rest b s' => b.1 = none ∧ ∃ i, rest = (xs.toList.zip ys.toList).drop i ∧ i ≤ min xs.size ys.size ∧ J i s') _
    case turn =>
      rintro ⟨y, x⟩ rest b s' ⟨hb', i, hz, hi, hI⟩
      obtain ⟨h1, h2, e, hrest⟩ := at_ hz
      injection e with e1 e2
      subst e1 e2
      refine wpAny_bind (wpAny_mono (turn i h1 h2 s' hI) (fun r s2 q2 => ?_) fun _ _ x => x)
      cases r with
      | true =>
        wp_walk
        exact ⟨rfl, i + 1, hrest, by omega, q2.1 rfl⟩
      | false =>
        have h3 := fail s2 (q2.2 rfl)
        wp_walk
        exact h3
    case fin =>
      rintro ⟨b1, b2⟩ s' ⟨hb', i, hz, hi, hI⟩
      simp only at hb'
      subst hb'
      have hR := done s' (end_ hz hi ▸ hI)
      wp_walk
      simpa [Builtin.Tuple.tupleCompareSizes] using hR
    case h =>
      exact ⟨rfl, 0, rfl, Nat.zero_le _, h0⟩
  | true =>
    obtain ⟨hh, gg, dd, kk, oo⟩ := s
    show wpAny _ _ (Builtin.«tuple.__ne__» ⟨[.ref p, .ref q], []⟩) _ _ _
    wp_walk using wpAny_loadPart' gp, wpAny_loadPart' gq, wpAny_forIn_list _ (fun rest b s' => b.1 = none ∧ ∃ i, rest = (xs.toList.zip ys.toList).drop i ∧ i ≤ min xs.size ys.size ∧ J i s') _
    case turn =>
      rintro ⟨y, x⟩ rest b s' ⟨hb', i, hz, hi, hI⟩
      obtain ⟨h1, h2, e, hrest⟩ := at_ hz
      injection e with e1 e2
      subst e1 e2
      refine wpAny_bind (wpAny_mono (turn i h1 h2 s' hI) (fun r s2 q2 => ?_) fun _ _ x => x)
      cases r with
      | true =>
        wp_walk
        exact ⟨rfl, i + 1, hrest, by omega, q2.1 rfl⟩
      | false =>
        have h3 := fail s2 (q2.2 rfl)
        wp_walk
        exact h3
    case fin =>
      rintro ⟨b1, b2⟩ s' ⟨hb', i, hz, hi, hI⟩
      simp only at hb'
      subst hb'
      have hR := done s' (end_ hz hi ▸ hI)
      wp_walk
      simpa [Builtin.Tuple.tupleCompareSizes, bne] using hR
    case h =>
      exact ⟨rfl, 0, rfl, Nat.zero_le _, h0⟩
end
section
variable {prog : Program} {w : World} {A : Around} {E : Value → Shared → Prop} {s : Shared}
def opNe (ne : Bool) : CmpOp := if ne then .NotEq else .Eq
theorem rcL {p q : Addr} {N : Nat} {Q : Value → Shared → Prop} (ne : Bool) (hu : A.units < cLine) (J : Nat → Shared → Prop) (F : Shared → Prop) (hJ : LstI prog w A E p q N J F)
    (done : ∀ s, J N s → Q (.bool (!ne)) s) (fail : ∀ s, F s → Q (.bool ne) s) (hs : J 0 s) : wpAny (model prog w) A (richCompare (opNe ne) (.ref p) (.ref q)) Q E s := by
  obtain ⟨xs, ys, m, m2, gp, gq, _, _, _⟩ := hJ _ _ hs
  cases ne with
  | false =>
    refine wpAny_richCompare_same_room (op := .Eq) ⟨_, gp, rfl⟩ ⟨_, gq, rfl⟩ PySem.F.slot_list_eq (GQ.call_here PySem.F.slot_list_eq ⟨_, gp, rfl⟩ PySem.F.entry_list_eq (PySem.F.args_list_eq_2 _ _) ?_) hu
    exact listsB (R := wants (fun v s' => v ≠ .notImplemented ∧ Q v s') E) false true rfl p q N J F hJ (fun s' z => ⟨(fun x => nomatch x), done s' z⟩) (fun s' z => ⟨(fun x => nomatch x), fail s' z⟩) hs
  | true =>
    refine wpAny_richCompare_same_room (op := .NotEq) ⟨_, gp, rfl⟩ ⟨_, gq, rfl⟩ PySem.F.slot_list_ne (GQ.call_here PySem.F.slot_list_ne ⟨_, gp, rfl⟩ PySem.F.entry_list_ne (PySem.F.args_list_ne_2 _ _) ?_) hu
    exact listsB (R := wants (fun v s' => v ≠ .notImplemented ∧ Q v s') E) true false rfl p q N J F hJ (fun s' z => ⟨(fun x => nomatch x), done s' z⟩) (fun s' z => ⟨(fun x => nomatch x), fail s' z⟩) hs
theorem rcN {p q : Addr} {xs ys : Array Value} {m m2 : Nat} {Q : Value → Shared → Prop} (ne : Bool) (hu : A.units < cLine) (gp : s.heap.get? p = some { cls := .type "list", data := .seq xs m }) (gq : s.heap.get? q = some { cls := .type "list", data := .seq ys m2 }) (h : xs.size ≠ ys.size)
    (fail : Q (.bool ne) s) : wpAny (model prog w) A (richCompare (opNe ne) (.ref p) (.ref q)) Q E s := by
  cases ne with
  | false =>
    refine wpAny_richCompare_same_room (op := .Eq) ⟨_, gp, rfl⟩ ⟨_, gq, rfl⟩ PySem.F.slot_list_eq (GQ.call_here PySem.F.slot_list_eq ⟨_, gp, rfl⟩ PySem.F.entry_list_eq (PySem.F.args_list_eq_2 _ _) ?_) hu
    exact listsN (R := wants (fun v s' => v ≠ .notImplemented ∧ Q v s') E) false p q gp gq h ⟨(fun x => nomatch x), fail⟩
  | true =>
    refine wpAny_richCompare_same_room (op := .NotEq) ⟨_, gp, rfl⟩ ⟨_, gq, rfl⟩ PySem.F.slot_list_ne (GQ.call_here PySem.F.slot_list_ne ⟨_, gp, rfl⟩ PySem.F.entry_list_ne (PySem.F.args_list_ne_2 _ _) ?_) hu
    exact listsN (R := wants (fun v s' => v ≠ .notImplemented ∧ Q v s') E) true p q gp gq h ⟨(fun x => nomatch x), fail⟩
theorem rcT {p q : Addr} {xs ys : Array Value} {Q : Value → Shared → Prop} (ne : Bool) (hu : A.units < cLine) (J : Nat → Shared → Prop) (F : Shared → Prop) (hl : s.heap.IsTuple p xs) (hb : s.heap.IsTuple q ys)
    (turn : ∀ i (h1 : i < xs.size) (h2 : i < ys.size) s, J i s → wpAny (model prog w) A.in1 (eqBool xs[i] ys[i]) (fun r s' => (r = true → J (i + 1) s') ∧ (r = false → F s')) E s)
    (done : ∀ s, J (min xs.size ys.size) s → Q (.bool (ne ^^ (xs.size == ys.size))) s) (fail : ∀ s, F s → Q (.bool ne) s) (h : J 0 s) : wpAny (model prog w) A (richCompare (opNe ne) (.ref p) (.ref q)) Q E s := by
  obtain ⟨⟨cls, dd, data, sl⟩, ho, hc, n, hd⟩ := id hl
  obtain ⟨⟨cls2, dd2, data2, sl2⟩, ho2, hc2, n2, hd2⟩ := id hb
  simp only at hc hd hc2 hd2
  subst hc hd hc2 hd2
  cases ne with
  | false =>
    refine wpAny_richCompare_same_room (op := .Eq) ⟨_, ho, rfl⟩ ⟨_, ho2, rfl⟩ PySem.F.slot_tuple_eq (GQ.call_here PySem.F.slot_tuple_eq ⟨_, ho, rfl⟩ PySem.F.entry_tuple_eq (PySem.F.args_tuple_eq_2 _ _) ?_) hu
    exact tupsB (R := wants (fun v s' => v ≠ .notImplemented ∧ Q v s') E) false p q xs ys n n2 dd dd2 sl sl2 J F turn (fun s' z => ⟨(fun x => nomatch x), done s' z⟩) (fun s' z => ⟨(fun x => nomatch x), fail s' z⟩) ho ho2 h
  | true =>
    refine wpAny_richCompare_same_room (op := .NotEq) ⟨_, ho, rfl⟩ ⟨_, ho2, rfl⟩ PySem.F.slot_tuple_ne (GQ.call_here PySem.F.slot_tuple_ne ⟨_, ho, rfl⟩ PySem.F.entry_tuple_ne (PySem.F.args_tuple_ne_2 _ _) ?_) hu
    exact tupsB (R := wants (fun v s' => v ≠ .notImplemented ∧ Q v s') E) true p q xs ys n n2 dd dd2 sl sl2 J F turn (fun s' z => ⟨(fun x => nomatch x), done s' z⟩) (fun s' z => ⟨(fun x => nomatch x), fail s' z⟩) ho ho2 h
end
end KA
namespace KA
open PySem PySem.Spec PyProof.Rows L2
/-- two values, and what == tells of them -/
abbrev BEq2 := V → V → Bool → Hp → Prop
def MonB (D : BEq2) : Prop := ∀ x y b H H', Ext H H' → D x y b H → D x y b H'
def EqB (X : Cx) (n : Nat) (D : BEq2) : Prop :=
  ∀ (A : Around) (pins : List (Addr × Obj)) (s : Shared) (σ : L2.St) (H : Hp) (x y : V) (u v : Value) (b : Bool), Sub X n A → L2.Inv X pins σ H s → RelV x u → RelV y v → D x y b H →
    wpAny (model X.prog X.w) A (eqBool u v) (fun r s' => r = b ∧ ∃ H', L2.Inv X pins σ H' s' ∧ Ext H H') X.xe s
def RcB (X : Cx) (n : Nat) (ne : Bool) (D : BEq2) : Prop :=
  ∀ (A : Around) (pins : List (Addr × Obj)) (s : Shared) (σ : L2.St) (H : Hp) (x y : V) (u v : Value) (b : Bool), Sub X n A → L2.Inv X pins σ H s → RelV x u → RelV y v → D x y b H →
    wpAny (model X.prog X.w) A (richCompare (opNe ne) u v) (fun r s' => r = .bool (ne ^^ b) ∧ ∃ H', L2.Inv X pins σ H' s' ∧ Ext H H') X.xe s
section
variable {X : Cx} {n m : Nat} {D D' : BEq2}
theorem EqB.mono (h : EqB X n D) (hn : n ≤ m) : EqB X m D := fun A pins s σ H x y u v b sb => h A pins s σ H x y u v b (sb.mono hn)
theorem EqB.or (h : EqB X n D) (h' : EqB X n D') : EqB X n (fun x y b H => D x y b H ∨ D' x y b H) := fun A pins s σ H x y u v b sb I rx ry d => d.elim (fun d => h A pins s σ H x y u v b sb I rx ry d) (fun d => h' A pins s σ H x y u v b sb I rx ry d)
theorem MonB.or (h : MonB D) (h' : MonB D') : MonB (fun x y b H => D x y b H ∨ D' x y b H) := fun x y b H H' e d => d.elim (fun d => .inl (h x y b H H' e d)) fun d => .inr (h' x y b H H' e d)
/-- flat values -/
def BFlat : BEq2 := fun x y b _ => flatV x = true ∧ flatV y = true ∧ eqV x y = b
theorem monB_flat : MonB BFlat := fun _ _ _ _ _ _ d => d
theorem eqB_flat : EqB X 0 BFlat := by
  intro A pins s σ H x y u v b sb I rx ry d
  obtain ⟨fx, fy, e⟩ := d
  have q := eqAt_V (A := A) (s := s) rx ry fx fy
  rw [e] at q
  exact q X.prog X.w X.xe _ ⟨rfl, H, I, Ext.rfl'⟩
/-- item by item, as far as both go -/
def PrsB (D : BEq2) (xs ys : List V) (f : Nat → Bool) (H : Hp) : Prop := ∀ (i : Nat) x y, xs[i]? = some x → ys[i]? = some y → D x y (f i) H
theorem turnB (hD : MonB D) (h : EqB X n D) {A : Around} (sb : Sub X (n + 1) A) {pins : List (Addr × Obj)} {σ : L2.St} {H : Hp} {xs ys : List V} {its its2 : List Value} {f : Nat → Bool} (p : PrsB D xs ys f H) (r : Vals xs its) (r2 : Vals ys its2)
    (i : Nat) (h1 : i < its.toArray.size) (h2 : i < its2.toArray.size) (s' : Shared) (l : LoopI X pins σ H s') :
    wpAny (model X.prog X.w) A.in1 (eqBool its.toArray[i] its2.toArray[i]) (fun r s2 => r = f i ∧ LoopI X pins σ H s2) X.xe s' := by
  obtain ⟨H1, I1, e1⟩ := l
  have l1 : i < its.length := by simpa using h1
  have l2 : i < its2.length := by simpa using h2
  have k1 : i < xs.length := by rw [r.length]; exact l1
  have k2 : i < ys.length := by rw [r2.length]; exact l2
  obtain ⟨u, hu, ru⟩ := r.get (List.getElem?_eq_getElem k1)
  obtain ⟨v, hv, rv⟩ := r2.get (List.getElem?_eq_getElem k2)
  have g1 : its.toArray[i] = u := by
    rw [List.getElem?_eq_getElem l1] at hu
    simpa using Option.some.inj hu
  have g2 : its2.toArray[i] = v := by
    rw [List.getElem?_eq_getElem l2] at hv
    simpa using Option.some.inj hv
  rw [g1, g2]
  refine wpAny_mono (h A.in1 pins s' σ H1 _ _ u v _ sb.in1 I1 ru rv (hD _ _ _ _ _ e1 (p i _ _ (List.getElem?_eq_getElem k1) (List.getElem?_eq_getElem k2)))) (fun r s2 q => ?_) fun _ _ x => x
  obtain ⟨hr, H2, I2, e2⟩ := q
  exact ⟨hr, H2, I2, e1.trans e2⟩
def allF (N : Nat) (f : Nat → Bool) : Bool := (List.range N).all f
theorem allF_true {N : Nat} {f : Nat → Bool} (h : ∀ j, j < N → f j = true) : allF N f = true := by
  unfold allF
  rw [List.all_eq_true]
  exact fun j hj => h j (List.mem_range.mp hj)
theorem allF_false {N j : Nat} {f : Nat → Bool} (h : j < N) (e : f j = false) : allF N f = false := by
  unfold allF
  rw [List.all_eq_false]
  exact ⟨j, List.mem_range.mpr h, by rw [e]; exact Bool.false_ne_true⟩
def BList (D : BEq2) : BEq2 := fun x y b H => ∃ (p q : Addr) (xs ys : List V) (f : Nat → Bool), x = .ref p ∧ y = .ref q ∧ H p = some (.lst xs) ∧ H q = some (.lst ys) ∧ (xs.length = ys.length → PrsB D xs ys f H) ∧ b = (decide (xs.length = ys.length) && allF xs.length f)
def BTup (K : PySem.W.Frag) (D : BEq2) : BEq2 := fun x y b H => ∃ (p q : Addr) (xs ys : List V) (f : Nat → Bool), x = .ref p ∧ y = .ref q ∧ SqT K H p xs ∧ SqT K H q ys ∧ PrsB D xs ys f H ∧ b = (decide (xs.length = ys.length) && allF xs.length f)
theorem PrsB.mon (hD : MonB D) {xs ys : List V} {f : Nat → Bool} {H H' : Hp} (e : Ext H H') (p : PrsB D xs ys f H) : PrsB D xs ys f H' := fun i x y h1 h2 => hD x y _ H H' e (p i x y h1 h2)
theorem monB_list (hD : MonB D) : MonB (BList D) := fun x y b H H' e d => by
  obtain ⟨p, q, xs, ys, f, hx, hy, h1, h2, pr, hb⟩ := d
  exact ⟨p, q, xs, ys, f, hx, hy, e _ _ h1, e _ _ h2, fun z => (pr z).mon hD e, hb⟩
theorem monB_tup {K : PySem.W.Frag} (hD : MonB D) : MonB (BTup K D) := fun x y b H H' e d => by
  obtain ⟨p, q, xs, ys, f, hx, hy, h1, h2, pr, hb⟩ := d
  exact ⟨p, q, xs, ys, f, hx, hy, h1.ext e, h2.ext e, pr.mon hD e, hb⟩
theorem rcB_list (ne : Bool) (hD : MonB D) (h : EqB X n D) : RcB X (n + 1) ne (BList D) := by
  intro A pins s σ H x y u v b sb I rx ry d
  obtain ⟨p, q, xs, ys, f, rfl, rfl, hp, hq, pr, rfl⟩ := d
  cases rx
  cases ry
  by_cases hl : xs.length = ys.length
  · have pr := pr hl
    have look : ∀ s', LoopI X pins σ H s' → ∃ (as bs : List Value) (m m2 : Nat), Vals xs as ∧ Vals ys bs ∧ s'.heap.get? p = some { cls := .type "list", data := .seq as.toArray m } ∧ s'.heap.get? q = some { cls := .type "list", data := .seq bs.toArray m2 } ∧ as.toArray.size = xs.length ∧ bs.toArray.size = xs.length := fun s' z => by
      obtain ⟨H1, I1, e1⟩ := id z
      obtain ⟨_, its, k, r, e⟩ := I1.hok p _ (e1 _ _ hp)
      obtain ⟨_, its2, k2, r2, e2⟩ := I1.hok q _ (e1 _ _ hq)
      exact ⟨its, its2, k, k2, r, r2, e, e2, by rw [List.size_toArray, ← r.length], by rw [List.size_toArray, ← r2.length, hl]⟩
    refine rcL (N := xs.length) ne sb.room.units0 (fun i s' => LoopI X pins σ H s' ∧ ∀ j, j < i → f j = true) (fun s' => LoopI X pins σ H s' ∧ ∃ j, j < xs.length ∧ f j = false) (fun i s' z => ?_) (fun s' z => ?_) (fun s' z => ?_) ⟨⟨H, I, Ext.rfl'⟩, fun j hj => absurd hj (Nat.not_lt_zero _)⟩
    · obtain ⟨z, hf⟩ := z
      obtain ⟨as, bs, k, k2, r, r2, e, e2, z1, z2⟩ := look s' z
      refine ⟨_, _, k, k2, e, e2, z1, z2, fun g1 g2 => wpAny_mono (turnB hD h sb pr r r2 i g1 g2 s' z) (fun r s2 q2 => ?_) fun _ _ x => x⟩
      obtain ⟨rfl, q2⟩ := q2
      refine ⟨fun t => ⟨q2, fun j hj => ?_⟩, fun t => ⟨⟨q2, i, by omega, t⟩, ?_⟩⟩
      · by_cases hji : j = i
        · rw [hji]; exact t
        · exact hf j (by omega)
      · obtain ⟨as, bs, k, k2, r, r2, e, e2, z1, z2⟩ := look s2 q2
        exact ⟨_, _, k, k2, e, e2, z1, z2⟩
    · obtain ⟨⟨H1, z⟩, hf⟩ := z
      refine ⟨?_, H1, z⟩
      rw [decide_eq_true hl, allF_true hf]
      cases ne <;> rfl
    · obtain ⟨⟨H1, z⟩, j, hj, e⟩ := z
      refine ⟨?_, H1, z⟩
      rw [allF_false hj e, Bool.and_false, Bool.xor_false]
  · obtain ⟨_, its, k, r, e⟩ := I.hok p _ hp
    obtain ⟨_, its2, k2, r2, e2⟩ := I.hok q _ hq
    refine rcN ne sb.room.units0 e e2 (by rw [List.size_toArray, List.size_toArray, ← r.length, ← r2.length]; exact hl) ⟨?_, H, I, Ext.rfl'⟩
    rw [decide_eq_false hl, Bool.false_and, Bool.xor_false]
theorem rcB_tup (ne : Bool) (hD : MonB D) (h : EqB X n D) : RcB X (n + 1) ne (BTup X.K D) := by
  intro A pins s σ H x y u v b sb I rx ry d
  obtain ⟨p, q, xs, ys, f, rfl, rfl, hp, hq, pr, rfl⟩ := d
  cases rx
  cases ry
  obtain ⟨its, r, e, z⟩ := I.tuple hp
  obtain ⟨its2, r2, e2, z2⟩ := I.tuple hq
  have w1 : its.toArray.size = xs.length := by rw [List.size_toArray, ← r.length]
  have w2 : its2.toArray.size = ys.length := by rw [List.size_toArray, ← r2.length]
  refine rcT ne sb.room.units0 (fun i s' => LoopI X pins σ H s' ∧ ∀ j, j < i → f j = true) (fun s' => LoopI X pins σ H s' ∧ ∃ j, j < xs.length ∧ f j = false) e e2 (fun i g1 g2 s' z => ?_) (fun s' z => ?_) (fun s' z => ?_) ⟨⟨H, I, Ext.rfl'⟩, fun j hj => absurd hj (Nat.not_lt_zero _)⟩
  · obtain ⟨z, hf⟩ := z
    refine wpAny_mono (turnB hD h sb pr r r2 i g1 g2 s' z) (fun r s2 q2 => ?_) fun _ _ x => x
    obtain ⟨rfl, q2⟩ := q2
    refine ⟨fun t => ⟨q2, fun j hj => ?_⟩, fun t => ⟨q2, i, by omega, t⟩⟩
    by_cases hji : j = i
    · rw [hji]; exact t
    · exact hf j (by omega)
  · obtain ⟨⟨H1, z⟩, hf⟩ := z
    refine ⟨?_, H1, z⟩
    rw [w1, w2] at hf ⊢
    by_cases hl : xs.length = ys.length
    · rw [decide_eq_true hl, allF_true (fun j hj => hf j (by omega)), hl]
      simp
    · rw [decide_eq_false hl]
      have : (xs.length == ys.length) = false := by simpa using hl
      rw [this]
      rfl
  · obtain ⟨⟨H1, z⟩, j, hj, e⟩ := z
    refine ⟨?_, H1, z⟩
    rw [allF_false hj e, Bool.and_false, Bool.xor_false]
/-- x == y, x != y as expressions -/
def rEqB (ne : Bool) (D : BEq2) : R2 := fun x y H Q => ∃ b, D x y b H ∧ ∀ H', Ext H H' → Q (.bl (ne ^^ b)) H'
theorem op_eqB (h : RcB X n false D) (hr : Room n X.A) : OpR X (compareOp .Eq) (rEqB false D) := by
  intro pins s σ H x y v u Q I rx ry hq
  obtain ⟨b, d, q⟩ := hq
  show wpAny (model X.prog X.w) X.A (richCompare .Eq v u) (EP X pins σ Q) X.xe s
  refine wpAny_mono (h X.A pins s σ H x y v u b ⟨hr, rfl⟩ I rx ry d) (fun r s' z => ?_) fun _ _ x => x
  obtain ⟨rfl, H', I', e⟩ := z
  exact ⟨.bl _, H', I', rfl, q H' e⟩
theorem op_neB (h : RcB X n true D) (hr : Room n X.A) : OpR X (compareOp .NotEq) (rEqB true D) := by
  intro pins s σ H x y v u Q I rx ry hq
  obtain ⟨b, d, q⟩ := hq
  show wpAny (model X.prog X.w) X.A (richCompare .NotEq v u) (EP X pins σ Q) X.xe s
  refine wpAny_mono (h X.A pins s σ H x y v u b ⟨hr, rfl⟩ I rx ry d) (fun r s' z => ?_) fun _ _ x => x
  obtain ⟨rfl, H', I', e⟩ := z
  exact ⟨.bl _, H', I', rfl, q H' e⟩
end
end KA
namespace KA
open PySem PySem.Spec PySem.W PyProof.Rows
section
variable {prog : Program} {w : World} {A : Around} {E : Value → Shared → Prop} {s : Shared} {K : Frag} {x C f : Addr} {ox : Obj} {od : Option Obj}
theorem none_eq_ref {Q : Value → Shared → Prop} (h : Q .notImplemented s) : wpAny (model prog w) A (call (.builtin "NoneType.__eq__") [.none, .ref x]) Q E s := by
  refine wpAny_call_entry PySem.F.slot_NoneType_eq (typeIs_none s) PySem.F.entry_NoneType_eq ?_ (PySem.F.args_NoneType_eq_2 _ _)
  unfold Builtin.«NoneType.__eq__»
  wp_walk
  exact ⟨_, rfl, h⟩
/-- None == x, x an instance whose class has its own == : that one is asked -/
theorem cmp_none {Q : Value → Shared → Prop} (hu : A.units < cLine) (X : K.In s.heap) (I : InstAt s.heap x ox C od) (hn : subIn K (.ref C) (.type "NoneType") = some false)
    (hs : findIn K (.ref C) "__eq__" = some (some (.ref f))) (hf : isFn K (.ref f) = true)
    (h : wpAny (model prog w) A (call (.ref f) [.ref x, .none]) (PySem.W.CmpBack Q) E s) : wpAny (model prog w) A (richCompare .Eq .none (.ref x)) Q E s := by
  have one : wpAny (model prog w) A (tryCompare (.ref x) "__eq__" .none) (fun r s' => ∃ v, r = some v ∧ Q v s') E s := by
    unfold tryCompare
    refine wpAny_bind (ifBound_K X I hs hf (wpAny_mono h (fun v s' hv => ?_) fun _ _ e => e))
    cases v <;> first | exact hv.elim | exact wpAny_pure ⟨_, rfl, hv⟩
  have two : wpAny (model prog w) A (tryCompare .none "__eq__" (.ref x)) (fun r s' => r = none ∧ s' = s) E s := by
    unfold tryCompare
    refine wpAny_bind (wpAny_callSpecialIfBound?_slot (name := (cmpInfo .Eq).2.1) (typeIs_none s) PySem.F.slot_NoneType_eq (none_eq_ref ?_))
    exact wpAny_pure ⟨rfl, rfl⟩
  unfold richCompare
  refine wpAny_holding (wpAny_bind (wpAny_cRoomFor hu ?_))
  rw [show oneThing? .Eq .none (.ref x) = none from rfl]
  refine wpAny_bind (wpAny_typeOf (typeIs_none s) (wpAny_bind (I.type.here ?_)))
  refine PySem.W.KFB.if_so rfl (wpAny_bind ((looks_subIn X hn).here ?_))
  refine PySem.W.KFB.if_not rfl ?_
  refine wpAny_bind (wpAny_mono two (fun r s' z => ?_) fun _ _ e => e)
  obtain ⟨rfl, rfl⟩ := z
  refine PySem.W.KFB.if_so rfl (wpAny_bind (wpAny_mono one (fun r s' z => ?_) fun _ _ e => e))
  obtain ⟨v, rfl, hq⟩ := z
  exact wpAny_pure hq
end
end KA

namespace KA
open PySem PySem.Spec PyProof.Rows L2
/-- eqBool of what is not one thing, by the rich comparison -/
theorem eqBool_by {prog : Program} {w : World} {A : Around} {E : Value → Shared → Prop} {s : Shared} {u v : Value} {Q : Bool → Shared → Prop} (hu : (∃ a, u = .ref a) ∨ u = .none) (hne : (u == v) = false)
    (h : wpAny (model prog w) A (richCompare .Eq u v) (fun r s' => ∃ b, r = .bool b ∧ Q b s') E s) : wpAny (model prog w) A (eqBool u v) Q E s := by
  unfold eqBool
  refine wpAny_holding ?_
  refine wpAny_ite_split (fun hab => by rw [hne] at hab; cases hab) (fun _ => ?_)
  rcases hu with ⟨a, rfl⟩ | rfl
  · refine wpAny_bind (wpAny_mono h (fun r s' hv => ?_) fun _ _ x => x)
    obtain ⟨b, rfl, q⟩ := hv
    exact wpAny_truthy_bool q
  · refine wpAny_bind (wpAny_mono h (fun r s' hv => ?_) fun _ _ x => x)
    obtain ⟨b, rfl, q⟩ := hv
    exact wpAny_truthy_bool q
/-- what an own == promises: R tells its answer -/
def spEqO (R : Addr → V → Bool → Hp → Prop) : Sp := fun vs H Q _ => ∃ (a : Addr) (y : V) (b : Bool), vs = [.ref a, y] ∧ R a y b H ∧ ∀ H', Ext H H' → Q (.bl b) H'
section
variable {X : Cx} {n : Nat} {CX : CXT} {C f : Addr} {fd : FuncData} {ps : List Str} {R : Addr → V → Bool → Hp → Prop} {E : XK}
theorem run_eqO {A : Around} {pins : List (Addr × Obj)} {σ : L2.St} {H : Hp} {s : Shared} {a : Addr} {y : V} {v : Value} {b : Bool} (F : FnOk X.prog X.w X.K X.mg X.base CX n f fd ps (spEqO R)) (hb : Binds X.K fd ps []) (hx : Passes CX X E) (sb : Sub X n A) (I : L2.Inv X pins σ H s)
    (ry : RelV y v) (d : R a y b H) : wpAny (model X.prog X.w) A (call (.ref f) [.ref a, v]) (PySem.W.CmpBack fun r s' => r = .bool b ∧ ∃ H', L2.Inv X pins σ H' s' ∧ Ext H H') X.xe s := by
  have hsp : spEqO R [.ref a, y] H (fun z H' => z = .bl b ∧ Ext H H') E := ⟨a, y, b, rfl, d, fun H' e => ⟨rfl, e⟩⟩
  have e0 : Env0 X.prog X.w X.K X.mg X.base A X.stack s H := by
    have e := I.env0
    exact ⟨by rw [sb.fr]; exact e.frames, e.mod, e.bs, e.bsz, e.funs, e.frf, e.hok, e.bare⟩
  have hl := F.len _ _ _ _ hsp
  have r2 : Vals [V.ref a, y] [Value.ref a, v] := .cons rfl (.cons ry .nil)
  refine wpAny_call (codeAny_mono (F.run A X.stack s H ⟨[.ref a, v], []⟩ [.ref a, v] [.ref a, y] _ E sb.room e0 (by
    have := hb s [.ref a, v] I.kIn (by simpa using hl)
    simpa using this) r2 hsp) fun r s' hq => ?_)
  cases r with
  | error e => exact hx pins σ H s e s' I hq
  | ok fl =>
    cases fl with
    | ret z =>
      obtain ⟨z, H', I', rz, ez, ex⟩ := I.after hq
      subst ez
      cases rz
      exact ⟨rfl, H', I', ex⟩
    | next => exact False.elim hq
    | brk => exact False.elim hq
    | cont => exact False.elim hq
/-- an instance of the class at C beside anything, or None beside an instance -/
def BOwn (K : PySem.W.Frag) (C : Addr) (R : Addr → V → Bool → Hp → Prop) : BEq2 := fun x y b H =>
  (∃ (a dx : Addr) (fs : List (Str × V)) (t : Value), x = .ref a ∧ H a = some (.ins C dx fs) ∧ TyX K H y t ∧ PySem.W.notFirst K C t = true ∧ R a y b H ∧ (y = .ref a → b = true)) ∨
  ∃ (a dx : Addr) (fs : List (Str × V)), x = .non ∧ y = .ref a ∧ H a = some (.ins C dx fs) ∧ R a .non b H
theorem rcB_own (F : FnOk X.prog X.w X.K X.mg X.base CX n f fd ps (spEqO R)) (hs : PySem.W.findIn X.K (.ref C) "__eq__" = some (some (.ref f))) (hf : PySem.W.isFn X.K (.ref f) = true) (hb : Binds X.K fd ps []) (hx : Passes CX X E)
    (hn : PySem.W.subIn X.K (.ref C) (.type "NoneType") = some false) : RcB X n false (BOwn X.K C R) := by
  intro A pins s σ H x y u v b sb I rx ry d
  have fin : (false ^^ b) = b := Bool.false_xor b
  rw [fin]
  rcases d with ⟨a, dx, fs, t, rfl, ha, ty, nf, hR, _⟩ | ⟨a, dx, fs, rfl, rfl, ha, hR⟩
  · cases rx
    obtain ⟨mA, J, _⟩ := ins_get I.hok ha
    obtain ⟨od, J, _⟩ := J.look
    obtain ⟨Pz, Z, p, _⟩ := kit_of I ry ty
    obtain ⟨m, hF⟩ := I.fr
    exact PySem.W.cmp_K (op := .Eq) (tb := t) sb.room.units0 hF I.ok.mod.kin J (Z.ty _ _ I.kIn p) nf hs hf (run_eqO F hb hx sb I ry hR)
  · cases rx
    cases ry
    obtain ⟨mA, J, _⟩ := ins_get I.hok ha
    obtain ⟨od, J, _⟩ := J.look
    exact cmp_none sb.room.units0 I.kIn J hn hs hf (run_eqO (y := .non) F hb hx sb I rfl hR)
theorem eqB_own (F : FnOk X.prog X.w X.K X.mg X.base CX n f fd ps (spEqO R)) (hs : PySem.W.findIn X.K (.ref C) "__eq__" = some (some (.ref f))) (hf : PySem.W.isFn X.K (.ref f) = true) (hb : Binds X.K fd ps []) (hx : Passes CX X E)
    (hn : PySem.W.subIn X.K (.ref C) (.type "NoneType") = some false) : EqB X n (BOwn X.K C R) := by
  intro A pins s σ H x y u v b sb I rx ry d
  by_cases hsame : (u == v) = true
  · have e := eq_of_beq hsame
    subst e
    have hb1 : b = true := by
      rcases d with ⟨a, dx, fs, t, rfl, ha, ty, nf, hR, h⟩ | ⟨a, dx, fs, rfl, rfl, ha, hR⟩
      · cases rx
        refine h ?_
        cases y with
        | ref c =>
          cases ry
          rfl
        | non => cases ry
        | bl _ => cases ry
        | int _ => obtain ⟨_, z⟩ := ry; cases z
        | str _ => obtain ⟨_, z⟩ := ry; cases z
        | byt _ => obtain ⟨_, z⟩ := ry; cases z
        | flt _ => obtain ⟨_, z⟩ := ry; cases z
        | ty _ => cases ry
      · cases rx
        cases ry
    rw [hb1]
    exact SeqAt.EqAt.same (A := A) (s := s) u X.prog X.w X.xe _ ⟨rfl, H, I, Ext.rfl'⟩
  · have hu : (∃ a, u = .ref a) ∨ u = .none := by
      rcases d with ⟨a, dx, fs, t, rfl, ha, ty, nf, hR, h⟩ | ⟨a, dx, fs, rfl, rfl, ha, hR⟩
      · cases rx
        exact .inl ⟨_, rfl⟩
      · cases rx
        exact .inr rfl
    refine eqBool_by hu (by simpa using hsame) (wpAny_mono (rcB_own F hs hf hb hx hn A pins s σ H x y u v b sb I rx ry d) (fun r s' q => ?_) fun _ _ x => x)
    obtain ⟨hr, q⟩ := q
    exact ⟨b, by rw [hr, Bool.false_xor], rfl, q⟩
theorem monB_own {K : PySem.W.Frag} (hR : ∀ a y b H H', Ext H H' → R a y b H → R a y b H') : MonB (BOwn K C R) := fun x y b H H' e d => by
  rcases d with ⟨a, dx, fs, t, hx, ha, ty, nf, r, h⟩ | ⟨a, dx, fs, hx, hy, ha, r⟩
  · exact .inl ⟨a, dx, fs, t, hx, e _ _ ha, tyx_same e ty, nf, hR _ _ _ _ _ e r, h⟩
  · exact .inr ⟨a, dx, fs, hx, hy, e _ _ ha, hR _ _ _ _ _ e r⟩
end
end KA
/-! tuples as == in a list (index, count, in) asks them: the very same is equal -/
namespace KA
open PySem PySem.Spec PyProof.Rows L2
section
variable {X : Cx} {n : Nat} {D : BEq2}
def BTupI (K : PySem.W.Frag) (D : BEq2) : BEq2 := fun x y b H => BTup K D x y b H ∧ (y = x → b = true)
theorem monB_tupI {K : PySem.W.Frag} (hD : MonB D) : MonB (BTupI K D) := fun x y b H H' e d => ⟨monB_tup hD x y b H H' e d.1, d.2⟩
theorem eqB_tupI (hD : MonB D) (h : EqB X n D) : EqB X (n + 1) (BTupI X.K D) := by
  intro A pins s σ H x y u v b sb I rx ry d
  obtain ⟨d, same⟩ := d
  obtain ⟨p, q, xs, ys, f, rfl, rfl, _⟩ := id d
  cases rx
  cases ry
  by_cases hpq : p = q
  · subst hpq
    rw [same rfl]
    exact SeqAt.EqAt.same (A := A) (s := s) _ X.prog X.w X.xe _ ⟨rfl, H, I, Ext.rfl'⟩
  · refine eqBool_by (.inl ⟨_, rfl⟩) (beq_eq_false_iff_ne.mpr fun e => hpq (by injection e)) ?_
    refine wpAny_mono (rcB_tup false hD h A pins s σ H (.ref p) (.ref q) (.ref p) (.ref q) b sb I rfl rfl d) (fun r s' q => ?_) fun _ _ e => e
    obtain ⟨rfl, H', J, x⟩ := q
    exact ⟨_, rfl, Bool.false_xor b, H', J, x⟩
theorem eqB_tupIK {K : PySem.W.Frag} (hK : X.K = K) (hD : MonB D) (h : EqB X n D) : EqB X (n + 1) (BTupI K D) := by
  subst hK
  exact eqB_tupI hD h
/-- two tuples of the same flat things -/
theorem flat_same {K : PySem.W.Frag} {H : Hp} {p q : Addr} {xs : List V} (hp : SqT K H p xs) (hq : SqT K H q xs) (hf : ∀ x ∈ xs, flatV x = true) (he : ∀ x ∈ xs, eqV x x = true) : BTup K BFlat (.ref p) (.ref q) true H :=
  ⟨p, q, xs, xs, fun _ => true, rfl, rfl, hp, hq, fun i x y hx hy => by
    rw [hx] at hy
    cases hy
    exact ⟨hf x (List.mem_of_getElem? hx), hf x (List.mem_of_getElem? hx), he x (List.mem_of_getElem? hx)⟩, by rw [decide_eq_true rfl, allF_true fun _ _ => rfl]; rfl⟩
end
end KA
namespace KA
open PySem PySem.Spec PyProof.Rows L2 NumText TL
theorem fold_app (a b : List Nat) (s : Nat) : (a ++ b).foldl (fun acc c => acc * 10 + (c - 48)) s = (b.foldl (fun acc c => acc * 10 + (c - 48)) (a.foldl (fun acc c => acc * 10 + (c - 48)) s)) := List.foldl_append
theorem fold_from : ∀ (b : List Nat) (s : Nat), b.foldl (fun acc c => acc * 10 + (c - 48)) s = s * 10 ^ b.length + digitsVal b
  | [], s => by simp [digitsVal]
  | c :: r, s => by
    have h1 := fold_from r (s * 10 + (c - 48))
    have h2 := fold_from r (0 * 10 + (c - 48))
    show r.foldl _ (s * 10 + (c - 48)) = s * 10 ^ (r.length + 1) + r.foldl _ (0 * 10 + (c - 48))
    rw [h1, h2, Nat.pow_succ, Nat.zero_mul, Nat.zero_add, Nat.add_mul, Nat.mul_assoc, Nat.mul_comm 10, Nat.add_assoc]
theorem val_app (a b : List Nat) : digitsVal (a ++ b) = digitsVal a * 10 ^ b.length + digitsVal b := by
  unfold digitsVal
  rw [fold_app, fold_from]
  rfl
theorem val_noughts (k : Nat) (b : List Nat) : digitsVal (List.replicate k 48 ++ b) = digitsVal b := by
  induction k with
  | zero => rfl
  | succ k ih =>
    show digitsVal (48 :: (List.replicate k 48 ++ b)) = _
    rw [val_zero, ih]
/-- a group of k figures, noughts ahead -/
def grp (k g : Nat) : List Nat := List.replicate (k - (numL g).length) 48 ++ numL g
theorem grp_len {k g : Nat} (hk : 0 < k) (h : g < 10 ^ k) : (grp k g).length = k := by
  unfold grp
  have := numL_len hk h
  rw [List.length_append, List.length_replicate]
  omega
theorem grp_digits (k g : Nat) : AllDigits (grp k g) := fun c hc => by
  rcases List.mem_append.mp hc with h | h
  · have := List.eq_of_mem_replicate h
    omega
  · exact numL_digits g c h
theorem numL_head {q : Nat} (h : 0 < q) : ∃ c cs, numL q = c :: cs ∧ c ≠ 48 := by
  cases e : numL q with
  | nil => exact absurd e (numL_ne q)
  | cons c cs =>
    refine ⟨c, cs, rfl, fun z => ?_⟩
    subst z
    have v := numL_val q
    have d := numL_digits q
    rw [e] at v d
    have l := (len_canon d).mp (by rw [v, e])
    have hcs : cs = [] := by
      cases cs with
      | nil => rfl
      | cons x r => exact absurd ⟨rfl, by simp⟩ l
    subst hcs
    have : digitsVal [48] = 0 := rfl
    omega
theorem numL_group {k q g : Nat} (hk : 0 < k) (hq : 0 < q) (h : g < 10 ^ k) : numL (q * 10 ^ k + g) = numL q ++ grp k g := by
  obtain ⟨c, cs, e, hc⟩ := numL_head hq
  have v : digitsVal (numL q ++ grp k g) = q * 10 ^ k + g := by
    rw [val_app, numL_val, grp_len hk h]
    unfold grp
    rw [val_noughts, numL_val]
  have ad : AllDigits (numL q ++ grp k g) := fun x hx => by
    rcases List.mem_append.mp hx with h | h
    · exact numL_digits q x h
    · exact grp_digits k g x h
  rw [← v]
  rw [e] at ad ⊢
  exact canon_eq ad fun z => hc z.1
theorem zfill_num {g : Nat} (h : g < 10 ^ 60) : tl (Txt.zfill (Str.ofString (toString ((g : Nat) : Int))) 60) = grp 60 g := by
  have et := tl_num g
  have hl := numL_len (k := 60) (by decide) h
  have ln : (Str.ofString (toString ((g : Nat) : Int))).length = (numL g).length := by rw [len_tl, et]
  generalize Str.ofString (toString ((g : Nat) : Int)) = z at et ln
  unfold Txt.zfill grp
  by_cases h60 : (60 : Int) ≤ (z.length : Int)
  · rw [if_pos h60, et]
    have : 60 - (numL g).length = 0 := by omega
    rw [this]
    rfl
  · rw [if_neg h60]
    have hne := numL_ne g
    have hz : ∃ c, z.cps[0]? = some c ∧ 48 ≤ c := by
      cases e : numL g with
      | nil => exact absurd e hne
      | cons c cs =>
        have d := numL_digits g c (by rw [e]; exact List.mem_cons_self ..)
        refine ⟨c, ?_, by omega⟩
        have : z.cps.toList = c :: cs := by rw [← e]; exact et
        rw [← Array.getElem?_toList, this]
        rfl
    obtain ⟨c, hc, h48⟩ := hz
    have zf : zfilled z ((60 : Int).toNat - z.length) = Builtin.Str.padded z ((60 : Int).toNat - z.length) 0 48 := by
      unfold zfilled
      rw [hc]
      split
      · rename_i h; cases h; omega
      · rename_i h; cases h; omega
      · rfl
    rw [zf, ln]
    show (Array.replicate ((60 : Int).toNat - (numL g).length) 48 ++ z.cps ++ Array.replicate 0 48).toList = _
    have et2 : z.cps.toList = numL g := et
    simp only [Array.toList_append, Array.toList_replicate, et2, List.replicate_zero, List.append_nil]
    rfl
end KA
namespace KA
open PySem PySem.SeqAt
open AutoSeq1 (wpAny_loadPart')
open MeetsSeq MeetsSeq2 MeetsSeq3 SeqRoads2
section
variable {prog : Program} {w : World} {A : Around} {R : Result → Shared → Prop}
/-- a list, read anew at each turn: the item is told equal to x or not -/
def ItI (prog : Program) (w : World) (A : Around) (E : Value → Shared → Prop) (p : Addr) (x : Value) (N : Nat) (J : Nat → Nat → Shared → Prop) (T : Nat → Nat → Bool → Shared → Prop) : Prop :=
  ∀ i c s, J i c s → ∃ (xs : Array Value) (m : Nat), s.heap.get? p = some { cls := .type "list", data := .seq xs m } ∧ xs.size = N ∧
    ∀ (g1 : i < xs.size), wpAny (model prog w) A.in1 (eqBool xs[i] x) (fun r s' => T i c r s') E s
theorem inB (p : Addr) (x : Value) (N : Nat) (J : Nat → Nat → Shared → Prop) (F : Shared → Prop) (hJ : ItI prog w A (fun e s' => R (.error e) s') p x N J (fun i c r s' => (r = false → J (i + 1) c s') ∧ (r = true → F s')))
    (done : ∀ c s, J N c s → R (.ok (.ret (.bool false))) s) (hit : ∀ s, F s → R (.ok (.ret (.bool true))) s) : ∀ (k i c : Nat), N - i = k → i ≤ N → ∀ s, J i c s →
      wpAny (model prog w) A.in1 (Builtin.«list.__contains__.loop» ⟨[.ref p, x, rawInt i], []⟩) (GQ.FinOf prog w A R) (fun e s' => R (.error e) s') s
  | 0, i, c, hk, hi, s, hs => by
    obtain ⟨xs, m, gp, zp, _⟩ := hJ _ _ _ hs
    have iN : i = N := by omega
    have last : R (.ok (.ret (.bool false))) s := done c s (iN ▸ hs)
    have n1 : xs[((i : Nat) : Int).toNat]? = none := by simp; omega
    obtain ⟨hh, gg, dd, kk, oo⟩ := s
    wp_walk using wpAny_loadPart' gp
    rw [n1]
    wp_walk
    exact last
  | k + 1, i, c, hk, hi, s, hs => by
    obtain ⟨xs, m, gp, zp, tn⟩ := hJ _ _ _ hs
    have ip : i < xs.size := by omega
    have tt := tn ip
    have n1 : xs[((i : Nat) : Int).toNat]? = some xs[i] := by simp [ip]
    have up : ((i : Int) + 1) = ((i + 1 : Nat) : Int) := by omega
    have next := fun s2 h2 => inB p x N J F hJ done hit k (i + 1) c (by omega) (by omega) s2 h2
    obtain ⟨hh, gg, dd, kk, oo⟩ := s
    wp_walk using wpAny_loadPart' gp
    rw [n1]
    refine wpAny_bind (wpAny_mono tt (fun r s2 h2 => ?_) fun _ _ x => x)
    cases r with
    | false =>
      have h3 := next s2 (h2.1 rfl)
      obtain ⟨hh2, gg2, dd2, kk2, oo2⟩ := s2
      wp_walk
      rw [up]
      exact ⟨plainId_quiet plain_contains_loop _, codeAny_builtin entry_contains_loop (by rw [Around.under_plainId plain_contains_loop _]; exact h3)⟩
    | true =>
      have h3 := hit s2 (h2.2 rfl)
      obtain ⟨hh2, gg2, dd2, kk2, oo2⟩ := s2
      wp_walk
      exact h3
theorem containsB (p : Addr) (x : Value) (N : Nat) (J : Nat → Nat → Shared → Prop) (F : Shared → Prop) (hJ : ItI prog w A (fun e s' => R (.error e) s') p x N J (fun i c r s' => (r = false → J (i + 1) c s') ∧ (r = true → F s')))
    (done : ∀ c s, J N c s → R (.ok (.ret (.bool false))) s) (hit : ∀ s, F s → R (.ok (.ret (.bool true))) s) {s : Shared} (hs : J 0 0 s) :
      wpAny (model prog w) A.in1 (Builtin.«list.__contains__» ⟨[.ref p, x], []⟩) (GQ.FinOf prog w A R) (fun e s' => R (.error e) s') s := by
  have all := inB p x N J F hJ done hit _ 0 0 rfl (Nat.zero_le _) s hs
  obtain ⟨xs, m, gp, zp, _⟩ := hJ _ _ _ hs
  obtain ⟨hh, gg, dd, kk, oo⟩ := s
  wp_walk using wpAny_loadPart' gp
  exact ⟨plainId_quiet plain_contains_loop _, codeAny_builtin entry_contains_loop (by rw [Around.under_plainId plain_contains_loop _]; exact all)⟩
theorem cntB (p : Addr) (x : Value) (N : Nat) (J : Nat → Nat → Shared → Prop) (hJ : ItI prog w A (fun e s' => R (.error e) s') p x N J (fun i c r s' => J (i + 1) (if r then c + 1 else c) s'))
    (done : ∀ c s, J N c s → R (.ok (.ret (.int (c : Int) s.toks))) { s with toks := s.toks + 1 }) : ∀ (k i c : Nat), N - i = k → i ≤ N → ∀ s, J i c s →
      wpAny (model prog w) A.in1 (Builtin.«list.count.loop» ⟨[.ref p, x, rawInt i, rawInt c], []⟩) (GQ.FinOf prog w A R) (fun e s' => R (.error e) s') s
  | 0, i, c, hk, hi, s, hs => by
    obtain ⟨xs, m, gp, zp, _⟩ := hJ _ _ _ hs
    have iN : i = N := by omega
    have last := done c s (iN ▸ hs)
    have n1 : xs[((i : Nat) : Int).toNat]? = none := by simp; omega
    obtain ⟨hh, gg, dd, kk, oo⟩ := s
    wp_walk using wpAny_loadPart' gp
    rw [n1]
    wp_walk
    exact last
  | k + 1, i, c, hk, hi, s, hs => by
    obtain ⟨xs, m, gp, zp, tn⟩ := hJ _ _ _ hs
    have ip : i < xs.size := by omega
    have tt := tn ip
    have n1 : xs[((i : Nat) : Int).toNat]? = some xs[i] := by simp [ip]
    have up : ((i : Int) + 1) = ((i + 1 : Nat) : Int) := by omega
    have up2 : ((c : Int) + 1) = ((c + 1 : Nat) : Int) := by omega
    have next := fun c' s2 h2 => cntB p x N J hJ done k (i + 1) c' (by omega) (by omega) s2 h2
    obtain ⟨hh, gg, dd, kk, oo⟩ := s
    wp_walk using wpAny_loadPart' gp
    rw [n1]
    refine wpAny_bind (wpAny_mono tt (fun r s2 h2 => ?_) fun _ _ x => x)
    cases r with
    | false =>
      have h3 := next c s2 h2
      obtain ⟨hh2, gg2, dd2, kk2, oo2⟩ := s2
      wp_walk
      simp only [Bool.false_eq_true, if_false]
      rw [up]
      exact ⟨plainId_quiet plain_count_loop _, codeAny_builtin entry_count_loop (by rw [Around.under_plainId plain_count_loop _]; exact h3)⟩
    | true =>
      have h3 := next (c + 1) s2 h2
      obtain ⟨hh2, gg2, dd2, kk2, oo2⟩ := s2
      wp_walk
      simp only [if_true]
      rw [up, up2]
      exact ⟨plainId_quiet plain_count_loop _, codeAny_builtin entry_count_loop (by rw [Around.under_plainId plain_count_loop _]; exact h3)⟩
theorem countB (p : Addr) (x : Value) (N : Nat) (J : Nat → Nat → Shared → Prop) (hJ : ItI prog w A (fun e s' => R (.error e) s') p x N J (fun i c r s' => J (i + 1) (if r then c + 1 else c) s'))
    (done : ∀ c s, J N c s → R (.ok (.ret (.int (c : Int) s.toks))) { s with toks := s.toks + 1 }) {s : Shared} (hs : J 0 0 s) :
      wpAny (model prog w) A.in1 (Builtin.«list.count» ⟨[.ref p, x], []⟩) (GQ.FinOf prog w A R) (fun e s' => R (.error e) s') s := by
  have all := cntB p x N J hJ done _ 0 0 rfl (Nat.zero_le _) s hs
  obtain ⟨xs, m, gp, zp, _⟩ := hJ _ _ _ hs
  obtain ⟨hh, gg, dd, kk, oo⟩ := s
  wp_walk using wpAny_loadPart' gp
  exact ⟨plainId_quiet plain_count_loop _, codeAny_builtin entry_count_loop (by rw [Around.under_plainId plain_count_loop _]; exact all)⟩
theorem idxB (upto : Int) (p : Addr) (x : Value) (N : Nat) (hN : (N : Int) < upto) (J : Nat → Nat → Shared → Prop) (hJ : ItI prog w A (fun e s' => R (.error e) s') p x N J (fun i c r s' => (r = false → J (i + 1) c s') ∧ (r = true → R (.ok (.ret (.int (i : Int) s'.toks))) { s' with toks := s'.toks + 1 })))
    (done : ∀ c s, ¬ J N c s) : ∀ (k i c : Nat), N - i = k → i ≤ N → ∀ s, J i c s →
      wpAny (model prog w) A.in1 (Builtin.«list.index.loop» ⟨[.ref p, x, rawInt i, rawInt upto], []⟩) (GQ.FinOf prog w A R) (fun e s' => R (.error e) s') s
  | 0, i, c, hk, hi, s, hs => by
    have iN : i = N := by omega
    exact absurd (iN ▸ hs) (done c s)
  | k + 1, i, c, hk, hi, s, hs => by
    obtain ⟨xs, m, gp, zp, tn⟩ := hJ _ _ _ hs
    have ip : i < xs.size := by omega
    have tt := tn ip
    have hst : (i : Int) < upto := by omega
    have n1 : (if (i : Int) < upto then xs[((i : Nat) : Int).toNat]? else none) = some xs[i] := by rw [if_pos hst]; simp [ip]
    have up : ((i : Int) + 1) = ((i + 1 : Nat) : Int) := by omega
    have next := fun s2 h2 => idxB upto p x N hN J hJ done k (i + 1) c (by omega) (by omega) s2 h2
    obtain ⟨hh, gg, dd, kk, oo⟩ := s
    wp_walk using wpAny_loadPart' gp
    rw [n1]
    refine wpAny_bind (wpAny_mono tt (fun r s2 h2 => ?_) fun _ _ x => x)
    cases r with
    | false =>
      have h3 := next s2 (h2.1 rfl)
      obtain ⟨hh2, gg2, dd2, kk2, oo2⟩ := s2
      wp_walk
      rw [up]
      exact ⟨plainId_quiet plain_index_loop _, codeAny_builtin entry_index_loop (by rw [Around.under_plainId plain_index_loop _]; exact h3)⟩
    | true =>
      have h3 := h2.2 rfl
      obtain ⟨hh2, gg2, dd2, kk2, oo2⟩ := s2
      wp_walk
      exact h3
theorem indexB (p : Addr) (x : Value) (N : Nat) (hN : (N : Int) < 2 ^ 63 - 1) (J : Nat → Nat → Shared → Prop) (hJ : ItI prog w A (fun e s' => R (.error e) s') p x N J (fun i c r s' => (r = false → J (i + 1) c s') ∧ (r = true → R (.ok (.ret (.int (i : Int) s'.toks))) { s' with toks := s'.toks + 1 })))
    (done : ∀ c s, ¬ J N c s) {s : Shared} (hs : J 0 0 s) :
      wpAny (model prog w) A.in1 (Builtin.«list.index» ⟨[.ref p, x], []⟩) (GQ.FinOf prog w A R) (fun e s' => R (.error e) s') s := by
  have all := idxB (2 ^ 63 - 1) p x N hN J hJ done _ 0 0 rfl (Nat.zero_le _) s hs
  obtain ⟨xs, m, gp, zp, _⟩ := hJ _ _ _ hs
  obtain ⟨hh, gg, dd, kk, oo⟩ := s
  wp_walk using wpAny_loadPart' gp
  have a1 : ((fun i : Int => if i < 0 then max 0 (i + (xs.size : Int)) else i) ((none : Option Int).getD 0)) = ((0 : Nat) : Int) := by simp
  have a2 : ((fun i : Int => if i < 0 then max 0 (i + (xs.size : Int)) else i) ((none : Option Int).getD (2 ^ 63 - 1))) = 2 ^ 63 - 1 := by simp
  rw [a1, a2]
  exact ⟨plainId_quiet plain_index_loop _, codeAny_builtin entry_index_loop (by rw [Around.under_plainId plain_index_loop _]; exact all)⟩
end
end KA
namespace KA
open PySem PySem.Spec PyProof.Rows L2
def anyF (N : Nat) (f : Nat → Bool) : Bool := (List.range N).any f
def cntF (N : Nat) (f : Nat → Bool) : Nat := (List.range N).countP f
theorem anyF_true {N j : Nat} {f : Nat → Bool} (h : j < N) (e : f j = true) : anyF N f = true := by
  unfold anyF
  rw [List.any_eq_true]
  exact ⟨j, List.mem_range.mpr h, e⟩
theorem anyF_false {N : Nat} {f : Nat → Bool} (h : ∀ j, j < N → f j = false) : anyF N f = false := by
  unfold anyF
  rw [List.any_eq_false]
  exact fun j hj => by rw [h j (List.mem_range.mp hj)]; simp
theorem cntF_succ {N : Nat} {f : Nat → Bool} : cntF (N + 1) f = if f N then cntF N f + 1 else cntF N f := by
  unfold cntF
  rw [List.range_succ, List.countP_append]
  cases h : f N <;> simp [h]
section
variable {X : Cx} {n : Nat} {D : BEq2}
/-- each item beside x, and what == tells -/
def ItsB (D : BEq2) (xs : List V) (x : V) (f : Nat → Bool) (H : Hp) : Prop := ∀ (i : Nat) z, xs[i]? = some z → D z x (f i) H
theorem turnI (hD : MonB D) (h : EqB X n D) {A : Around} (sb : Sub X (n + 1) A) {pins : List (Addr × Obj)} {σ : L2.St} {H : Hp} {xs : List V} {x : V} {u : Value} {its : List Value} {f : Nat → Bool} (p : ItsB D xs x f H) (r : Vals xs its) (rx : RelV x u)
    (i : Nat) (h1 : i < its.toArray.size) (s' : Shared) (l : LoopI X pins σ H s') :
    wpAny (model X.prog X.w) A.in1 (eqBool its.toArray[i] u) (fun r s2 => r = f i ∧ LoopI X pins σ H s2) X.xe s' := by
  obtain ⟨H1, I1, e1⟩ := l
  have l1 : i < its.length := by simpa using h1
  have k1 : i < xs.length := by rw [r.length]; exact l1
  obtain ⟨v, hu, ru⟩ := r.get (List.getElem?_eq_getElem k1)
  have g1 : its.toArray[i] = v := by
    rw [List.getElem?_eq_getElem l1] at hu
    simpa using Option.some.inj hu
  rw [g1]
  refine wpAny_mono (h A.in1 pins s' σ H1 _ _ v u _ sb.in1 I1 ru rx (hD _ _ _ _ _ e1 (p i _ (List.getElem?_eq_getElem k1)))) (fun r s2 q => ?_) fun _ _ x => x
  obtain ⟨hr, H2, I2, e2⟩ := q
  exact ⟨hr, H2, I2, e1.trans e2⟩
theorem lookI {pins : List (Addr × Obj)} {σ : L2.St} {H : Hp} {p : Addr} {xs : List V} (hp : H p = some (.lst xs)) (s' : Shared) (z : LoopI X pins σ H s') : ∃ (as : List Value) (m : Nat), Vals xs as ∧ s'.heap.get? p = some { cls := .type "list", data := .seq as.toArray m } ∧ as.toArray.size = xs.length := by
  obtain ⟨H1, I1, e1⟩ := id z
  obtain ⟨_, its, k, r, e⟩ := I1.hok p _ (e1 _ _ hp)
  exact ⟨its, k, r, e, by rw [List.size_toArray, ← r.length]⟩
theorem runIn {A : Around} {Q : Value → Shared → Prop} (hD : MonB D) (h : EqB X n D) (sb : Sub X (n + 1) A) {pins : List (Addr × Obj)} {s : Shared} {σ : L2.St} {H : Hp} {p : Addr} {xs : List V} {x : V} {u : Value} {f : Nat → Bool} (I : L2.Inv X pins σ H s) (rx : RelV x u) (hp : H p = some (.lst xs)) (pr : ItsB D xs x f H)
    (q : ∀ s', LoopI X pins σ H s' → Q (.bool (anyF xs.length f)) s') : wpAny (model X.prog X.w) A (call (.builtin "list.__contains__") [.ref p, u]) Q X.xe s := by
  obtain ⟨as, m, r, e, z1⟩ := lookI hp s ⟨H, I, Ext.rfl'⟩
  refine GQ.call_here PySem.F.slot_list_contains ⟨_, e, rfl⟩ PySem.F.entry_list_contains (PySem.F.args_list_contains_2 _ _) ?_
  refine containsB (R := wants Q X.xe) p u xs.length (fun i _ s' => LoopI X pins σ H s' ∧ ∀ j, j < i → f j = false) (fun s' => LoopI X pins σ H s' ∧ ∃ j, j < xs.length ∧ f j = true) (fun i c s' z => ?_) (fun c s' z => ?_) (fun s' z => ?_) ⟨⟨H, I, Ext.rfl'⟩, fun j hj => absurd hj (Nat.not_lt_zero _)⟩
  · obtain ⟨z, hf⟩ := z
    obtain ⟨as, k, r, e, z1⟩ := lookI hp s' z
    refine ⟨_, k, e, z1, fun g1 => wpAny_mono (turnI hD h sb pr r rx i g1 s' z) (fun r s2 q2 => ?_) fun _ _ x => x⟩
    obtain ⟨rfl, q2⟩ := q2
    refine ⟨fun t => ⟨q2, fun j hj => ?_⟩, fun t => ⟨q2, i, by omega, t⟩⟩
    by_cases hji : j = i
    · rw [hji]; exact t
    · exact hf j (by omega)
  · have := q s' z.1
    rw [anyF_false z.2] at this
    exact this
  · obtain ⟨z, j, hj, e⟩ := z
    have := q s' z
    rw [anyF_true hj e] at this
    exact this
def rInB (neg : Bool) (D : BEq2) : R2 := fun x y H Q => ∃ (p : Addr) (xs : List V) (f : Nat → Bool), y = .ref p ∧ H p = some (.lst xs) ∧ ItsB D xs x f H ∧ ∀ H', Ext H H' → Q (.bl (neg ^^ anyF xs.length f)) H'
theorem op_inB (hD : MonB D) (h : EqB X n D) (hr : Room (n + 1) X.A) : OpR X (compareOp .In) (rInB false D) := by
  intro pins s σ H x y v u Q I rx ry hq
  obtain ⟨p, xs, f, rfl, hp, pr, q⟩ := hq
  cases ry
  obtain ⟨as, m, r, e, z1⟩ := lookI hp s ⟨H, I, Ext.rfl'⟩
  show wpAny (model X.prog X.w) X.A (do return Value.bool (← contains (.ref p) v)) (EP X pins σ Q) X.xe s
  refine wpAny_bind (wpAny_contains_slot ⟨_, e, rfl⟩ PySem.F.slot_list_contains (runIn hD h ⟨hr, rfl⟩ I rx hp pr fun s' z => ?_))
  obtain ⟨H', I', ex⟩ := z
  exact wpAny_truthy_bool (wpAny_pure ⟨.bl _, H', I', rfl, by have := q H' ex; rwa [Bool.false_xor] at this⟩)
theorem op_notInB (hD : MonB D) (h : EqB X n D) (hr : Room (n + 1) X.A) : OpR X (compareOp .NotIn) (rInB true D) := by
  intro pins s σ H x y v u Q I rx ry hq
  obtain ⟨p, xs, f, rfl, hp, pr, q⟩ := hq
  cases ry
  obtain ⟨as, m, r, e, z1⟩ := lookI hp s ⟨H, I, Ext.rfl'⟩
  show wpAny (model X.prog X.w) X.A (do return Value.bool (!(← contains (.ref p) v))) (EP X pins σ Q) X.xe s
  refine wpAny_bind (wpAny_contains_slot ⟨_, e, rfl⟩ PySem.F.slot_list_contains (runIn hD h ⟨hr, rfl⟩ I rx hp pr fun s' z => ?_))
  obtain ⟨H', I', ex⟩ := z
  exact wpAny_truthy_bool (wpAny_pure ⟨.bl _, H', I', rfl, by have := q H' ex; rwa [Bool.true_xor] at this⟩)
/-- l.count(x) by own == -/
def rCountB (D : BEq2) : V → List V → Hp → VK → Prop := fun x xs H Q => ∃ (p : Addr) (ys : List V) (y : V) (f : Nat → Bool), x = .ref p ∧ xs = [y] ∧ H p = some (.lst ys) ∧ ItsB D ys y f H ∧ ∀ H', Ext H H' → Q (.int (cntF ys.length f : Nat)) H'
theorem mt_countB (hD : MonB D) (h : EqB X n D) (hr : Room (n + 1) X.A) : MtR X "list.count" (rCountB D) := by
  intro pins s σ H x xs v us Q I rx rxs hq
  obtain ⟨p, ys, y, f, rfl, rfl, hp, pr, q⟩ := hq
  cases rx
  cases rxs with
  | cons ry rt =>
    rename_i u ut
    cases rt
    obtain ⟨as, m, r, e, z1⟩ := lookI hp s ⟨H, I, Ext.rfl'⟩
    refine GQ.call_here PySem.F.slot_list_count ⟨_, e, rfl⟩ PySem.F.entry_list_count (PySem.F.args_list_count_2 _ _) ?_
    refine countB (R := wants (EP X pins σ Q) X.xe) p u ys.length (fun i c s' => LoopI X pins σ H s' ∧ c = cntF i f) (fun i c s' z => ?_) (fun c s' z => ?_) ⟨⟨H, I, Ext.rfl'⟩, rfl⟩
    · obtain ⟨z, rfl⟩ := z
      obtain ⟨as, k, r, e, z1⟩ := lookI hp s' z
      refine ⟨_, k, e, z1, fun g1 => wpAny_mono (turnI hD h ⟨hr, rfl⟩ pr r ry i g1 s' z) (fun r s2 q2 => ?_) fun _ _ x => x⟩
      obtain ⟨rfl, q2⟩ := q2
      exact ⟨q2, cntF_succ.symm⟩
    · obtain ⟨⟨H', I', ex⟩, rfl⟩ := z
      exact ⟨.int _, H', I'.tok _, ⟨_, rfl⟩, q H' ex⟩
/-- l.index(x) by own ==, where it is found -/
def rIndexB (D : BEq2) : V → List V → Hp → VK → Prop := fun x xs H Q => ∃ (p : Addr) (ys : List V) (y : V) (f : Nat → Bool) (j : Nat), x = .ref p ∧ xs = [y] ∧ H p = some (.lst ys) ∧ ItsB D ys y f H ∧ j < ys.length ∧ f j = true ∧ (∀ m, m < j → f m = false) ∧ ∀ H', Ext H H' → Q (.int (j : Nat)) H'
theorem mt_indexB (hD : MonB D) (h : EqB X n D) (hr : Room (n + 1) X.A) : MtR X "list.index" (rIndexB D) := by
  intro pins s σ H x xs v us Q I rx rxs hq
  obtain ⟨p, ys, y, f, j, rfl, rfl, hp, pr, hj, ej, nj, q⟩ := hq
  cases rx
  cases rxs with
  | cons ry rt =>
    rename_i u ut
    cases rt
    obtain ⟨hz, its, k, r, e⟩ := I.hok p _ hp
    have hsl := sizeLine_eq
    refine GQ.call_here PySem.F.slot_list_index ⟨_, e, rfl⟩ PySem.F.entry_list_index (PySem.F.args_list_index_2 _ _) ?_
    refine indexB (R := wants (EP X pins σ Q) X.xe) p u ys.length (by omega) (fun i c s' => LoopI X pins σ H s' ∧ i ≤ j) (fun i c s' z => ?_) (fun c s' z => by omega) ⟨⟨H, I, Ext.rfl'⟩, Nat.zero_le _⟩
    obtain ⟨z, hi⟩ := z
    obtain ⟨as, k, r, e, z1⟩ := lookI hp s' z
    refine ⟨_, k, e, z1, fun g1 => wpAny_mono (turnI hD h ⟨hr, rfl⟩ pr r ry i g1 s' z) (fun r s2 q2 => ?_) fun _ _ x => x⟩
    obtain ⟨rfl, q2⟩ := q2
    refine ⟨fun t => ⟨q2, ?_⟩, fun t => ?_⟩
    · have : i ≠ j := fun e => by rw [e, ej] at t; cases t
      omega
    · have ij : i = j := by
        by_cases hlt : i < j
        · rw [nj i hlt] at t; cases t
        · omega
      subst ij
      obtain ⟨H', I', ex⟩ := q2
      exact ⟨.int _, H', I'.tok _, ⟨_, rfl⟩, q H' ex⟩
end
end KA
namespace KA
open PySem PySem.Spec PySem.W PyProof.Rows
open AutoSeq1 (wpAny_loadPart')
section
variable {prog : Program} {w : World} {A : Around} {E : Value → Shared → Prop} {s : Shared} {K : Frag} {x C f dx : Addr} {od : Option Obj}
/-- a plain thing whose own == knows nothing of x, an instance whose class has its own == : that one is asked -/
theorem cmp_flip {T id : String} {u : Value} {Q : Value → Shared → Prop} (hu : A.units < cLine) (X : K.In s.heap) (I : InstAt s.heap x (instObj C dx) C od) (hT : s.TypeIs u T) (slot : Slot T (cmpInfo .Eq).2.1 id) (hone : oneThing? .Eq u (.ref x) = none)
    (hn : subIn K (.ref C) (.type T) = some false) (two0 : ∀ {Q : Value → Shared → Prop}, Q .notImplemented s → wpAny (model prog w) A (call (.builtin id) [u, .ref x]) Q E s)
    (hs : findIn K (.ref C) "__eq__" = some (some (.ref f))) (hf : isFn K (.ref f) = true)
    (h : wpAny (model prog w) A (call (.ref f) [.ref x, u]) (PySem.W.CmpBack Q) E s) : wpAny (model prog w) A (richCompare .Eq u (.ref x)) Q E s := by
  have one : wpAny (model prog w) A (tryCompare (.ref x) "__eq__" u) (fun r s' => ∃ v, r = some v ∧ Q v s') E s := by
    unfold tryCompare
    refine wpAny_bind (ifBound_K X I hs hf (wpAny_mono h (fun v s' hv => ?_) fun _ _ e => e))
    cases v <;> first | exact hv.elim | exact wpAny_pure ⟨_, rfl, hv⟩
  have two : wpAny (model prog w) A (tryCompare u "__eq__" (.ref x)) (fun r s' => r = none ∧ s' = s) E s := by
    unfold tryCompare
    refine wpAny_bind (wpAny_callSpecialIfBound?_slot (name := (cmpInfo .Eq).2.1) hT slot (two0 ?_))
    exact wpAny_pure ⟨rfl, rfl⟩
  unfold richCompare
  refine wpAny_holding (wpAny_bind (wpAny_cRoomFor hu ?_))
  rw [hone]
  refine wpAny_bind (wpAny_typeOf hT (wpAny_bind (I.type.here ?_)))
  refine PySem.W.KFB.if_so rfl (wpAny_bind ((looks_subIn X hn).here ?_))
  refine PySem.W.KFB.if_not rfl ?_
  refine wpAny_bind (wpAny_mono two (fun r s' z => ?_) fun _ _ e => e)
  obtain ⟨rfl, rfl⟩ := z
  refine PySem.W.KFB.if_so rfl (wpAny_bind (wpAny_mono one (fun r s' z => ?_) fun _ _ e => e))
  obtain ⟨v, rfl, hq⟩ := z
  exact wpAny_pure hq
theorem int_eq_own {i : Int} {t : Tok} {Q : Value → Shared → Prop} (hx : s.heap.get? x = some (instObj C dx)) (h : Q .notImplemented s) : wpAny (model prog w) A (call (.builtin "int.__eq__") [.int i t, .ref x]) Q E s := by
  refine wpAny_call_entry PySem.F.slot_int_eq (typeIs_int s i t) PySem.F.entry_int_eq ?_ (PySem.F.args_int_eq_2 _ _)
  unfold Builtin.«int.__eq__»
  obtain ⟨hh, gg, dd, kk, oo⟩ := s
  wp_walk using wpAny_load' hx
  exact ⟨_, rfl, h⟩
theorem bool_eq_own {b : Bool} {Q : Value → Shared → Prop} (hx : s.heap.get? x = some (instObj C dx)) (h : Q .notImplemented s) : wpAny (model prog w) A (call (.builtin "int.__eq__") [.bool b, .ref x]) Q E s := by
  refine wpAny_call_entry PySem.F.slot_bool_eq (PySem.typeIs_bool s b) PySem.F.entry_int_eq ?_ (PySem.F.args_int_eq_2 _ _)
  unfold Builtin.«int.__eq__»
  obtain ⟨hh, gg, dd, kk, oo⟩ := s
  wp_walk using wpAny_load' hx
  exact ⟨_, rfl, h⟩
theorem str_eq_own {z : Str} {t : Tok} {Q : Value → Shared → Prop} (hx : s.heap.get? x = some (instObj C dx)) (h : Q .notImplemented s) : wpAny (model prog w) A (call (.builtin "str.__eq__") [.str z t, .ref x]) Q E s := by
  refine wpAny_call_entry PySem.F.slot_str_eq (typeIs_str s z t) PySem.F.entry_str_eq ?_ (PySem.F.args_str_eq_2 _ _)
  unfold Builtin.«str.__eq__»
  obtain ⟨hh, gg, dd, kk, oo⟩ := s
  wp_walk using wpAny_load' hx
  exact ⟨_, rfl, h⟩
theorem list_eq_own {p : Addr} {Q : Value → Shared → Prop} (X : K.In s.heap) (I : InstAt s.heap x (instObj C dx) C od) (hn : subIn K (.ref C) (.type "list") = some false) (hT : s.TypeIs (.ref p) "list") (h : Q .notImplemented s) : wpAny (model prog w) A (call (.builtin "list.__eq__") [.ref p, .ref x]) Q E s := by
  refine wpAny_call_entry PySem.F.slot_list_eq hT PySem.F.entry_list_eq ?_ (PySem.F.args_list_eq_2 _ _)
  have L : Looks (model prog w) s.heap (isInstance (.ref x) (.type "list")) false := I.type.andThen (looks_subIn X hn)
  unfold Builtin.«list.__eq__»
  obtain ⟨hh, gg, dd, kk, oo⟩ := s
  wp_walk using L.here
  exact ⟨_, rfl, h⟩
theorem tup_eq_own {p : Addr} {Q : Value → Shared → Prop} (X : K.In s.heap) (I : InstAt s.heap x (instObj C dx) C od) (hn : subIn K (.ref C) (.type "tuple") = some false) (hT : s.TypeIs (.ref p) "tuple") (h : Q .notImplemented s) : wpAny (model prog w) A (call (.builtin "tuple.__eq__") [.ref p, .ref x]) Q E s := by
  refine wpAny_call_entry PySem.F.slot_tuple_eq hT PySem.F.entry_tuple_eq ?_ (PySem.F.args_tuple_eq_2 _ _)
  have L : Looks (model prog w) s.heap (isInstance (.ref x) (.type "tuple")) false := I.type.andThen (looks_subIn X hn)
  unfold Builtin.«tuple.__eq__»
  obtain ⟨hh, gg, dd, kk, oo⟩ := s
  wp_walk using L.here
  exact ⟨_, rfl, h⟩
end
end KA
/-! repr of a list whose items show themselves by an own __repr__ -/
namespace KA
open PySem PySem.Spec PySem.W PyProof.Rows
section
variable {prog : Program} {w : World} {A : Around} {E : Value → Shared → Prop} {s : Shared} {K : Frag} {x C f : Addr} {ox : Obj} {od : Option Obj}
theorem boundBy_K {M : Model} {name : Str} {last : Value → List Value → Sem Value} {Q : Option Value → Shared → Prop} (inK : K.In s.heap) (I : InstAt s.heap x ox C od) (hs : findIn K (.ref C) name = some (some (.ref f))) (hf : isFn K (.ref f) = true)
    (h : wpAny M A (last (.ref f) [.ref x]) (fun v => Q (some v)) E s) : wpAny M A (callSpecialIfBoundBy? last (.ref x) name) Q E s := by
  simp only [callSpecialIfBoundBy?, bindSpecialIfBound?]
  refine wpAny_holding (wpAny_bind (wpAny_bind (wpAny_bind (I.type.here ((looks_findIn inK hs).here ?_)))))
  refine wpAny_bind (wpAny_askSetting (wpAny_ite ?_))
  have done : wpAny M A (last (.ref f) [.ref x] >>= fun v => pure (some v)) Q E s := wpAny_bind (wpAny_mono h (fun _ _ z => wpAny_pure z) fun _ _ z => z)
  split
  · exact wpAny_bind ((bind_fn inK _ (beq_iff_eq.mp hf)).here (wpAny_pure (by exact done)))
  · exact wpAny_tryCatch (wpAny_bind ((bind_fn inK _ (beq_iff_eq.mp hf)).here (wpAny_pure (by exact done))))
theorem under_K {b : Nat} {Q : Str → Shared → Prop} (hb : b ≤ sizeLine) (hu : A.units < cLine) (inK : K.In s.heap) (I : InstAt s.heap x ox C od) (hs : findIn K (.ref C) "__repr__" = some (some (.ref f))) (hf : isFn K (.ref f) = true)
    (h : wpAny (model prog w) A (call (.ref f) [.ref x]) (fun r t => ∃ m tk, r = .str m tk ∧ Q m t) E s) : wpAny (model prog w) A (pyReprUnder b (.ref x)) Q E s := by
  refine wpAny_pyReprUnder_ref hb ?_
  unfold pyReprObjUnder pyReprObjBy
  refine wpAny_bind (wpAny_cRoomFor hu ?_)
  refine wpAny_bind (wpAny_bind (I.type.here ((looks_findIn inK hs).here ?_)))
  show wpAny _ _ (if (some (Value.ref f)).isNone = true then _ else _) _ _ _
  rw [if_neg (by simp)]
  refine wpAny_bind (m := callSpecialIfBoundBy? _ (.ref x) (Str.ofString "__repr__")) (boundBy_K inK I hs hf ?_)
  refine wpAny_mono h (fun r t k => ?_) fun _ _ z => z
  obtain ⟨m, tk, rfl, q⟩ := k
  refine wpAny_bind (wpAny_isInstance (typeIs_str _ _ _) isSubtype_str_str ?_)
  exact wpAny_pure ⟨_, _, rfl, q⟩
end
end KA
namespace KA
open PySem PySem.Spec PyProof.Rows L2
section
variable {X : Cx} {n : Nat}
/-- x is shown as t, by what stands in H, whatever is made meanwhile -/
def Shows (X : Cx) (n : Nat) (x : V) (t : Str) (H : Hp) : Prop := ∀ (A : Around) (pins : List (Addr × Obj)) (σ : L2.St) (H1 : Hp) (s : Shared) (u : Value) (b : Nat) (Q : Str → Shared → Prop), Sub X n A → (∀ c o, H c = some o → H1 c = some o) → L2.Inv X pins σ H1 s → RelV x u → b + t.length ≤ sizeLine →
  (∀ s2 H2, L2.Inv X pins σ H2 s2 → (∀ c o, H1 c = some o → H2 c = some o) → Q t s2) → wpAny (model X.prog X.w) A (pyReprUnder b u) Q X.xe s
theorem shows_non {H : Hp} : Shows X n .non "None" H := fun A pins σ H1 s u b Q _ _ I ru hz fin => by
  cases (show u = Value.none from ru)
  exact ReprIs.none b hz A X.xe s Q fun tk => fin _ H1 (I.tok tk) fun _ _ z => z
theorem shows_own {CX : CXT} {C f p dx : Addr} {fd : FuncData} {ps : List Str} {sp : Sp} {E : XK} {fs : List (Str × V)} {t : Str} {H : Hp} (F : FnOk X.prog X.w X.K X.mg X.base CX n f fd ps sp) (hs : PySem.W.findIn X.K (.ref C) "__repr__" = some (some (.ref f))) (hf : PySem.W.isFn X.K (.ref f) = true) (hb : Binds X.K fd ps []) (hx : Passes CX X E)
    (hp : H p = some (.ins C dx fs)) (hsp : ∀ (H1 : Hp) (Q : VK), (∀ c o, H c = some o → H1 c = some o) → (∀ H2, (∀ c o, H1 c = some o → H2 c = some o) → Q (.str t) H2) → sp [.ref p] H1 Q E) : Shows X n (.ref p) t H := fun A pins σ H1 s u b Q sb s01 I ru hz fin => by
  cases (show u = Value.ref p from ru)
  obtain ⟨mA, J, _⟩ := ins_get I.hok (s01 _ _ hp)
  obtain ⟨od, J, _⟩ := J.look
  refine under_K (Nat.le_trans (Nat.le_add_right _ _) hz) sb.room.units0 I.kIn J hs hf (wpAny_mono (run_self (Q := fun v H2 => v = .str t ∧ ∀ c o, H1 c = some o → H2 c = some o) F hb hx sb.room sb.fr I (hsp H1 _ s01 fun H2 s12 => ⟨⟨t, rfl⟩, rfl, s12⟩)) (fun r s2 k => ?_) fun _ _ z => z)
  obtain ⟨m, tk, rfl, v, H2, I2, rv, ev, s12⟩ := k
  subst ev
  obtain ⟨tk2, e⟩ := (show ∃ y, Value.str m tk = Value.str t y from rv)
  cases e
  exact ⟨t, tk, rfl, fin s2 H2 I2 s12⟩
theorem sub_loop {A : Around} {args : Args} (sb : Sub X (n + 1) A) : Sub X n (A.under (.builtin "list.__repr__.loop" args)) := by
  have r := sb.room
  refine ⟨⟨?_, ?_, ?_⟩, ?_⟩
  · exact r.hd
  · have := r.dp
    have e : (A.under (.builtin "list.__repr__.loop" args)).depth = A.depth + 1 := by
      first | rfl | simp [Around.under, Code.weight, Code.isCreation, Code.isGuard, Code.isCaller, Code.frames, Code.isFrame, guardIds]
    rw [e]
    omega
  · have := r.un
    rw [units_under_list_loop]
    omega
  · exact sb.fr
theorem strs_of : ∀ {l : List Str} {us : List Value}, Vals (l.map V.str) us → ∃ d, us = strValues d ∧ d.map (·.1) = l
  | [], _, .nil => ⟨[], rfl, rfl⟩
  | x :: l, _, .cons h r => by
    obtain ⟨tk, rfl⟩ := (show ∃ t, _ = Value.str x t from h)
    obtain ⟨d, rfl, e⟩ := strs_of r
    exact ⟨(x, tk) :: d, rfl, by rw [List.map_cons, e]⟩
theorem repr_loopI {pins : List (Addr × Obj)} {σ : L2.St} {A : Around} {R : Result → Shared → Prop} {a P : Addr} {xs : List V} {ts : List Str} {H : Hp} {base : Nat} (sb : Sub X (n + 1) A) (fP : H P = none) (hlen : ts.length = xs.length) (hT : ∀ (i : Nat) x t, xs[i]? = some x → ts[i]? = some t → Shows X n x t H)
    (hsz : base + (listText ts).length ≤ sizeLine) (ha0 : H a = some (.lst xs)) (fin : ∀ s2 H2 u, L2.Inv X pins σ H2 s2 → (∀ c o, H c = some o → H2 c = some o) → R (.ok (.ret (.str (listText ts) u))) s2) (err : ∀ e s2, X.xe e s2 → R (.error e) s2) :
    ∀ (k i : Nat) (s : Shared) (H1 : Hp), ts.length - i = k → i ≤ ts.length → (∀ c o, H c = some o → H1 c = some o) → L2.Inv X pins σ H1 s → H1 P = some (.lst ((ts.take i).map V.str)) →
      codeAny (model X.prog X.w) A (.builtin "list.__repr__.loop" ⟨[.ref a, rawInt i, .ref P, rawInt ((base + piled (ts.take i) : Nat) : Int)], []⟩) R s := by
  have hp3 := piled_le_listText ts
  have big : ∀ t ∈ ts, t.length ≤ sizeLine := fun t ht => by
    have h2 := (textFrom_len ts 0 "[").2.1 t ht
    have e : (listText ts).length = (textFrom 0 "[" ts).length + 1 := by
      show (textFrom 0 "[" ts ++ "]").length = _
      rw [strLen_append]
      rfl
    omega
  intro k
  induction k with
  | zero =>
    intro i s H1 hk hi s01 I eP
    have hin : i = ts.length := by omega
    obtain ⟨its, m, r, e, _⟩ := I.lst (s01 _ _ ha0)
    obtain ⟨ps, m2, r2, e2, z2⟩ := I.lst eP
    refine codeAny_builtin F.entry_list_repr_loop ?_
    show wpAny _ _ (Builtin.«list.__repr__.loop» ⟨[.ref a, .int i 0, .ref P, .int ((base + piled (ts.take i) : Nat) : Int) 0], []⟩) _ _ s
    rw [repr_loop_tree]
    refine wpAny_bind (wpAny_listItems e rfl ?_)
    have no : its.toArray[(i : Int).toNat]? = none := by
      have := r.length
      simp
      omega
    simp only [no]
    unfold reprEnd
    refine wpAny_bind (wpAny_listItems e2 rfl ?_)
    obtain ⟨d, rfl, ed⟩ := strs_of r2
    rw [show (strValues d).toArray.toList = strValues d by simp, repr_fold]
    refine wpAny_bind (wpAny_pure ?_)
    rw [ed, hin, List.take_length]
    refine wpAny_bind (wpAny_mkStr (wpAny_pure ?_) (by show (listText ts).length ≤ sizeLine; omega))
    exact fin _ H1 _ (I.tok _) s01
  | succ k ih =>
    intro i s H1 hk hi s01 I eP
    have hlt : i < ts.length := by omega
    obtain ⟨t, ht⟩ : ∃ t, ts[i]? = some t := ⟨_, List.getElem?_eq_getElem hlt⟩
    obtain ⟨x, hx⟩ : ∃ x, xs[i]? = some x := ⟨_, List.getElem?_eq_getElem (by omega)⟩
    obtain ⟨its, m, r, e, _⟩ := I.lst (s01 _ _ ha0)
    obtain ⟨u, hu, ru⟩ := r.get hx
    have hp1 := piled_take_succ ht
    have hp2 := piled_take_le ts (i + 1)
    refine codeAny_builtin F.entry_list_repr_loop ?_
    show wpAny _ _ (Builtin.«list.__repr__.loop» ⟨[.ref a, .int i 0, .ref P, .int ((base + piled (ts.take i) : Nat) : Int) 0], []⟩) _ _ s
    rw [repr_loop_tree]
    refine wpAny_bind (wpAny_listItems e rfl ?_)
    have yes : its.toArray[(i : Int).toNat]? = some u := by simpa using hu
    simp only [yes]
    rw [Int.toNat_natCast]
    refine wpAny_bind (wpAny_holding (wpAny_mono (hT i x t hx ht _ pins σ H1 s u (base + piled (ts.take i) + 1) (fun r s2 => r = t ∧ ∃ H2, L2.Inv X pins σ H2 s2 ∧ ∀ c o, H1 c = some o → H2 c = some o) (sub_loop sb) s01 I ru (by omega) fun s2 H2 I2 s12 => ⟨rfl, H2, I2, s12⟩) (fun r s2 k2 => ?_) fun e s2 z => err e s2 z))
    obtain ⟨rfl, H2, I2, s12⟩ := k2
    refine wpAny_bind (wpAny_mkStr ?_ (big r (List.mem_of_getElem? ht)))
    refine wpAny_bind ?_
    show wpAny _ _ (updateSeq P _) _ _ _
    obtain ⟨ps, m2, r2, e2, z2⟩ := (I2.tok (s2.toks + 1)).lst (s12 _ _ eP)
    have small : ((ts.take i).map V.str).length ≤ i := by rw [List.length_map, List.length_take]; omega
    have few : i < sizeLine := by
      have h1 := (textFrom_len ts 0 "[").1
      rw [if_neg (Nat.lt_irrefl 0)] at h1
      have e : (listText ts).length = (textFrom 0 "[" ts).length + 1 := by
        show (textFrom 0 "[" ts ++ "]").length = _
        rw [strLen_append]
        rfl
      omega
    have hps : ps.length ≤ i := by rw [← r2.length]; exact small
    refine wpAny_updateSeq e2 rfl (wpAny_pure ⟨F.quiet_list_repr_loop _, ?_⟩) (by simp; omega) (by simp; omega)
    have n1 : ((i : Int) + 1) = ((i + 1 : Nat) : Int) := by omega
    have n2 : base + piled (ts.take i) + (r.length + 2) = base + piled (ts.take (i + 1)) := by omega
    rw [n1, n2]
    have I3 := (I2.tok (s2.toks + 1)).lstUpd (p := P) (ys := (ts.take (i + 1)).map V.str) (its' := ps ++ [.str r s2.toks]) (n' := m2 + 1) (f := Obj.mapSeq (·.push (.str r s2.toks))) (s12 _ _ eP) e2 (by simp [Obj.mapSeq]) (by
      rw [List.take_add_one, ht, List.map_append]
      exact r2.append (.cons ⟨_, rfl⟩ .nil)) (by rw [List.length_map, List.length_take]; omega) (s2.toks + 1)
    refine ih (i + 1) _ _ (by omega) hlt (fun c o z => ?_) I3 upd_same
    rw [upd_ne (fun y => by rw [y, fP] at z; cases z)]
    exact s12 _ _ (s01 _ _ z)
/-- list.__repr__, where nothing is being shown -/
theorem call_listI {pins : List (Addr × Obj)} {σ : L2.St} {A : Around} {Q : Value → Shared → Prop} {s : Shared} {H : Hp} {a : Addr} {xs : List V} {ts : List Str} (sb : Sub X (n + 3) A) (gd : A.guards = some []) (I : L2.Inv X pins σ H s) (ha : H a = some (.lst xs)) (hlen : ts.length = xs.length)
    (hT : ∀ (i : Nat) x t, xs[i]? = some x → ts[i]? = some t → Shows X n x t H) (hsz : (listText ts).length ≤ sizeLine) (fin : ∀ s2 H2 u, L2.Inv X pins σ H2 s2 → (∀ c o, H c = some o → H2 c = some o) → Q (.str (listText ts) u) s2) :
    wpAny (model X.prog X.w) A (call (.builtin "list.__repr__") [.ref a]) Q X.xe s := by
  obtain ⟨its, m, r, e, z⟩ := I.lst ha
  have ty : s.TypeIs (.ref a) "list" := ⟨_, e, rfl⟩
  refine wpAny_call (codeAny_call_builtin F.slot_list_repr.plain F.entry_list_repr (F.slot_list_repr.check _ _ _ _ _ _ _ _ ty (F.args_list_repr_1 _) ?_))
  cases its with
  | nil =>
    have e0 : xs = [] := List.length_eq_zero_iff.mp r.length
    have e1 : ts = [] := List.length_eq_zero_iff.mp (by rw [hlen, e0]; rfl)
    subst e1
    exact wpAny_list_repr_empty (b := 0) e rfl (fin _ H _ (I.tok _) fun _ _ z => z)
  | cons v vs =>
    refine wpAny_list_repr_head (A := A.in1) (b := 0) gd (fun _ _ _ z => nomatch z) e rfl ?_
    refine wpAny_bind (m := newList []) (wpAny_newObj_type ?_)
    refine wpAny_pure ⟨F.quiet_list_repr_loop _, ?_⟩
    have fP : H s.heap.objs.size = none := I.hok.fresh (Nat.le_refl _)
    have I3 : L2.Inv X pins σ (upd H s.heap.objs.size (.lst [])) { s with heap := s.heap.push { cls := .type "list", data := .seq ([] : List Value).toArray } } :=
      I.laid (t' := s.toks) (fun b o z => Heap.get?_push_of_some _ z) (Nat.le_refl _) ⟨Nat.zero_le _, [], 0, .nil, Heap.get?_push_size _ rfl⟩
    have up : ∀ c o, H c = some o → upd H s.heap.objs.size (.lst []) c = some o := fun c o z => by
      rw [upd_ne (fun y => by rw [y, fP] at z; cases z)]
      exact z
    exact repr_loopI (base := 0) (sb.mono (by omega)) fP hlen hT (by omega) ha (fun s2 H2 u I2 s12 => fin s2 H2 u I2 s12) (fun _ _ z => z) ts.length 0 _ _ rfl (Nat.zero_le _) up I3 upd_same
/-- repr of a list, where nothing is being shown -/
theorem repr_listI {pins : List (Addr × Obj)} {σ : L2.St} {A : Around} {Q : Value → Shared → Prop} {s : Shared} {H : Hp} {a : Addr} {xs : List V} {ts : List Str} (sb : Sub X (n + 3) A) (gd : A.guards = some []) (I : L2.Inv X pins σ H s) (ha : H a = some (.lst xs)) (hlen : ts.length = xs.length)
    (hT : ∀ (i : Nat) x t, xs[i]? = some x → ts[i]? = some t → Shows X n x t H) (hsz : (listText ts).length ≤ sizeLine) (fin : ∀ s2 H2 u, L2.Inv X pins σ H2 s2 → (∀ c o, H c = some o → H2 c = some o) → Q (.str (listText ts) u) s2) :
    wpAny (model X.prog X.w) A (pyReprObj (.ref a)) Q X.xe s := by
  obtain ⟨its, m, r, e, z⟩ := I.lst ha
  have ty : s.TypeIs (.ref a) "list" := ⟨_, e, rfl⟩
  unfold pyReprObj
  refine wpAny_bind (wpAny_cRoomFor (by have := sb.room.un; omega) ?_)
  refine wpAny_bind (wpAny_specialOf (name := Str.ofString "__repr__") ty F.slot_list_repr.lookup ?_)
  refine wpAny_bind (m := callSpecialIfBound? (.ref a) (Str.ofString "__repr__")) (wpAny_callSpecialIfBound?_slot (name := Str.ofString "__repr__") ty F.slot_list_repr (call_listI sb gd I ha hlen hT hsz fun s2 H2 u I2 s12 => ?_))
  exact wpAny_bind (wpAny_isInstance (T := "str") (b := true) rfl isSubtype_str_str (wpAny_pure (fin s2 H2 u I2 s12)))
end
end KA
/-! repr of a tuple that holds lists of own things, and data -/
namespace KA
open PySem PySem.Spec PyProof.Rows L2
section
variable {X : Cx} {n : Nat}
/-- x is shown as t, where nothing but t0 is being shown -/
def ShowsG (X : Cx) (n : Nat) (t0 : Addr) (x : V) (t : Str) (H : Hp) : Prop := ∀ (A : Around) (g : List Code) (pins : List (Addr × Obj)) (σ : L2.St) (H1 : Hp) (s : Shared) (u : Value) (b : Nat) (Q : Str → Shared → Prop), Sub X n A → A.guards = some g → (∀ c, c ≠ t0 → Clear g c) → (∀ c o, H c = some o → H1 c = some o) → L2.Inv X pins σ H1 s → RelV x u → b + t.length ≤ sizeLine →
  (∀ s2 H2, L2.Inv X pins σ H2 s2 → (∀ c o, H1 c = some o → H2 c = some o) → Q t s2) → wpAny (model X.prog X.w) A (pyReprUnder b u) Q X.xe s
theorem Shows.g {t0 : Addr} {x : V} {t : Str} {H : Hp} (h : Shows X n x t H) : ShowsG X n t0 x t H := fun A _ pins σ H1 s u b Q sb _ _ s01 I ru hz fin => h A pins σ H1 s u b Q sb s01 I ru hz fin
theorem shows_listG {H : Hp} {a t0 : Addr} {xs : List V} {ts : List Str} (ne : a ≠ t0) (ha : H a = some (.lst xs)) (hlen : ts.length = xs.length) (hT : ∀ (i : Nat) x t, xs[i]? = some x → ts[i]? = some t → Shows X n x t H) : ShowsG X (n + 3) t0 (.ref a) (listText ts) H := by
  intro A g pins σ H1 s u b Q sb gd hcl s01 I ru hz fin
  cases (show u = Value.ref a from ru)
  obtain ⟨its, m, r, e, z⟩ := I.lst (s01 _ _ ha)
  have ty : s.TypeIs (.ref a) "list" := ⟨_, e, rfl⟩
  have uu : A.units < cLine := sb.room.units0
  refine wpAny_pyReprUnder_ref (by omega) (wpAny_pyReprObjUnder_twin (twin := "list.__repr__.under") ty F.slot_list_repr.toG rfl uu ?_)
  refine call_twin_plain F.plain_list_repr_under F.entry_list_repr_under F.check_list_repr_under ty F.slot_list_repr.toG (F.args_list_repr_1 _) ?_
  have hTs : ∀ (i : Nat) x t, xs[i]? = some x → ts[i]? = some t → Shows X n x t H1 := fun i x t h1 h2 A pins σ H2 s u b Q sb s12 I ru hz fin => hT i x t h1 h2 A pins σ H2 s u b Q sb (fun c o k => s12 _ _ (s01 _ _ k)) I ru hz fin
  cases its with
  | nil =>
    have e0 : xs = [] := List.length_eq_zero_iff.mp r.length
    have e1 : ts = [] := List.length_eq_zero_iff.mp (by rw [hlen, e0]; rfl)
    subst e1
    exact wpAny_list_repr_empty (b := b) e rfl ⟨⟨_, _, rfl⟩, _, _, rfl, fin _ H1 (I.tok _) fun _ _ z => z⟩
  | cons v vs =>
    refine wpAny_list_repr_head (A := A.in1) (b := b) gd (fun v rest kw hm => listSameRef_of_ne (hcl a ne _ _ _ _ hm)) e rfl ?_
    refine wpAny_bind (m := newList []) (wpAny_newObj_type ?_)
    refine wpAny_pure ⟨F.quiet_list_repr_loop _, ?_⟩
    have fP : H1 s.heap.objs.size = none := I.hok.fresh (Nat.le_refl _)
    have I3 : L2.Inv X pins σ (upd H1 s.heap.objs.size (.lst [])) { s with heap := s.heap.push { cls := .type "list", data := .seq ([] : List Value).toArray } } :=
      I.laid (t' := s.toks) (fun b o z => Heap.get?_push_of_some _ z) (Nat.le_refl _) ⟨Nat.zero_le _, [], 0, .nil, Heap.get?_push_size _ rfl⟩
    have up : ∀ c o, H1 c = some o → upd H1 s.heap.objs.size (.lst []) c = some o := fun c o z => by
      rw [upd_ne (fun y => by rw [y, fP] at z; cases z)]
      exact z
    exact repr_loopI (base := b) (sb.mono (by omega)) fP hlen hTs hz (s01 _ _ ha) (fun s2 H2 u I2 s12 => ⟨⟨_, _, rfl⟩, _, _, rfl, fin s2 H2 I2 s12⟩) (fun _ _ z => z) ts.length 0 _ _ rfl (Nat.zero_le _) up I3 upd_same
theorem sub_tup {A : Around} {args : Args} (sb : Sub X (n + 1) A) : Sub X n (A.under (.builtin "tuple.__repr__" args)) := by
  have r := sb.room
  refine ⟨⟨r.hd, ?_, ?_⟩, sb.fr⟩
  · have := r.dp
    have e : (A.under (.builtin "tuple.__repr__" args)).depth ≤ A.depth + 1 := by
      first
        | exact Nat.le_refl _
        | (show A.depth ≤ A.depth + 1; omega)
        | simp [Around.under, Code.weight, Code.isCreation, Code.isGuard, Code.isCaller, Code.frames, Code.isFrame, guardIds]
    omega
  · have := r.un
    rw [units_under_tuple_repr]
    omega
/-- the items of a tuple, one behind another -/
inductive ShowsAll (X : Cx) (n : Nat) (t0 : Addr) (H : Hp) : List V → List Str → Prop
  | nil : ShowsAll X n t0 H [] []
  | cons {x : V} {xs : List V} {t : Str} {ts : List Str} : ShowsG X n t0 x t H → ShowsAll X n t0 H xs ts → ShowsAll X n t0 H (x :: xs) (t :: ts)
theorem ShowsAll.len {t0 : Addr} {H : Hp} : ∀ {xs : List V} {ts : List Str}, ShowsAll X n t0 H xs ts → ts.length = xs.length
  | _, _, .nil => rfl
  | _, _, .cons _ r => by rw [List.length_cons, List.length_cons, r.len]
theorem tup_foldI {A : Around} {g : List Code} {pins : List (Addr × Obj)} {σ : L2.St} {t0 : Addr} {H : Hp} (sb : Sub X n A) (gd : A.guards = some g) (hcl : ∀ c, c ≠ t0 → Clear g c) {xs : List V} {ts : List Str} (all : ShowsAll X n t0 H xs ts) : ∀ (us : List Value) (acc : Array Str) (k : Nat) (s : Shared) (H1 : Hp) (Q : (Array Str × Nat) → Shared → Prop),
    Vals xs us → k + piled ts ≤ sizeLine → (∀ c o, H c = some o → H1 c = some o) → L2.Inv X pins σ H1 s → (∀ s2 H2, L2.Inv X pins σ H2 s2 → (∀ c o, H1 c = some o → H2 c = some o) → Q ⟨acc ++ ts.toArray, k + piled ts⟩ s2) →
      wpAny (model X.prog X.w) A (forIn us (⟨acc, k⟩ : (Array Str × Nat)) tupBody) Q X.xe s := by
  induction all with
  | nil =>
    intro us acc k s H1 Q vl _ _ I fin
    cases vl
    simp only [List.forIn_nil]
    exact wpAny_pure (by simpa [piled] using fin s H1 I fun _ _ z => z)
  | @cons x xs t ts hx _ ih =>
    intro us acc k s H1 Q vl hk s01 I fin
    cases vl with
    | cons rx rr =>
      rename_i u us
      rw [piled_cons] at hk
      rw [List.forIn_cons]
      refine wpAny_bind (wpAny_bind (wpAny_mono (hx A g pins σ H1 s u (k + 1) (fun r s2 => r = t ∧ ∃ H2, L2.Inv X pins σ H2 s2 ∧ ∀ c o, H1 c = some o → H2 c = some o) sb gd hcl s01 I rx (by omega) fun s2 H2 I2 s12 => ⟨rfl, H2, I2, s12⟩) (fun r s2 k2 => ?_) fun _ _ z => z))
      obtain ⟨rfl, H2, I2, s12⟩ := k2
      refine wpAny_pure ?_
      refine ih us (acc.push r) (k + (r.length + 2)) s2 H2 Q rr (by omega) (fun c o z => s12 _ _ (s01 _ _ z)) I2 fun s3 H3 I3 s23 => ?_
      have h1 := fin s3 H3 I3 fun c o z => s23 _ _ (s12 _ _ z)
      rw [show k + piled (r :: ts) = k + (r.length + 2) + piled ts by rw [piled_cons]; omega] at h1
      simpa using h1
/-- tuple.__repr__, where nothing is being shown -/
theorem call_tupI {pins : List (Addr × Obj)} {σ : L2.St} {A : Around} {Q : Value → Shared → Prop} {s : Shared} {H : Hp} {a : Addr} {xs : List V} {ts : List Str} (sb : Sub X (n + 1) A) (gd : A.guards = some []) (I : L2.Inv X pins σ H s) (ha : H a = some (.tup xs)) (all : ShowsAll X n a H xs ts)
    (hsz : (tupleText ts).length ≤ sizeLine) (fin : ∀ s2 H2 u, L2.Inv X pins σ H2 s2 → (∀ c o, H c = some o → H2 c = some o) → Q (.str (tupleText ts) u) s2) : wpAny (model X.prog X.w) A (call (.builtin "tuple.__repr__") [.ref a]) Q X.xe s := by
  obtain ⟨z, its, r, o, e, cl, m, hd⟩ := I.hok a _ ha
  have ty : s.TypeIs (.ref a) "tuple" := ⟨o, e, cl⟩
  have hlen : ts.length = its.toArray.size := by rw [all.len, r.length]; simp
  have hp := piled_le_tupleText ts
  refine wpAny_call (codeAny_call_builtin_own (Code.quiet_builtin _ (by decide +kernel)) F.entry_tuple_repr (F.slot_tuple_repr.check _ _ _ _ _ _ _ _ ty (F.args_tuple_repr_1 _) ?_))
  show wpOwn _ _ _ (Builtin.tupleReprAt 0 ⟨[.ref a], []⟩) _ _ s
  rw [tuple_repr_tree, tupleReprUnderWay_eq]
  refine wpOwn_bind (wpOwn_stackTailAny gd (tupGuardF_off _) (tupGuardF_pos _) ?_)
  refine wpOwn_of_wpAny ?_
  show wpAny _ _ (tupleReprRest 0 (.ref a)) _ _ s
  unfold tupleReprRest Builtin.Tuple.tupleItemsOf
  refine wpAny_bind (wpAny_bind (wpAny_seqItems e hd (wpAny_pure ?_)))
  rw [← Array.forIn_toList]
  refine wpAny_bind (wpAny_mono (tup_foldI (pins := pins) (σ := σ) (sub_tup sb) (guards_under_guard (isGuard_tuple_repr _) gd) (fun b hb => (Clear.nil b).cons (a := a) (Ne.symm hb)) all its.toArray.toList _ _ s H (fun q s2 => q = ⟨ts.toArray, 0 + piled ts⟩ ∧ ∃ H2, L2.Inv X pins σ H2 s2 ∧ ∀ c o, H c = some o → H2 c = some o) (by simpa using r) (by omega) (fun _ _ z => z) I fun s2 H2 I2 s12 => ⟨by simp, H2, I2, s12⟩) (fun q s2 k2 => ?_) fun _ _ z => z)
  obtain ⟨rfl, H2, I2, s12⟩ := k2
  refine wpAny_bind (wpAny_mkStr (wpAny_pure ?_) (by simpa [tupleText, hlen] using hsz))
  have h1 := fin _ H2 s2.toks (I2.tok (s2.toks + 1)) s12
  simpa [tupleText, hlen] using h1
def rReprT (X : Cx) (n : Nat) : List V → Hp → VK → Prop := fun vs H Q => ∃ (a : Addr) (xs : List V) (ts : List Str), vs = [.ref a] ∧ H a = some (.tup xs) ∧ ShowsAll X n a H xs ts ∧ (tupleText ts).length ≤ sizeLine ∧ ∀ H2, (∀ c o, H c = some o → H2 c = some o) → Q (.str (tupleText ts)) H2
theorem call_reprT (gd : X.A.guards = some []) (hr : Room (n + 2) X.A) : CallR X (.builtin "repr") (rReprT X n) := by
  intro pins s σ H vs us Q I r h
  obtain ⟨a, xs, ts, rfl, ha, all, hsz, q⟩ := h
  obtain rfl := Vals.ref1 r
  refine Calls.call_function_entry F.kind_repr F.plain_repr F.entry_repr (F.args_repr1 _) ?_
  unfold Builtin.«repr»
  refine wpAny_bind (m := oneArg "repr" _) (wpAny_pure ?_)
  have sb : Sub X (n + 1) X.A.in1 := ⟨hr.in1, rfl⟩
  obtain ⟨z, its, rr, o, e, cl, m, hd⟩ := I.hok a _ ha
  have ty : s.TypeIs (.ref a) "tuple" := ⟨o, e, cl⟩
  refine wpAny_bind (wpAny_cRoomFor sb.room.units0 ?_)
  refine wpAny_bind (wpAny_specialOf (name := Str.ofString "__repr__") ty F.slot_tuple_repr.lookup ?_)
  refine wpAny_bind (m := callSpecialIfBound? (.ref a) (Str.ofString "__repr__")) (wpAny_callSpecialIfBound?_slotG (name := Str.ofString "__repr__") ty F.slot_tuple_repr (call_tupI sb gd I ha all hsz fun s2 H2 u I2 s12 => ?_))
  exact wpAny_bind (wpAny_isInstance (T := "str") (b := true) rfl isSubtype_str_str (wpAny_pure ⟨_, rfl, .str (tupleText ts), H2, I2, ⟨u, rfl⟩, q H2 s12⟩))
def rReprLst (X : Cx) (n : Nat) : List V → Hp → VK → Prop := fun vs H Q => ∃ (a : Addr) (xs : List V) (ts : List Str), vs = [.ref a] ∧ H a = some (.lst xs) ∧ ts.length = xs.length ∧ (∀ (i : Nat) x t, xs[i]? = some x → ts[i]? = some t → Shows X n x t H) ∧ (listText ts).length ≤ sizeLine ∧ ∀ H2, (∀ c o, H c = some o → H2 c = some o) → Q (.str (listText ts)) H2
theorem call_reprLst (gd : X.A.guards = some []) (hr : Room (n + 4) X.A) : CallR X (.builtin "repr") (rReprLst X n) := by
  intro pins s σ H vs us Q I r h
  obtain ⟨a, xs, ts, rfl, ha, hlen, hT, hsz, q⟩ := h
  obtain rfl := Vals.ref1 r
  refine Calls.call_function_entry F.kind_repr F.plain_repr F.entry_repr (F.args_repr1 _) ?_
  unfold Builtin.«repr»
  refine wpAny_bind (m := oneArg "repr" _) (wpAny_pure ?_)
  have sb : Sub X (n + 3) X.A.in1 := ⟨hr.in1, rfl⟩
  obtain ⟨its, m, rr, e, z⟩ := I.lst ha
  have ty : s.TypeIs (.ref a) "list" := ⟨_, e, rfl⟩
  refine wpAny_bind (wpAny_cRoomFor sb.room.units0 ?_)
  refine wpAny_bind (wpAny_specialOf (name := Str.ofString "__repr__") ty F.slot_list_repr.lookup ?_)
  refine wpAny_bind (m := callSpecialIfBound? (.ref a) (Str.ofString "__repr__")) (wpAny_callSpecialIfBound?_slot (name := Str.ofString "__repr__") ty F.slot_list_repr (call_listI sb gd I ha hlen hT hsz fun s2 H2 u I2 s12 => ?_))
  exact wpAny_bind (wpAny_isInstance (T := "str") (b := true) rfl isSubtype_str_str (wpAny_pure ⟨_, rfl, .str (listText ts), H2, I2, ⟨u, rfl⟩, q H2 s12⟩))
/-- {x!r}, x a list -/
def tFmtRL (X : Cx) (n : Nat) (te : TE) : TE := fun σ H Q => te σ H fun x H1 => rReprLst X n [x] H1 Q
theorem pe_fmtRL {e : Expr} {te : TE} {pos : Pos} (gd : X.A.guards = some []) (hr : Room (n + 3) X.A) (he : PE X e te) : PE X (.FormattedValue e 114 none pos) (tFmtRL X n te) := by
  refine ⟨fun pins s σ H Q I h => ?_⟩
  refine wpAny_FormattedValue_repr (thn (he.run pins s σ H _ I h) fun v s1 ⟨x, H1, I1, r1, k⟩ => ?_)
  obtain ⟨a, xs, ts, ex, ha, hlen, hT, hsz, q⟩ := k
  cases ex
  cases (show v = Value.ref a from r1)
  refine repr_listI ⟨hr, rfl⟩ gd I1 ha hlen hT hsz fun s2 H2 u I2 s12 => ?_
  exact wpAny_formatField_str ⟨.str (listText ts), H2, I2, ⟨_, rfl⟩, q H2 s12⟩ ⟨.str (listText ts), H2, I2.tok _, ⟨_, rfl⟩, q H2 s12⟩ hsz
/-- a dict whose keys are tuples of texts, its values ints -/
def keyText (ks : List Str) : Str := tupleText (ks.map reprText)
def entText (p : List Str × Int) : Str := keyText p.1 ++ ": " ++ Str.ofString (toString p.2)
def dictV (kvs : List (List Str × Int)) : List (List Key × V) := kvs.map fun p => (p.1.map Sum.inr, V.int p.2)
theorem reprAll_strs {as : List Addr} {h0 : Heap} {d : Nat} : ∀ {ks : List Str} {us : List Value}, Vals (ks.map V.str) us → (∀ k ∈ ks, (reprText k).length ≤ sizeLine) → ReprAllK X.prog X.w as h0 d us (ks.map reprText)
  | [], _, .nil, _ => .nil
  | k :: ks, _, .cons h r, hz => by
    obtain ⟨tk, rfl⟩ := (show ∃ t, _ = Value.str k t from h)
    exact .cons (.of_is (ReprIs.str k tk (hz k (List.mem_cons_self ..))) _ _ _) (reprAll_strs r fun y hy => hz y (List.mem_cons_of_mem _ hy))
theorem keys_strs (ks : List Str) : (ks.map (Sum.inr : Str → Key)).map kV = ks.map V.str := by
  rw [List.map_map]
  rfl
theorem entries_dT {pins : List (Addr × Obj)} {σ : L2.St} {H1 : Hp} {s : Shared} (I : L2.Inv X pins σ H1 s) (as : List Addr) {P : Program} {w : World} : ∀ {kvs : List (List Str × Int)} {xs : List (List Key × Addr × Value)}, (∀ q ∈ xs, q.2.1 ∈ as) → (∀ p ∈ kvs, (∀ k ∈ p.1, (reprText k).length ≤ sizeLine) ∧ p.2.natAbs.log2 < 1920) →
    Paired (fun (p : List Key × V) (q : List Key × Addr × Value) => p.1 = q.1 ∧ H1 q.2.1 = some (.tup (p.1.map kV)) ∧ RelV p.2 q.2.2) (dictV kvs) xs → ReprEntriesK X.prog X.w as s.heap 1 (xs.map (entryOfKey (tupleKind (mixKind P w)))) (kvs.map entText)
  | [], _, _, _, .nil => .nil
  | (ks, i) :: kvs, _, hin, hk, .cons h r => by
    rename_i q xs
    obtain ⟨h1, h2, h3⟩ := h
    have h2 : H1 q.2.1 = some (.tup (ks.map V.str)) := by
      rw [← keys_strs ks]
      exact h2
    obtain ⟨tk, h3⟩ := (show ∃ t, q.2.2 = Value.int i t from h3)
    obtain ⟨k1, k2⟩ := hk (ks, i) (List.mem_cons_self ..)
    obtain ⟨_, its, rv, ok, e, cl, m, hd⟩ := I.hok _ _ h2
    have key : ReprK X.prog X.w [q.2.1] s.heap 1 (.ref q.2.1) (keyText ks) := ReprK.tuple (as := []) e cl hd (by simp) (by simpa using reprAll_strs rv k1)
    refine .cons (key.more fun b hb => ?_) ?_ (entries_dT I as (fun q hq => hin q (List.mem_cons_of_mem _ hq)) (fun p hp => hk p (List.mem_cons_of_mem _ hp)) r)
    · rw [List.mem_singleton.mp hb]
      exact hin q (List.mem_cons_self ..)
    · show ReprK X.prog X.w as s.heap 1 q.2.2 _
      rw [h3]
      exact .of_is (ReprIs.int tk k2) _ _ _
theorem shows_dT {H : Hp} {a t0 : Addr} {xs0 : List V} {kvs : List (List Str × Int)} (ht0 : H t0 = some (.tup xs0)) (hx0 : ∀ ks : List Str, xs0 ≠ ks.map V.str) (ha : H a = some (.dT (dictV kvs))) (hk : ∀ p ∈ kvs, (∀ k ∈ p.1, (reprText k).length ≤ sizeLine) ∧ p.2.natAbs.log2 < 1920) :
    ShowsG X n t0 (.ref a) (dictText (kvs.map entText)) H := by
  intro A g pins σ H1 s u b Q sb gd hcl s01 I ru hz fin
  cases (show u = Value.ref a from ru)
  have ha1 := s01 _ _ ha
  obtain ⟨_, hsys, xs, pr, o, es, ep, e, ex, hd, hes, _⟩ := I.hok a _ ha1
  have tup : ∀ c ∈ xs.map (·.2.1), ∃ ks : List Str, H1 c = some (.tup (ks.map V.str)) := by
    intro c hc
    obtain ⟨q, hq, rfl⟩ := List.mem_map.mp hc
    have : ∀ {l : List (List Str × Int)} {ys : List (List Key × Addr × Value)}, Paired (fun (p : List Key × V) (q : List Key × Addr × Value) => p.1 = q.1 ∧ H1 q.2.1 = some (.tup (p.1.map kV)) ∧ RelV p.2 q.2.2) (dictV l) ys → ∀ q ∈ ys, ∃ ks : List Str, H1 q.2.1 = some (.tup (ks.map V.str)) := by
      intro l
      induction l with
      | nil =>
        intro ys h q hq
        cases h
        cases hq
      | cons p l ih =>
        intro ys h q hq
        cases h with
        | cons h r =>
          rcases List.mem_cons.mp hq with rfl | hq
          · exact ⟨p.1, by rw [← keys_strs]; exact h.2.1⟩
          · exact ih r q hq
    exact this pr q hq
  have ent := entries_dT (P := X.prog) (w := X.w) I (xs.map (·.2.1)) (fun q hq => List.mem_map.mpr ⟨q, hq, rfl⟩) hk pr
  rw [← hes] at ent
  have na : a ∉ xs.map (·.2.1) := fun z => by
    obtain ⟨ks, k⟩ := tup a z
    rw [ha1] at k
    cases k
  have all := ReprK.dict (prog := X.prog) (w := X.w) e ex.1 hd hsys na ent
  refine all b hz A g X.xe s Q gd (fun c hc => hcl c fun z => ?_) (by have := sb.room.un; omega) (fun _ _ z => z) fun h' tk kp => fin _ H1 (I.kept kp) fun _ _ z => z
  have t1 := s01 _ _ ht0
  rcases List.mem_cons.mp hc with hc | hc
  · rw [← z, hc, ha1] at t1
    cases t1
  · obtain ⟨ks, k⟩ := tup c hc
    rw [z, t1] at k
    cases k
    exact hx0 ks rfl
end
end KA
namespace KA
open PySem PySem.Spec PySem.W PyProof.Rows
section
variable {prog : Program} {w : World} {A : Around} {E : Value → Shared → Prop} {s : Shared} {K : Frag} {x C f : Addr} {ox : Obj} {od : Option Obj}
theorem robj_K {Q : Value → Shared → Prop} (hu : A.units < cLine) (X : K.In s.heap) (I : InstAt s.heap x ox C od) (hs : findIn K (.ref C) "__repr__" = some (some (.ref f))) (hf : isFn K (.ref f) = true)
    (hcall : wpAny (model prog w) A (call (.ref f) [.ref x]) (fun r s' => ∃ m tk, r = .str m tk ∧ Q (.str m tk) s') E s) :
    wpAny (model prog w) A (pyReprObj (.ref x)) Q E s := by
  unfold pyReprObj
  refine wpAny_bind (wpAny_cRoomFor hu ?_)
  refine wpAny_bind (wpAny_bind (I.type.here ((looks_findIn X hs).here ?_)))
  show wpAny _ _ (if (some (Value.ref f)).isNone = true then _ else _) _ _ _
  rw [if_neg (by simp)]
  refine wpAny_bind (m := callSpecialIfBound? (.ref x) (Str.ofString "__repr__") _) (ifBound_K X I hs hf (wpAny_mono hcall (fun r s' hr => ?_) fun _ _ y => y))
  obtain ⟨m, tk, rfl, hq⟩ := hr
  refine wpAny_bind (wpAny_isInstance (typeIs_str _ _ _) isSubtype_str_str ?_)
  first
    | exact wpAny_pure hq
    | (rw [if_pos rfl]; exact wpAny_pure hq)
    | (simp only [if_true]; exact wpAny_pure hq)
end
end KA
namespace KA
open PySem PySem.Spec PyProof.Rows L2
section
variable {X : Cx} {n : Nat} {CX : CXT} {C f : Addr} {fd : FuncData} {ps : List Str} {sp : Sp} {E : XK}
/-- {x!r}, x an instance of the class at C, whose own __repr__ keeps sp -/
def tFmtRO (C : Addr) (sp : Sp) (E : XK) (te : TE) : TE := fun σ H Q => te σ H fun x H1 => ∃ (a dx : Addr) (fs : List (Str × V)), x = .ref a ∧ H1 a = some (.ins C dx fs) ∧ sp [.ref a] H1 (fun v H' => (∃ m, v = .str m) ∧ (∃ m : Str, v = .str m ∧ m.length ≤ sizeLine) ∧ Q v H') E
theorem pe_fmtRO {e : Expr} {te : TE} {pos : Pos} (F : FnOk X.prog X.w X.K X.mg X.base CX n f fd ps sp) (hs : PySem.W.findIn X.K (.ref C) "__repr__" = some (some (.ref f))) (hf : PySem.W.isFn X.K (.ref f) = true) (hb : Binds X.K fd ps []) (hx : Passes CX X E) (hr : Room n X.A) (he : PE X e te) :
    PE X (.FormattedValue e 114 none pos) (tFmtRO C sp E te) := by
  refine ⟨fun pins s σ H Q I h => ?_⟩
  refine wpAny_FormattedValue_repr (thn (he.run pins s σ H _ I h) fun v s1 ⟨x, H1, I1, r1, k⟩ => ?_)
  obtain ⟨a, dx, fs, ex, ha, hsp⟩ := k
  cases ex
  cases (show v = Value.ref a from r1)
  obtain ⟨mA, J, _⟩ := ins_get I1.hok ha
  obtain ⟨od, J, _⟩ := J.look
  refine robj_K hr.units0 I1.kIn J hs hf (wpAny_mono (run_self F hb hx hr rfl I1 hsp) (fun r s' hr => ?_) fun _ _ y => y)
  obtain ⟨m, tk, rfl, v, H', I', rv, ⟨m', ev, hz⟩, q⟩ := hr
  subst ev
  obtain ⟨tk2, e⟩ := (show ∃ y, Value.str m tk = Value.str m' y from rv)
  cases e
  exact ⟨m, tk, rfl, wpAny_formatField_str ⟨.str m, H', I', ⟨_, rfl⟩, q⟩ ⟨.str m, H', I'.tok _, ⟨_, rfl⟩, q⟩ hz⟩
end
end KA
/-! sorted(xs, key = own def or lambda): the keys may be new things -/
namespace KA
open PySem PySem.Spec PyProof.Rows L2
section
variable {X : Cx} {pins : List (Addr × Obj)} {σ : L2.St} {H : Hp} {s : Shared} {A : Around} {a kS : Addr} {e1 : Nat} {E : Value → Shared → Prop} {P : PySem.Fin → Shared → Prop}
/-- a list of ours that was pinned as it stood is written and known from now on -/
theorem trackL {o : Obj} {f : Obj → Obj} {its' : List Value} {n' : Nat} {ys : List V} (I : L2.Inv X ((a, o) :: pins) σ H s) (h0 : X.s_0.heap.objs.size ≤ a) (hp : ∀ p ∈ X.pn ++ pins, p.1 ≠ a) (hf : f o = seqObj "list" its'.toArray n')
    (r : Vals ys its') (hz : ys.length ≤ sizeLine) (t : Nat) : L2.Inv X pins σ (upd H a (.lst ys)) { s with heap := s.heap.update a f, toks := t } := by
  have pa := I.pin (a, o) (List.mem_append_right _ (List.mem_cons_self ..))
  have ha : s.heap.get? a = some o := pa.1
  have hn : H a = none := pa.2.1
  have I0 : L2.Inv X pins σ H s := I.pins_of fun p hq => I.pin p (List.mem_append_right _ (List.mem_cons_of_mem _ hq))
  have e : (s.heap.update a f).get? a = some (seqObj "list" its'.toArray n') := by
    rw [Heap.get?_update_self f ha (by rw [hf] <;> rfl), hf]
  have oth : ∀ b u, b ≠ a → s.heap.get? b = some u → (s.heap.update a f).get? b = some u := fun b u hb q => (Heap.get?_update_other _ _ (Ne.symm hb)).trans q
  have nt : ∀ b u, H b = some u → b ≠ a := fun b u q => ne_of_none q hn
  refine I0.step (g' := s.gens) (d' := s.drawn) (ch := [a]) (fun b hb => ?_) (fun b o' _ _ hb q _ => oth b o' (fun z => hb (by rw [z]; exact List.mem_singleton_self _)) q) (fun b o' _ _ hb q _ => ⟨o'.slots, oth b o' (fun z => hb (by rw [z]; exact List.mem_singleton_self _)) q⟩)
    (fun b o' hb q n => by rw [upd_ne (fun z => hb (by rw [z]; exact List.mem_singleton_self _))]; exact n) (fun b o' hb q => ⟨o', oth b o' (fun z => hb (by rw [z]; exact List.mem_singleton_self _)) q⟩) (fun b xs q => by rw [upd_ne (nt b _ q)]; exact q)
    (fun b o' u q => by rw [upd_ne (nt b _ q)]; exact q) (fun b ps q => ⟨#[], by rw [upd_ne (nt b _ q), q]; simp⟩) (fun m hm => ?_) (fun b u q => ?_) I0.bare
  · obtain rfl := List.mem_singleton.mp hb
    refine ⟨.inr h0, pa.2.2.1, fun x c hc z => ?_, hp⟩
    subst z
    obtain ⟨v, ob, ho, hd⟩ := I0.cell x _ hc
    rw [ha] at ho
    cases ho
    exact pa.2.2.2.2 v hd
  · obtain ⟨ob, es, ep, ho, rest⟩ := hm
    exact ⟨ob, es, ep, oth _ _ (Ne.symm pa.2.2.1) ho, rest⟩
  · by_cases hb : b = a
    · subst hb
      rw [upd_same] at q
      cases q
      exact ⟨hz, its', n', r, e⟩
    · rw [upd_ne hb] at q
      refine (I0.hok b u q).stay (fun d v hd w' => oth d v (fun z => ?_) w') (fun d w' => by rw [upd_ne (nt d _ w')]; exact w') fun d xs w' => by rw [upd_ne (nt d _ w')]; exact w'
      rcases hd with z2 | z2
      · exact hb (z2.symm.trans z)
      · exact nt d _ z2 z
/-- behind the sorting: the store of keys is emptied, the list gets its items -/
theorem tailJ {st : SortSt} {its out : List Value} {ks ys : List V} {n : Nat} (I : L2.Inv X ((a, seqObj "list" #[] e1) :: pins) σ H s) (h0 : X.s_0.heap.objs.size ≤ a) (hp : ∀ p ∈ X.pn ++ pins, p.1 ≠ a) (hk : H kS = some (.lst ks)) (nk : s.heap.get? kS = some (seqObj "list" its.toArray n))
    (hn : its.length ≤ sizeLine) (ro : Vals ys out) (hz : ys.length ≤ sizeLine) (hfl : failedOf st = none) (ho : (arrOf st).map (·.2) = out.toArray)
    (h : ∀ s', L2.Inv X pins σ (upd (upd H kS (.lst [])) a (.lst ys)) s' → P (.done (.ret .none)) s') : wpAny (model X.prog X.w) A (ksk_tail a false e1 (.ref kS) st) P E s := by
  have I1 := I.lstUpd (f := Obj.mapSeq fun _ => (#[] : Array Value)) (its' := []) hk nk (by rfl) .nil (Nat.zero_le _) s.toks
  have na1 := (I1.pin (a, seqObj "list" #[] e1) (List.mem_append_right _ (List.mem_cons_self ..))).1
  have I2 := trackL (f := Obj.mapSeq fun _ => out.toArray) (its' := out) I1 h0 hp (by rfl) ro hz s.toks
  have zo : out.toArray.size ≤ sizeLine + 1 := by rw [List.size_toArray, ← ro.length]; omega
  have zk : its.toArray.size ≤ sizeLine := by rw [List.size_toArray]; exact hn
  have all : wpAny (model X.prog X.w) A (ksk_tail a false e1 (.ref kS) st) (fun f s' => f = .done (.ret .none) ∧ L2.Inv X pins σ (upd (upd H kS (.lst [])) a (.lst ys)) s') E s := by
    unfold ksk_tail
    dsimp only
    rw [ho, hfl]
    refine wpAny_bind (listUpdate_at nk rfl (wpAny_bind (wpAny_letGo (wpAny_bind (seqEpoch_at na1 rfl (wpAny_bind (listUpdate_at na1 rfl ?_ (Nat.zero_le _) (by simpa using zo))))))) zk (Nat.zero_le _))
    simp only [bne_self_eq_false, Bool.false_eq_true, if_false]
    exact wpAny_pure ⟨rfl, I2⟩
  refine wpAny_mono all (fun f s' q => ?_) fun _ _ e => e
  obtain ⟨rfl, J⟩ := q
  exact h s' J
theorem each_dp : ∀ {ks : List V} {kz : List PyData} {us : List Value}, L2.Inv X pins σ H s → DpAll X.K H ks kz → Vals ks us → PySem.W.EachIs (fun v k => ∃ as, Reads s.heap v k as) us kz
  | [], _, _, I, h, r => by
    cases h
    cases r
    exact .nil
  | k :: ks, _, _, I, h, r => by
    cases h with
    | cons h1 h2 =>
      cases r with
      | cons r1 r2 => exact .cons (Dp.reads I _ _ _ h1 r1) (each_dp I h2 r2)
/-- the items by their keys, rising, those of one key in their order -/
noncomputable def srtV (xs : List V) (kz : List PyData) : List V := ((xs.zip kz).mergeSort (PySem.W.dataLe false fun p : V × PyData => p.2)).map Prod.fst
theorem vals_each : ∀ {us : List Value} {bs : List (V × PyData)}, PySem.W.EachIs (fun v (p : V × PyData) => RelV p.1 v) us bs → Vals (bs.map Prod.fst) us
  | _, _, .nil => .nil
  | _, _, .cons h t => .cons h (vals_each t)
theorem each_vals : ∀ {xs : List V} {us : List Value} {kz : List PyData}, Vals xs us → kz.length = xs.length → PySem.W.EachIs (fun v (p : V × PyData) => RelV p.1 v) us (xs.zip kz)
  | _, _, [], .nil, _ => .nil
  | _, _, k :: kz, .cons h t, e => .cons h (each_vals t (by simpa using e))
theorem endJ {vs its : List Value} {xs ks : List V} {kz : List PyData} {n : Nat} (I : L2.Inv X ((a, seqObj "list" #[] e1) :: pins) σ H s) (h0 : X.s_0.heap.objs.size ≤ a) (hp : ∀ p ∈ X.pn ++ pins, p.1 ≠ a) (hk : H kS = some (.lst ks)) (nk : s.heap.get? kS = some (seqObj "list" its.toArray n))
    (rk : Vals ks its) (rv : Vals xs vs) (hd : DpAll X.K H ks kz) (hlen : ks.length = xs.length) (hlz : kz.length = xs.length) (hZ : xs.length ≤ sizeLine) (hal : PySem.W.AllAlike kz) (hsk : PySem.W.Sortable kz) (hu : ∀ d, d ∈ kz → A.units + d.depth < cLine)
    (h : ∀ s', L2.Inv X pins σ (upd (upd H kS (.lst [])) a (.lst (srtV xs kz))) s' → P (.done (.ret .none)) s') : wpAny (model X.prog X.w) A (ksk_end a false vs.toArray e1 (.ref kS) its.toArray) P E s := by
  have hE := each_dp I hd rk
  have S := PySem.W.SortsAt.data (prog := X.prog) (w := X.w) (A := A) (s := s) hE hal hsk hu
  obtain ⟨kd, h1, h2⟩ := S.kind
  have lv : vs.length = xs.length := rv.length.symm
  have li : its.length = xs.length := rk.length.symm.trans hlen
  have hK : PyProof.Rows.KeysOf (PySem.W.dataKind s.heap kz) (its.toArray.zip vs.toArray) := PySem.W.keysOf_zip (by simpa using S.keys)
  have ms : (xs.zip kz).map (fun p : V × PyData => p.2) = kz := List.map_snd_zip (by omega)
  have ko : PySem.W.KeyedOut false ((xs.zip kz).map fun p : V × PyData => p.2) vs (PySem.W.sortVals (PySem.W.dataKind s.heap kz) false its vs) := by
    rw [ms]
    exact ⟨s.heap, its, hal, rfl, hE⟩
  have ro : Vals (srtV xs kz) (PySem.W.sortVals (PySem.W.dataKind s.heap kz) false its vs) := vals_each (PySem.W.keyedOut_each _ ko (each_vals rv hlz))
  have lo : (srtV xs kz).length ≤ sizeLine := by
    rw [ro.length, PySem.W.sortVals_length false (by omega), lv]
    exact hZ
  have fin : ∀ st' : SortSt, (arrOf st').Perm (its.toArray.zip vs.toArray) → SortedToK (PySem.W.dataKind s.heap kz) (arrOf st') (its.toArray.zip vs.toArray).size → Stable (PySem.W.dataKind s.heap kz) (arrOf st') (its.toArray.zip vs.toArray) →
      (arrOf st').map (·.2) = (PySem.W.sortVals (PySem.W.dataKind s.heap kz) false its vs).toArray := fun st' p1 p2 p3 => by
    have e := PySem.W.sort_out (rev := false) (keys := its.toArray) (items := vs.toArray) (xs := arrOf st') hK p1 p2 p3
    rw [if_neg Bool.false_ne_true] at e
    rw [← Array.toArray_toList (xs := (arrOf st').map _), e]
  have zs : (its.toArray.zip vs.toArray).size = xs.length := by
    rw [Array.size_zip, List.size_toArray, List.size_toArray, li, lv, Nat.min_self]
  unfold ksk_end
  dsimp only
  rw [if_neg Bool.false_ne_true]
  by_cases l2 : vs.toArray.size < 2
  · rw [if_pos l2, if_pos l2]
    refine wpAny_bind (wpAny_pure ?_)
    rw [StateT.run_pure]
    refine wpAny_bind (wpAny_pure (tailJ (st := SortSt.mk' general' (its.toArray.zip vs.toArray) #[] 7 none) I h0 hp hk nk (by omega) ro lo rfl (fin _ (Array.Perm.refl _) (fun i j hij hj => ?_) (Stable.refl _)) h))
    rw [zs] at hj
    rw [List.size_toArray] at l2
    obtain rfl : i = j := by omega
    exact KeyOrd.kle_refl _
  · rw [if_neg l2, if_neg l2]
    rw [List.size_toArray] at l2
    refine wpAny_bind (h2 (by omega) _ (wpAny_bind (wpAny_mono (PyProof.Rows.H.wpS_sortRunsSt (κ := PySem.W.dataKind s.heap kz) (kd := kd) (a₀ := its.toArray.zip vs.toArray) (st := SortSt.mk' kd (its.toArray.zip vs.toArray) #[] 7 none)
      (Q := fun _ st' => failedOf st' = none ∧ (arrOf st').map (·.2) = (PySem.W.sortVals (PySem.W.dataKind s.heap kz) false its vs).toArray) h1 hK ⟨Array.Perm.refl _, rfl, rfl⟩ rfl (Stable.refl _) (by omega) fun st' p1 p2 p3 p4 => ⟨p2, fin st' p1 p3 p4⟩) (fun r s' q => ?_) fun _ _ e => e)))
    obtain ⟨⟨⟩, st'⟩ := r
    obtain ⟨rfl, q1, q2⟩ := q
    exact tailJ I h0 hp hk nk (by omega) ro lo q1 q2 h
/-- what a key is: a whole number, a truth, a text, or a tuple of these -/
inductive KF : V → PyData → Prop
  | int (i : Int) : KF (.int i) (.int i)
  | bl (b : Bool) : KF (.bl b) (.bool b)
  | str (x : Str) : KF (.str x) (.str x)
inductive KFs : List V → List PyData → Prop
  | nil : KFs [] []
  | cons {v : V} {d : PyData} {vs : List V} {ds : List PyData} : KF v d → KFs vs ds → KFs (v :: vs) (d :: ds)
inductive KD (K : PySem.W.Frag) (H : Hp) : V → PyData → Prop
  | flat {v : V} {d : PyData} : KF v d → KD K H v d
  | tup {t : Addr} {xs : List V} {ds : List PyData} : SqT K H t xs → KFs xs ds → KD K H (.ref t) (.tuple ds)
  | deep {t t' : Addr} {xs ys : List V} {ds es : List PyData} : SqT K H t (.ref t' :: ys) → SqT K H t' xs → KFs xs ds → KFs ys es → KD K H (.ref t) (.tuple (.tuple ds :: es))
theorem KF.dp {K : PySem.W.Frag} {H : Hp} {v : V} {d : PyData} (h : KF v d) : Dp K H v d := by
  cases h
  · exact .int _
  · exact .bl _
  · exact .str _
theorem KFs.dp {K : PySem.W.Frag} {H : Hp} : ∀ {vs : List V} {ds : List PyData}, KFs vs ds → DpAll K H vs ds
  | _, _, .nil => .nil
  | _, _, .cons h t => .cons h.dp t.dp
theorem KD.dp {K : PySem.W.Frag} {H : Hp} {v : V} {d : PyData} (h : KD K H v d) : Dp K H v d := by
  cases h with
  | flat h => exact h.dp
  | tup h1 h2 => exact .tup h1 h2.dp
  | deep h1 h2 h3 h4 => exact .tup h1 (.cons (.tup h2 h3.dp) h4.dp)
inductive KDs (K : PySem.W.Frag) (H : Hp) : List V → List PyData → Prop
  | nil : KDs K H [] []
  | cons {v : V} {d : PyData} {vs : List V} {ds : List PyData} : KD K H v d → KDs K H vs ds → KDs K H (v :: vs) (d :: ds)
theorem KDs.dp {K : PySem.W.Frag} {H : Hp} : ∀ {vs : List V} {ds : List PyData}, KDs K H vs ds → DpAll K H vs ds
  | _, _, .nil => .nil
  | _, _, .cons h t => .cons h.dp t.dp
theorem KDs.snoc {K : PySem.W.Frag} {H : Hp} : ∀ {vs : List V} {ds : List PyData} {v : V} {d : PyData}, KDs K H vs ds → KD K H v d → KDs K H (vs ++ [v]) (ds ++ [d])
  | _, _, _, _, .nil, h => .cons h .nil
  | _, _, _, _, .cons k t, h => .cons k (t.snoc h)
theorem KDs.len {K : PySem.W.Frag} {H : Hp} : ∀ {vs : List V} {ds : List PyData}, KDs K H vs ds → vs.length = ds.length
  | _, _, .nil => rfl
  | _, _, .cons _ t => congrArg Nat.succ t.len
theorem sqT_nl {K : PySem.W.Frag} {H H' : Hp} {t : Addr} {xs : List V} (n : NL H H') (h : SqT K H t xs) : SqT K H' t xs := by
  rcases h with (h | ⟨o, h⟩) | h
  · exact .inl (.inl (n _ _ (fun _ z => by cases z) h))
  · exact .inl (.inr ⟨o, n _ _ (fun _ z => by cases z) h⟩)
  · exact .inr h
theorem KD.nl {K : PySem.W.Frag} {H H' : Hp} {v : V} {d : PyData} (n : NL H H') (h : KD K H v d) : KD K H' v d := by
  cases h with
  | flat h => exact .flat h
  | tup h1 h2 => exact .tup (sqT_nl n h1) h2
  | deep h1 h2 h3 h4 => exact .deep (sqT_nl n h1) (sqT_nl n h2) h3 h4
theorem KDs.nl {K : PySem.W.Frag} {H H' : Hp} (n : NL H H') : ∀ {vs : List V} {ds : List PyData}, KDs K H vs ds → KDs K H' vs ds
  | _, _, .nil => .nil
  | _, _, .cons h t => .cons (h.nl n) (t.nl n)
/-- f(x) tells the key that D says of x, and only makes things -/
def KeyB (X : Cx) (n : Nat) (f : Value) (D : V → PyData → Hp → Prop) : Prop :=
  ∀ (A : Around) (pins : List (Addr × Obj)) (s : Shared) (σ : L2.St) (H : Hp) (x : V) (u : Value) (k : PyData), Sub X n A → L2.Inv X pins σ H s → RelV x u → D x k H →
    wpAny (model X.prog X.w) A (call f [u]) (fun r s' => ∃ z H', L2.Inv X pins σ H' s' ∧ Ext H H' ∧ RelV z r ∧ KD X.K H' z k) (fun _ _ => False) s
theorem nl_lst {H : Hp} {p : Addr} {xs ys : List V} (h : H p = some (.lst xs)) : NL H (upd H p (.lst ys)) := fun b o n q => by
  rw [upd_ne]
  · exact q
  · rintro rfl
    rw [h] at q
    exact n xs (Option.some.inj q).symm
theorem restJ {H0 : Hp} {f : Value} {m : Nat} {D : V → PyData → Hp → Prop} {vs : List Value} {xs : List V} {kz : List PyData} (kb : KeyB X m f D) (sb : Sub X m A) (I : L2.Inv X ((a, seqObj "list" #[] e1) :: pins) σ H s) (h0 : X.s_0.heap.objs.size ≤ a) (hp : ∀ p ∈ X.pn ++ pins, p.1 ≠ a)
    (x0 : Ext H0 H) (n0 : H0 kS = none) (hk : H kS = some (.lst [])) (rv : Vals xs vs) (hlz : kz.length = xs.length) (hZ : xs.length < sizeLine) (hal : PySem.W.AllAlike kz) (hsk : PySem.W.Sortable kz) (hu : ∀ d, d ∈ kz → A.units + d.depth < cLine)
    (mon : ∀ x k H H', Ext H H' → D x k H → D x k H') (hD : ∀ (i : Nat) x k, xs[i]? = some x → kz[i]? = some k → D x k H0)
    (h : ∀ s' H', Ext H0 (upd H' kS (.lst [])) → H' a = none → L2.Inv X pins σ (upd (upd H' kS (.lst [])) a (.lst (srtV xs kz))) s' → P (.done (.ret .none)) s') : wpAny (model X.prog X.w) A (ksk_rest a f false vs.toArray e1 (.ref kS)) P E s := by
  have lv : vs.length = xs.length := rv.length.symm
  unfold ksk_rest
  refine wpAny_bind (wpAny_rule ?_)
  rw [List.forIn_toArray]
  refine wpAny_bind (ksk_fold (fun i s' => ∃ H' ks, L2.Inv X ((a, seqObj "list" #[] e1) :: pins) σ H' s' ∧ Ext H0 H' ∧ H' kS = some (.lst ks) ∧ KDs X.K H' ks (kz.take i)) vs 0 s ⟨H, [], I, x0, hk, by rw [List.take_zero]; exact .nil⟩ (fun j u s' hu' hJ => ?_) fun s' hJ => ?_)
  · obtain ⟨H', ks, I', x', hk', hd⟩ := hJ
    rw [Nat.zero_add] at hd ⊢
    have hj : j < xs.length := by
      have := (List.getElem?_eq_some_iff.mp hu').1
      omega
    have hx : xs[j]? = some xs[j] := List.getElem?_eq_getElem hj
    have hkj : kz[j]? = some kz[j] := List.getElem?_eq_getElem (by omega)
    have rx : RelV xs[j] u := by
      have := rv.get hx
      obtain ⟨u', q1, q2⟩ := this
      rw [hu'] at q1
      cases q1
      exact q2
    have hlk : ks.length = j := by
      have := hd.len
      rw [List.length_take] at this
      omega
    refine wpAny_bind (wpAny_attempt (wpAny_mono (kb A _ s' σ H' xs[j] u kz[j] sb I' rx (mon _ _ _ _ x' (hD j _ _ hx hkj))) (fun r s2 q => ?_) fun _ _ z => z.elim))
    obtain ⟨z, H2, I2, x2, rz, hz⟩ := q
    dsimp only
    have hk2 := x2 _ _ hk'
    obtain ⟨zz, its, n, ri, li, nk⟩ := I2.lstM hk2
    have ef : Obj.mapSeq (·.push r) (seqObj "list" its.toArray n) = seqObj "list" (its ++ [r]).toArray (if (its.toArray.push r).size == its.toArray.size then n else n + 1) := by
      rw [← List.push_toArray]
      rfl
    have I3 := I2.lstUpd (f := Obj.mapSeq (·.push r)) (its' := its ++ [r]) (ys := ks ++ [z]) hk2 nk ef (ri.append (.cons rz .nil)) (by rw [List.length_append, List.length_singleton]; omega) s2.toks
    have ex : Ext H0 (upd H2 kS (.lst (ks ++ [z]))) := fun b o q => by
      rw [upd_ne (ne_of_none q n0)]
      exact x2 _ _ (x' _ _ q)
    have tk : kz.take (j + 1) = kz.take j ++ [kz[j]] := by
      rw [List.take_add_one, hkj]
      rfl
    refine wpAny_bind (listUpdate_at nk rfl (wpAny_pure ⟨rfl, _, ks ++ [z], I3, ex, upd_same, ?_⟩) (by rw [List.size_toArray]; omega) (by rw [Array.size_push, List.size_toArray]; omega))
    rw [tk]
    exact ((hd.nl (NL.of x2)).nl (nl_lst hk2)).snoc (hz.nl (nl_lst hk2))
  · obtain ⟨H', ks, I', x', hk', hd⟩ := hJ
    rw [show kz.take (0 + vs.length) = kz from List.take_of_length_le (by omega)] at hd
    obtain ⟨zz, its, n, ri, li, nk⟩ := I'.lstM hk'
    have hlk := hd.len
    refine wpAny_bind (listItems_at nk rfl (endJ I' h0 hp hk' nk ri rv hd.dp (by omega) hlz (by omega) hal hsk hu fun s2 J => h s2 H' (fun b o q => ?_) (I'.pin _ (List.mem_append_right _ (List.mem_cons_self ..))).2.1 J))
    rw [upd_ne (ne_of_none q n0)]
    exact x' _ _ q
/-- sorted(l, key = f) -/
theorem sortedJ {f : Addr} {l : Addr} {m : Nat} {D : V → PyData → Hp → Prop} {xs : List V} {kz : List PyData} {Q : VK} (kb : KeyB X m (.ref f) D) (hr : Room (m + 2) X.A) (mon : ∀ x k H H', Ext H H' → D x k H → D x k H') (I : L2.Inv X pins σ H s) (hl : SqL X.K H l xs) (hZ : xs.length < sizeLine)
    (hlz : kz.length = xs.length) (hal : PySem.W.AllAlike kz) (hsk : PySem.W.Sortable kz) (hdep : ∀ d, d ∈ kz → d.depth ≤ 8) (hD : ∀ (i : Nat) x k, xs[i]? = some x → kz[i]? = some k → D x k H)
    (q : ∀ (H' : Hp) (p : Addr), Ext H H' → H' p = some (.lst (srtV xs kz)) → H p = none → Q (.ref p) H') : wpAny (model X.prog X.w) X.A (call (.builtin "sorted") [.ref l] [(Str.ofString "key", .ref f)]) (EP X pins σ Q) X.xe s := by
  obtain ⟨vs, rv, pl, _⟩ := I.list hl
  have lv : vs.length = xs.length := rv.length.symm
  have sb : Sub X m X.A.in1.in1 := Sub.in1 (Sub.in1 ⟨hr, rfl⟩)
  refine PySem.W.sorted_of_sort pl.isList (by omega) (ksk_s1 _ _) (fun _ => ksk_l1 _ _) fun E' => ?_
  rw [ksk_t1]
  have na := PySem.W.copyHeap_at s.heap vs
  have hlt : @LT.lt Nat _ X.env.locals s.heap.objs.size := I.lt
  have above : @LE.le Nat _ X.s_0.heap.objs.size X.env.locals := I.ok.above
  generalize ea : s.heap.objs.size + 1 = a at na ⊢
  have ga : @Eq Nat (s.heap.objs.size + 1) a := ea
  obtain ⟨e1, na1⟩ : ∃ e1, ((PySem.W.copyHeap s.heap vs).update a (Obj.mapSeq fun _ => (#[] : Array Value))).get? a = some (seqObj "list" #[] e1) := ⟨_, get?_update_seq na fun _ => #[]⟩
  have kp : ∀ b u, s.heap.get? b = some u → ((PySem.W.copyHeap s.heap vs).update a (Obj.mapSeq fun _ => (#[] : Array Value))).get? b = some u := fun b u e => by
    have : @LT.lt Nat _ b s.heap.objs.size := Heap.lt_size e
    exact (Heap.get?_update_other _ _ (Nat.ne_of_gt (show @LT.lt Nat _ b a by omega))).trans (PySem.W.copyHeap_old e)
  have sz : ((PySem.W.copyHeap s.heap vs).update a (Obj.mapSeq fun _ => (#[] : Array Value))).objs.size = (PySem.W.copyHeap s.heap vs).objs.size := Heap.size_update ..
  have big : a < (PySem.W.copyHeap s.heap vs).objs.size := Heap.lt_size na
  generalize eh : (PySem.W.copyHeap s.heap vs).update a (Obj.mapSeq fun _ => (#[] : Array Value)) = h1 at na1 kp sz
  generalize ek : (h1.push (seqObj "tuple" vs.toArray 0)).objs.size = kS
  have sk : kS = h1.objs.size + 1 := by rw [← ek, size_push']
  have nk : ((h1.push (seqObj "tuple" vs.toArray 0)).push (seqObj "list" #[] 0)).get? kS = some (seqObj "list" #[] 0) := by
    rw [← ek]
    exact Heap.get?_push_size _ rfl
  have kp2 : ∀ b u, h1.get? b = some u → ((h1.push (seqObj "tuple" vs.toArray 0)).push (seqObj "list" #[] 0)).get? b = some u := fun b u e => Heap.get?_push_of_some _ (Heap.get?_push_of_some _ e)
  have hkn : H kS = none := I.hok.fresh (by omega)
  have I1 := I.laid (t' := s.toks) (a := kS) (o := .lst []) (fun b u e => kp2 b u (kp b u e)) (by omega) ⟨Nat.zero_le _, [], 0, .nil, nk⟩
  have pa : ∀ p ∈ X.pn ++ pins, p.1 ≠ a := fun p hp z => by
    have : @LT.lt Nat _ p.1 s.heap.objs.size := Heap.lt_size (I.pin p hp).1
    rw [z] at this
    omega
  have I2 : L2.Inv X ((a, seqObj "list" #[] e1) :: pins) σ (upd H kS (.lst [])) { s with heap := (h1.push (seqObj "tuple" vs.toArray 0)).push (seqObj "list" #[] 0), toks := s.toks } := I1.pins_of fun p hp => by
    rcases List.mem_cons.mp hp with rfl | hp
    · refine ⟨kp2 _ _ na1, ?_, Nat.ne_of_gt (show @LT.lt Nat _ X.env.locals a by omega), fun z => ?_, fun v z => by cases z⟩
      · rw [upd_ne (show a ≠ kS by omega)]
        exact I.hok.fresh (by show _ ≤ a; omega)
      · exact I.nofs (show s.heap.objs.size ≤ a by omega) z
    · exact I1.pin p (List.mem_append_right _ hp)
  have ru := sb.room.units
  have fin : wpAny (model X.prog X.w) X.A.in1.in1 (ksk_rest a (.ref f) false vs.toArray e1 (.ref kS)) (fun g s' => g = .done (.ret .none) ∧ EP X pins σ Q (.ref a) s') E' { s with heap := (h1.push (seqObj "tuple" vs.toArray 0)).push (seqObj "list" #[] 0), toks := s.toks } :=
    restJ (H0 := H) kb sb I2 (by omega) pa (Ext.upd hkn) hkn upd_same rv hlz hZ hal hsk (fun d hd => by have := hdep d hd; omega) mon hD fun s' H' x hn J => ⟨rfl, .ref a, _, J, rfl, q _ a (fun b o e => ?_) upd_same (I.hok.fresh (by omega))⟩
  · unfold ksk_tree
    refine wpAny_bind (listItems_at na rfl (wpAny_bind (listUpdate_at na rfl ?_ (by rw [List.size_toArray]; omega) (Nat.zero_le _))))
    show wpAny _ _ _ _ _ { s with heap := (PySem.W.copyHeap s.heap vs).update a (Obj.mapSeq fun _ => (#[] : Array Value)) }
    rw [eh]
    refine wpAny_bind (seqEpoch_at na1 rfl (wpAny_bind (wpAny_newTuple (wpAny_bind (wpAny_newList (wpAny_holding ?_) (Nat.zero_le _))) (by show vs.length ≤ _; omega))))
    show wpAny _ _ (ksk_rest a (.ref f) false vs.toArray e1 (.ref (h1.push (seqObj "tuple" vs.toArray 0)).objs.size)) _ _ _
    rw [ek]
    exact fin
  · have : b ≠ a := ne_of_none (x b o e) (by rw [upd_ne (show a ≠ kS by omega)]; exact hn)
    rw [upd_ne this]
    exact x b o e
end
end KA
/-! tuples of whole numbers, truths and texts: a >= b -/
namespace KA
open PySem PySem.Spec PyProof.Rows L2
theorem not_lt_ge (a b : Int) : decide (b ≤ a) = !decide (a < b) := by
  by_cases h : a < b
  · rw [decide_eq_true h, decide_eq_false (by omega)]; rfl
  · rw [decide_eq_false h, decide_eq_true (by omega)]; rfl
/-- the first place that differs decides -/
theorem lexAt_data {ds es : List PyData} (hl : ds.length = es.length) (hal : PySem.W.alikeAll ds es = true) : ∀ (k i : Nat), i + k = ds.length →
    Ob.lexAt (fun j => PyData.eqv (ds.getD j .none) (es.getD j .none)) (fun j => !PySem.W.dataLt (ds.getD j .none) (es.getD j .none)) true i k = !PyProof.Rows.lexLt itemOrd (PySem.W.keyToksAll (ds.drop i)) (PySem.W.keyToksAll (es.drop i)) := by
  have al : ∀ (i : Nat), PySem.W.alikeAll (ds.drop i) (es.drop i) = true := by
    intro i
    induction i generalizing ds es with
    | zero => exact hal
    | succ i ih =>
      cases ds with
      | nil =>
        rw [List.drop_nil]
        cases es with
        | nil => rfl
        | cons y ys => cases hl
      | cons x xs =>
        cases es with
        | nil => cases hl
        | cons y ys => exact ih (by simpa using hl) (PySem.W.alike_all_cons hal).2
  intro k
  induction k with
  | zero =>
    intro i h
    rw [List.drop_of_length_le (show ds.length ≤ i by omega), List.drop_of_length_le (show es.length ≤ i by omega)]
    rfl
  | succ k ih =>
    intro i h
    have h1 : i < ds.length := by omega
    have h2 : i < es.length := by omega
    have e1 : ds.drop i = ds[i] :: ds.drop (i + 1) := List.drop_eq_getElem_cons h1
    have e2 : es.drop i = es[i] :: es.drop (i + 1) := List.drop_eq_getElem_cons h2
    have g1 : ds.getD i .none = ds[i] := by rw [List.getD_eq_getElem?_getD, List.getElem?_eq_getElem h1]; rfl
    have g2 : es.getD i .none = es[i] := by rw [List.getD_eq_getElem?_getD, List.getElem?_eq_getElem h2]; rfl
    have a1 := al i
    rw [e1, e2] at a1
    have a2 := (PySem.W.alike_all_cons a1).1
    rw [Ob.lexAt_succ, e1, e2]
    rw [g1, g2]
    cases q : PyData.eqv ds[i] es[i] with
    | true => rw [if_pos rfl, ih (i + 1) (by omega), PySem.W.dataLt_all_yes a2 q]
    | false => rw [if_neg Bool.false_ne_true, PySem.W.dataLt_all_no a2 q]
def rGeK (K : PySem.W.Frag) : R2 := fun x y H Q => ∃ (a b : Addr) (xs ys : List V) (ds es : List PyData), x = .ref a ∧ y = .ref b ∧ SqT K H a xs ∧ SqT K H b ys ∧ KFs xs ds ∧ KFs ys es ∧ ds.length = es.length ∧ PySem.W.alikeAll ds es = true ∧ Q (.bl (!PySem.W.dataLt (.tuple ds) (.tuple es))) H
theorem KFs.len {xs : List V} {ds : List PyData} : KFs xs ds → xs.length = ds.length
  | .nil => rfl
  | .cons _ t => congrArg Nat.succ t.len
/-- the items at a place -/
theorem kfs_at : ∀ {xs : List V} {ds : List PyData} {us : List Value}, KFs xs ds → Vals xs us → ∀ (j : Nat) (h : j < us.length), ∃ v, KF v (ds.getD j .none) ∧ RelV v us[j]
  | _, _, _, .nil, .nil, j, h => by simp at h
  | _, _, _, .cons k t, .cons r rs, 0, h => ⟨_, k, r⟩
  | _, _, _, .cons k t, .cons r rs, j + 1, h => kfs_at t rs j (by simpa using h)
theorem alikeAll_at : ∀ {ds es : List PyData}, PySem.W.alikeAll ds es = true → ∀ (j : Nat), j < ds.length → j < es.length → PySem.W.alike (ds.getD j .none) (es.getD j .none) = true
  | x :: xs, y :: ys, h, 0, _, _ => (PySem.W.alike_all_cons h).1
  | x :: xs, y :: ys, h, j + 1, h1, h2 => alikeAll_at (PySem.W.alike_all_cons h).2 j (by simpa using h1) (by simpa using h2)
theorem kf_reads {h : Heap} {v : V} {d : PyData} {u : Value} (k : KF v d) (r : RelV v u) : Reads h u d [] := by
  cases k with
  | int i => obtain ⟨t, rfl⟩ := r; exact Reads.int i t
  | bl b => cases r; exact Reads.bool b
  | str x => obtain ⟨t, rfl⟩ := r; exact Reads.str x t
theorem kf_depth {v : V} {d : PyData} (k : KF v d) : d.depth = 0 := by
  cases k <;> rfl
theorem ge_flat {A : Around} {s : Shared} {v v' : V} {d d' : PyData} {u u' : Value} (k : KF v d) (k' : KF v' d') (r : RelV v u) (r' : RelV v' u') (al : PySem.W.alike d d' = true) : Ob.RcOp .GtE A s u u' (!PySem.W.dataLt d d') := by
  cases k with
  | int i =>
    cases k' with
    | int j =>
      obtain ⟨t, rfl⟩ := r
      obtain ⟨t', rfl⟩ := r'
      rw [PySem.W.dataLt_int, ← not_lt_ge]
      exact Ob.RcOp.ge_int _ _ _ _
    | bl b => cases al
    | str x => cases al
  | bl b =>
    cases k' with
    | int j => cases al
    | bl b' =>
      cases r
      cases r'
      rw [PySem.W.dataLt_bool, ← not_lt_ge]
      exact fun _ _ _ _ h => PyProof.Rows.ge_bool h
    | str x => cases al
  | str x =>
    cases k' with
    | int j => cases al
    | bl b => cases al
    | str x' =>
      obtain ⟨t, rfl⟩ := r
      obtain ⟨t', rfl⟩ := r'
      rw [PySem.W.dataLt_str]
      exact fun _ _ _ _ h => PySem.P.ge_str h
section
variable {X : Cx}
theorem op_geK (hu : X.A.units + 64 < cLine) : OpR X (compareOp .GtE) (rGeK X.K) := by
  intro pins s σ H x y v u Q I rx ry h
  obtain ⟨a, b, xs, ys, ds, es, rfl, rfl, ha, hb, kx, ky, hl, hal, q⟩ := h
  cases rx
  cases ry
  obtain ⟨its, r1, p1, _⟩ := I.tuple ha
  obtain ⟨its2, r2, p2, _⟩ := I.tuple hb
  have z1 : its.toArray.size = ds.length := by rw [List.size_toArray, ← r1.length, kx.len]
  have z2 : its2.toArray.size = ds.length := by rw [List.size_toArray, ← r2.length, ky.len, hl]
  have at1 : ∀ j (h1 : j < its.toArray.size), ∃ v, KF v (ds.getD j .none) ∧ RelV v its.toArray[j] := fun j h1 => by simpa using kfs_at kx r1 j (by simpa using h1)
  have at2 : ∀ j (h1 : j < its2.toArray.size), ∃ v, KF v (es.getD j .none) ∧ RelV v its2.toArray[j] := fun j h1 => by simpa using kfs_at ky r2 j (by simpa using h1)
  have R := Ob.RcOp.tuples_ge (A := X.A) (s := s) (e := fun j => PyData.eqv (ds.getD j .none) (es.getD j .none)) (r := fun j => !PySem.W.dataLt (ds.getD j .none) (es.getD j .none)) p1 p2 (by omega) (fun j h1 h2 => by
    obtain ⟨v1, k1, q1⟩ := at1 j h1
    obtain ⟨v2, k2, q2⟩ := at2 j h2
    refine PySem.W.eqAt_alike _ _ _ s _ _ [] [] (kf_reads k1 q1) (kf_reads k2 q2) (alikeAll_at hal j (by omega) (by omega)) ?_
    have d0 : (ds.getD j .none).depth = 0 := kf_depth k1
    rw [d0, Nat.zero_min]
    show X.A.units + 1 + 0 < cLine
    omega) (fun j h1 h2 _ => by
    obtain ⟨v1, k1, q1⟩ := at1 j h1
    obtain ⟨v2, k2, q2⟩ := at2 j h2
    exact ge_flat k1 k2 q1 q2 (alikeAll_at hal j (by omega) (by omega)))
  rw [z1, z2, Nat.min_self, decide_eq_true (Nat.le_refl _), lexAt_data hl hal ds.length 0 (Nat.zero_add _), List.drop_zero, List.drop_zero, ← PySem.W.dataLt_tuple] at R
  exact R X.prog X.w X.xe (EP X pins σ Q) ⟨.bl _, H, I, rfl, q⟩
theorem op_geKK {K' : PySem.W.Frag} (hK : X.K = K') (hu : X.A.units + 64 < cLine) : OpR X (compareOp .GtE) (rGeK K') := by
  subst hK
  exact op_geK hu
end
end KA
namespace KA
open PySem PySem.Spec PyProof.Rows L2
/-! defs that are called where nothing is being shown (no guard stands): within them lists and tuples are shown in full -/
structure FnG (P : Program) (w : World) (K : PySem.W.Frag) (mg : Str → Option Value) (base : Heap) (CX : CXT) (k : Nat) (f : Addr) (fd : FuncData) (ps : List Str) (sp : Sp) : Prop where
  ln : ∀ vs H Q E, sp vs H Q E → vs.length = ps.length
  go : ∀ (A : Around) (st : List Env) (s : Shared) (H : Hp) (gs : Args) (us : List Value) (vs : List V) (Q : VK) (E : XK), Room k A → A.guards = some [] → Env0 P w K mg base A st s H → BindsTo s fd gs (ps.zip us) → Vals vs us → sp vs H Q E →
    codeAny (model P w) A (.call (.ref f) gs) (CR CX st P w H s Q E) s
section
variable {P : Program} {w : World} {K : PySem.W.Frag} {mg : Str → Option Value} {base : Heap} {CX : CXT} {k : Nat} {f : Addr} {fd : FuncData} {ps : List Str} {sp : Sp}
theorem fng_any (F : FnOk P w K mg base CX k f fd ps sp) : FnG P w K mg base CX k f fd ps sp := ⟨F.len, fun A st s H gs us vs Q E rm _ en bd vl hs => F.run A st s H gs us vs Q E rm en bd vl hs⟩
theorem FnG.mono {j : Nat} (F : FnG P w K mg base CX j f fd ps sp) (h : j ≤ k) : FnG P w K mg base CX k f fd ps sp := ⟨F.ln, fun A st s H gs us vs Q E rm => F.go A st s H gs us vs Q E (rm.mono h)⟩
/-- a def by its body, where no guard stands -/
theorem fng_of {name qual : Str} {params : Arguments} {body : List Stmt} {scope : Scope} {dV kV doc pm cdv ct oc : Value} {an od : Option Addr} {osl : Array (Option Value)} {N : List Str}
    (at_ : K.lookup f = some ⟨oc, od, .func (PySem.W.fnOf name qual params body scope dV kV doc pm an cdv ct), osl⟩) (cd : PySem.W.codeIn K cdv qual = true) (sc : FnScope N ps scope) (ln : ∀ vs H Q E, sp vs H Q E → vs.length = ps.length)
    (bd : ∀ (A : Around) (st : List Env) (s : Shared) (H : Hp) (vs : List V) (Q : VK) (E : XK), Room k (A.deeper (envOfC qual scope s.heap.objs.size f cdv)) → (A.deeper (envOfC qual scope s.heap.objs.size f cdv)).guards = some [] → sp vs H Q E →
      ∃ t, PSs (cxOf CX P w K mg base N qual scope f cdv A st s H E) body t ∧ t { nx := fun _ G => Q .non G, rt := Q } (L2.start N vs) H) :
    FnG P w K mg base CX (k + 1) f (PySem.W.fnOf name qual params body scope dV kV doc pm an cdv ct) ps sp := by
  refine ⟨ln, fun A st s H gs us vs Q E rm gd en bi vl hs => ?_⟩
  have inK : K.In s.heap := en.mod.kin.keeps fun b o z => (en.bs b o z).1
  have noL : s.heap.NoLimit := en.mod.nolimit.keeps fun b o z => (en.bs b o z).1
  have kd : ∀ y ∈ ps.zip us, scope.names.lookup y.1 = some .local ∨ (scope.names.lookup y.1 = some .cell ∧ ((cellsFrom (s.heap.objs.size + 1) scope.names []).lookup y.1).isSome = true) := by
    rintro ⟨n, v⟩ hy
    exact (sc.par n (List.of_mem_zip hy).1).imp id fun z => ⟨z, PySem.W.cellsFrom_some _ _ _ (.inl z)⟩
  refine codeAny_call_function rm.depth (inK _ _ at_) rfl sc.co sc.gen rfl (PySem.W.codeRec_of inK cd) (bi _ _ _ _ (wpAny_newFunctionEnv_cells sc.kind kd ?_))
  rintro env rfl s1 x
  refine ⟨noL.keeps x.toInCall.keep, codeAny_func ?_⟩
  obtain ⟨t, pt, rd⟩ := bd A st s H vs Q E (rm.deeper _) gd hs
  refine wpAny_mono (pt.run [] s1 (L2.start N vs) H _ (inv_start sc rm.hd en (ln _ _ _ _ hs) vl x) rd) (fun fl s2 z => ?_) fun _ _ z => z
  cases fl with
  | ret u =>
    obtain ⟨v, σ2, G, J, rv, q⟩ := z
    exact ⟨v, G, J.os, J.bare, J.base, J.hok, rv, q⟩
  | next =>
    obtain ⟨σ2, G, J, q⟩ := z
    exact ⟨.non, G, J.os, J.bare, J.base, J.hok, rfl, q⟩
  | brk =>
    obtain ⟨_, _, _, q⟩ := z
    exact q.elim
  | cont =>
    obtain ⟨_, _, _, q⟩ := z
    exact q.elim
end
theorem fun_okG {P : Program} {w : World} {K : PySem.W.Frag} {mg : Str → Option Value} {base : Heap} {x qual : Str} {st : Stmt} {f : Addr} {fd : FuncData} {N ps : List Str} {k : Nat} {sp : Sp} (F : Fun K x qual st f fd) (sc : FnScope N ps (defScope st)) (ln : ∀ vs H Q E, sp vs H Q E → vs.length = ps.length)
    (bd : ∀ (cdv : Value) (A : Around) (outer : List Env) (s : Shared) (H : Hp) (vs : List V) (Q : VK) (E : XK), Room k (A.deeper (envOfC qual (defScope st) s.heap.objs.size f cdv)) → (A.deeper (envOfC qual (defScope st) s.heap.objs.size f cdv)).guards = some [] → sp vs H Q E →
      ∃ t, PSs (cxOf CX0 P w K mg base N qual (defScope st) f cdv A outer s H E).nox (defBody st) t ∧ t { nx := fun _ G => Q .non G, rt := Q } (L2.start N vs) H) : FnG P w K mg base CX0 (k + 1) f fd ps sp := by
  obtain ⟨oc, od, kV, doc, pm, an, cdv, ct, osl, rfl, lk, hcd⟩ := F.ex
  refine fng_of lk hcd sc ln fun A outer s H vs Q E rm gd hs => ?_
  obtain ⟨t, h, q⟩ := bd cdv A outer s H vs Q E rm gd hs
  exact ⟨t, h.nox, q⟩
section
variable {X : Cx} {CX : CXT} {k : Nat} {f C : Addr} {fd : FuncData} {ps : List Str} {ds : List Value} {dvs : List V} {sp : Sp} {E : XK} {x m : Str} {p pos apos : Pos} {e o : Expr} {es : List Expr} {t : TA} {ta : TE}
theorem run_G {pins : List (Addr × Obj)} {σ : L2.St} {H : Hp} {s : Shared} {Q : VK} {us : List Value} {vs : List V} (F : FnG X.prog X.w X.K X.mg X.base CX k f fd ps sp) (rm : Room k X.A) (gd : X.A.guards = some []) (hb : Binds X.K fd ps ds) (hd : Vals dvs ds) (hx : Passes CX X E)
    (I : Inv X pins σ H s) (r : Vals vs us) (h : sp (vs ++ dvs) H Q E) : wpAny (model X.prog X.w) X.A (call (.ref f) us) (EP X pins σ Q) X.xe s := by
  have all := r.append hd
  refine wpAny_call (codeAny_mono (F.go X.A X.stack s H ⟨us, []⟩ (us ++ ds) (vs ++ dvs) Q E rm gd I.env0 (hb s us I.kIn (all.length.symm.trans (F.ln _ _ _ _ h))) all h) fun r s2 z => ?_)
  match r, z with
  | .error er, z => exact hx pins σ H s er s2 I z
  | .ok (.ret u), z => exact I.after z
  | .ok .next, z => exact z.elim
  | .ok .brk, z => exact z.elim
  | .ok .cont, z => exact z.elim
theorem pe_callG (F : FnG X.prog X.w X.K X.mg X.base CX k f fd ps sp) (rm : Room k X.A) (gd : X.A.guards = some []) (hg : Gl X x) (hm : X.mg x = some (.ref f)) (hk : PySem.W.keepIn X.K (.ref f) = true) (hb : Binds X.K fd ps ds) (hd : Vals dvs ds) (hx : Passes CX X E)
    (ha : PA X (e :: es) t) (db : (x == ("__debug__" : Str)) = false := by decide) (he : starEach (e :: es) X.env = (false, eval e X.env) :: starEach es X.env := by rfl) (hpl : (backTo pos (starEach es X.env)).any (·.1) = false := by rfl) :
    PE X (.Call (.Name x p) (e :: es) [] pos) (tCall sp dvs E t) :=
  ⟨fun pins s σ H Q I h => wpAny_Call_Name_kw (ld_glob I hg hm (PySem.W.callWith_K (h₀ := X.base) I.ok.mod.kin hk (thn (ha.run pos pins s σ H _ I h) fun _ _ ⟨_, _, I1, r, q⟩ => ⟨I1.kIn, run_G F rm gd hb hd hx I1 r q⟩) he hpl) db)⟩
theorem pe_meth0G {pl : Sem Bool} (he : PE X o ta) (c : Cls X.K C) (hm : Meth X.K C m f) (F : FnG X.prog X.w X.K X.mg X.base CX k f fd ps sp) (rm : Room k X.A) (gd : X.A.guards = some []) (hb : Binds X.K fd ps ds) (hd : Vals dvs ds) (hx : Passes CX X E)
    (ht : eval (.Call (.Attribute o m apos) [] [] pos) X.env = (do
      let w ← eval o X.env
      standAt apos.atName
      let (g, fst) ← holding [w] (getMethod w m pl)
      callWith pos g fst (backTo pos (starEach [] X.env)) (backToKw pos (keywordEach [] X.env))) := by rfl) :
    PE X (.Call (.Attribute o m apos) [] [] pos) (tMeth C m sp dvs E ta tNil) := by
  constructor
  intro pins s σ H Q I h
  refine PySem.W.methodCall_KW (pl := pl) (thn (he.run pins s σ H _ I h) fun u s1 ⟨x, H1, I1, rx, a, dx, fs, ex, ea, lk, q⟩ => ?_) ht
  subst ex
  cases rx
  exact getmeth_ok I1 ea c hm lk (PySem.W.callWith_K0 (first := [.ref a]) I1.kIn hm.kp (run_G (us := [.ref a]) (vs := [.ref a]) F rm gd hb hd hx I1 (.cons rfl .nil) q))
end
/-! repr of data -/
section
variable {X : Cx}
def rReprD (K : PySem.W.Frag) : List V → Hp → VK → Prop := fun xs H Q => ∃ (a : Addr) (d : PyData), xs = [.ref a] ∧ Dp K H (.ref a) d ∧ PyData.showable d = true ∧ d.hasDict = false ∧ d.depth ≤ 32 ∧ d.shown.length ≤ sizeLine ∧ Q (.str d.shown) H
theorem call_reprD (gd : X.A.guards = some []) (hu : X.A.units + 64 < cLine) : CallR X (.builtin "repr") (rReprD X.K) := by
  intro pins s σ H xs us Q I r h
  obtain ⟨a, d, ex, hd, hs, hn, hde, hz, q⟩ := h
  subst ex
  cases r with
  | cons r1 r2 =>
    cases r2
    cases r1
    obtain ⟨as, rd⟩ := Dp.reads I d _ _ hd rfl
    exact repr_of_reads' rd hs (fun z => by rw [hn] at z; cases z) gd (by omega) (fun _ _ z => z) (fun g u tk kp => ⟨.str d.shown, H, I.kept (t' := tk) kp, ⟨u, rfl⟩, q⟩) hz
end
/-! the law itself: it is called where no guard stands -/
section
variable {P : Program} {w : World} {K : PySem.W.Frag} {mg mb : Str → Option Value} {CX : CXT} {k : Nat} {fa a : Addr} {fd : FuncData} {x : Str} {sp : Sp} {s1 : Shared} {vs : List Value} {ns : List Int}
/-- .. from a heap of which the script alone may be told -/
theorem law_from {H : Hp} (inK : K.In s1.heap) (gl : s1.heap.Ns mainGlobals mg) (bl : s1.heap.Ns builtinsNs mb) (bb : ∀ y : Str, y ≠ "__name__" → mb y = bootBuiltins y) (nolim : s1.heap.NoLimit) (nog : s1.gens = #[])
    (isl : ∀ b u, H b = some u → (∃ vs' n, ∀ o, s1.heap.get? b = some o → o.data = .seq vs' n) ∧ K.lookup b = none) (frz : ∀ b u, H b = some u → ∃ o ys, u = .frz o (.lst ys)) (rm : Room k callerA)
    (F : ∀ base : Heap, K.In base → base.Ns mainGlobals mg → FnG P w K mg base CX k fa fd [x] sp) (bi : ∀ (s : Shared) (u : Value), BindsTo s fd ⟨[u], []⟩ [(x, u)]) (ok : HOk P w H s1.heap)
    (pr : sp [.ref a] H (fun v _ => v = .bl true) fun _ _ _ => False) (nox : ∀ e s2, CX [] H s1 (fun _ _ _ => False) e s2 → False) :
    codeAny (model P w) callerA (.call (.ref fa) ⟨[.ref a], []⟩) (fun r s2 => r = .ok (.ret (.bool true)) ∧ OldK s1.heap s2.heap ∧ s2.os = s1.os ∧ AllBare s2.gens) s1 := by
  have sees : ∀ {b : Addr} {o : Obj}, s1.heap.get? b = some o → H b = none → (hidT s1.heap H).get? b = some o := fun z n => hidT_get z n
  have dicts : ∀ {b : Addr} {mm : Str → Option Value}, s1.heap.Ns b mm → (hidT s1.heap H).Ns b mm := by
    rintro b mm ⟨o, es, ep, z, dt, rest⟩
    refine ⟨o, es, ep, sees z ?_, dt, rest⟩
    cases hb : H b with
    | none => rfl
    | some u =>
      obtain ⟨⟨vs', n, is⟩, _⟩ := isl b u hb
      have := (is o z).symm.trans dt
      cases this
  have inB : K.In (hidT s1.heap H) := fun b o z => sees (inK b o z) (by
    cases hb : H b with
    | none => rfl
    | some u =>
      rw [(isl b u hb).2] at z
      cases z)
  have md : Mod K mg (hidT s1.heap H) := by
    obtain ⟨mc, n1, n2⟩ := nolim
    exact ⟨inB, dicts gl, ⟨mb, dicts bl, bb⟩, mc, dicts n1, n2⟩
  have en : Env0 P w K mg (hidT s1.heap H) callerA [] s1 H := ⟨rfl, md, fun b o z => of_hidT z, Nat.le_of_eq (hidT_size _ _), trivial, fun b z => (nomatch (show b ∈ ([] : List Addr) from z)), ok, .of_eq nog⟩
  refine codeAny_mono ((F _ inB (dicts gl)).go callerA [] s1 H ⟨[.ref a], []⟩ [.ref a] [.ref a] _ _ rm rfl en (bi s1 (.ref a)) (.cons rfl .nil) pr) fun r s2 z => ?_
  match r, z with
  | .error er, z => exact (nox er s2 z).elim
  | .ok .next, z => exact z.elim
  | .ok .brk, z => exact z.elim
  | .ok .cont, z => exact z.elim
  | .ok (.ret u), z =>
    obtain ⟨v, G, eos, bare, un, ok2, rel, ev⟩ := z
    have ev : v = .bl true := ev
    subst ev
    obtain rfl : u = Value.bool true := rel
    refine ⟨rfl, OldK.of_keep fun b o hb => ?_, eos, bare⟩
    cases hH : H b with
    | none => exact un.keep b o hb hH (fun z => (nomatch (show b ∈ ([] : List Addr) from z))) (by simp)
    | some u =>
      obtain ⟨ob, ys, rfl⟩ := frz b u hH
      have now := (ok2 b _ (un.frzs b ob _ hH)).1
      have was := (ok b _ hH).1
      exact (Option.some.inj (hb.symm.trans was)) ▸ now
theorem law_callG (inK : K.In s1.heap) (gl : s1.heap.Ns mainGlobals mg) (bl : s1.heap.Ns builtinsNs mb) (bb : ∀ y : Str, y ≠ "__name__" → mb y = bootBuiltins y) (nolim : s1.heap.NoLimit) (nog : s1.gens = #[])
    (ha : s1.heap.get? a = some { cls := .type "list", data := .seq vs.toArray }) (hi : IntsAre vs ns) (hl : ns.length ≤ sizeLine) (rm : Room k callerA)
    (F : ∀ base : Heap, K.In base → base.Ns mainGlobals mg → FnG P w K mg base CX k fa fd [x] sp) (bi : ∀ (s : Shared) (u : Value), BindsTo s fd ⟨[u], []⟩ [(x, u)])
    (pr : ∀ H : Hp, Only H → SqL K H a (ns.map V.int) → sp [.ref a] H (fun v _ => v = .bl true) fun _ _ _ => False) (nox : ∀ H e s2, CX [] H s1 (fun _ _ _ => False) e s2 → False) :
    codeAny (model P w) callerA (.call (.ref fa) ⟨[.ref a], []⟩) (fun r s2 => r = .ok (.ret (.bool true)) ∧ OldK s1.heap s2.heap ∧ s2.os = s1.os ∧ AllBare s2.gens) s1 := by
  have rel := vals_ints hi
  cases own : K.lookup a with
  | some o =>
    obtain rfl := Option.some.inj (ha.symm.trans (inK a o own))
    have no : ∀ {p : Prop} {u : HO}, (none : Option HO) = some u → p := fun z => nomatch z
    exact law_from (H := fun _ => none) inK gl bl bb nolim nog (fun b u z => no z) (fun b u z => no z) rm F bi (fun b u z => no z) (pr _ (fun _ => .inl rfl) (.inr ⟨_, vs.toArray, _, own, rfl, rfl, rfl, by rw [List.size_toArray, hi.length]; exact hl, by simpa using rel⟩)) (nox _)
  | none =>
    have one : ∀ {b : Addr} {u : HO}, (fun b => if b = a then some (.frz { cls := .type "list", data := .seq vs.toArray } (.lst (ns.map V.int))) else none : Hp) b = some u → b = a ∧ u = .frz { cls := .type "list", data := .seq vs.toArray } (.lst (ns.map V.int)) := fun {b u} z => by
      by_cases hb : b = a
      · exact ⟨hb, (Option.some.inj ((if_pos hb).symm.trans z)).symm⟩
      · exact nomatch (if_neg hb).symm.trans z
    refine law_from (H := fun b => if b = a then some (.frz { cls := .type "list", data := .seq vs.toArray } (.lst (ns.map V.int))) else none) inK gl bl bb nolim nog (fun b u z => ?_) (fun b u z => ⟨_, _, (one z).2⟩) rm F bi (fun b u z => ?_) (pr _ (fun b => ?_) (.inl (.inr ⟨_, if_pos rfl⟩))) (nox _)
    · obtain ⟨rfl, _⟩ := one z
      exact ⟨⟨_, _, fun o ho => by rw [← Option.some.inj (ha.symm.trans ho)]⟩, own⟩
    · obtain ⟨rfl, rfl⟩ := one z
      exact ⟨ha, by rw [List.length_map]; exact hl, vs, _, rel, ha⟩
    · by_cases hb : b = a
      · exact .inr ⟨_, _, if_pos hb⟩
      · exact .inl (if_neg hb)
end
theorem walk_G {l : PySem.W.OpenLaw} {n k : Nat} {q : Program} {loose : List Str} {XP : (Str → Option Value) → Heap → Prop} {YP : World → Heap → Prop} {d : DefRec} {K : Params → PySem.W.Frag} {CX : World → CXT} {sp : World → Sp} {x : Str}
    (hn : l.most = some n) (hn2 : n ≤ sizeLine) (hdf : d.params.defaults = []) (rm : Room k callerA) (hY : ∀ (w : World) (h : Heap), YP w h → (K w.params).In h)
    (F : ∀ (w : World) (mg : Str → Option Value) (fa : Addr) (h : Heap), (K w.params).In h → h.Ns mainGlobals mg → mg d.name = some (.ref fa) → ∃ fd : FuncData, (∀ (s : Shared) (u : Value), BindsTo s fd ⟨[u], []⟩ [(x, u)]) ∧ ∀ base : Heap, (K w.params).In base → base.Ns mainGlobals mg → FnG l.prog w (K w.params) mg base (CX w) k fa fd [x] (sp w))
    (pr : ∀ (w : World) (H : Hp) (a : Addr) (ns : List Int), ns.length ≤ n → Only H → SqL (K w.params) H a (ns.map V.int) → sp w [.ref a] H (fun v _ => v = .bl true) fun _ _ _ => False)
    (nox : ∀ (w : World) (H : Hp) (s : Shared) (e : Value) (s2 : Shared), CX w [] H s (fun _ _ _ => False) e s2 → False) : PySem.W.WalkO q loose XP YP l.row.toRowW d [] (fun f vs => PySem.call f vs) :=
  Att.attach_call hn hdf fun w _ s1 mg _ fa _ _ _ _ a _ ns G Y _ _ _ hmg hobj hints hlen hg => by
    obtain ⟨fd, hb, hF⟩ := F w mg fa _ (hY w _ Y) G.T.g hmg
    exact law_callG (hY w _ Y) G.T.g G.T.b G.T.builtins G.T.nolimit hg hobj hints (Nat.le_trans hlen hn2) rm hF hb (fun H hO hS => pr w H a ns hlen hO hS) fun H e s2 => nox w H s1 e s2
end KA
namespace KA
open PySem PySem.Spec PySem.W PyProof.Rows
section
variable {prog : Program} {w : World} {A : Around} {E : Value → Shared → Prop} {s : Shared} {K : Frag} {x C f dx : Addr} {ox : Obj} {od : Option Obj} {b tb : Value}
theorem ifBound_objNe {M : Model} {args : List Value} {Q : Option Value → Shared → Prop} (X : K.In s.heap) (I : InstAt s.heap x ox C od) (hs : findIn K (.ref C) "__ne__" = some (some (.builtin "object.__ne__")))
    (h : wpAny M A (call (.builtin "object.__ne__") (.ref x :: args)) (fun v => Q (some v)) E s) : wpAny M A (callSpecialIfBound? (.ref x) "__ne__" args) Q E s := by
  simp only [callSpecialIfBound?, bindSpecialIfBound?]
  refine wpAny_holding (wpAny_bind (wpAny_bind (wpAny_bind (I.type.here ((looks_findIn X hs).here ?_)))))
  refine wpAny_bind (wpAny_askSetting (wpAny_ite ?_))
  have fin : wpAny M A (call (.builtin "object.__ne__") ([.ref x] ++ args) >>= fun v => pure (some v)) Q E s := wpAny_bind (wpAny_mono h (fun v s' h' => wpAny_pure h') fun _ _ h' => h')
  split
  · exact wpAny_bind (wpAny_of_eq (F.cmp_object.ne.bind _) (wpAny_pure (by exact fin)))
  · exact wpAny_tryCatch (wpAny_bind (wpAny_of_eq (F.cmp_object.ne.bind _) (wpAny_pure (by exact fin))))
theorem entry_objNe {Q : Fin → Shared → Prop} (hu : A.units < cLine) (X : K.In s.heap) (I : InstAt s.heap x ox C od) (hs : findIn K (.ref C) "__eq__" = some (some (.ref f))) (hf : isFn K (.ref f) = true)
    (h : wpAny (model prog w) A (call (.ref f) [.ref x, b]) (fun r s' => ∃ v, r = .bool v ∧ Q (.done (.ret (.bool (!v)))) s') E s) : wpAny (model prog w) A (Builtin.«object.__ne__» ⟨[.ref x, b], []⟩) Q E s := by
  unfold Builtin.«object.__ne__»
  repeat (first
    | with_reducible refine wpAny_cRoomFor hu ?_
    | (refine wpAny_bind (m := callSpecialIfBound? (.ref x) (Str.ofString "__eq__") [b])
        (ifBound_K X I hs hf (wpAny_mono h (fun r s' hr => by
          obtain ⟨v, rfl, hq⟩ := hr
          repeat (first | exact hq | exact wpAny_pure hq | exact wpAny_truthy_bool hq | (refine wpAny_bind (m := truthy (.bool _)) (wpAny_truthy_bool ?_)) | wp_step)) fun _ _ e => e)))
    | wp_step)
theorem ne_own {Q : Value → Shared → Prop} (hu : A.units < cLine) (hu1 : A.in1.units < cLine) (X : K.In s.heap) (I : InstAt s.heap x ox C od) (hb : Looks (model prog w) s.heap (typeOf b) tb) (hn : notFirst K C tb = true) (hm : mroIn K C (.type "object") = some true)
    (hne : findIn K (.ref C) "__ne__" = some (some (.builtin "object.__ne__"))) (hs : findIn K (.ref C) "__eq__" = some (some (.ref f))) (hf : isFn K (.ref f) = true)
    (h : wpAny (model prog w) A.in1 (call (.ref f) [.ref x, b]) (fun r s' => ∃ v, r = .bool v ∧ Q (.bool (!v)) s') E s) : wpAny (model prog w) A (richCompare .NotEq (.ref x) b) Q E s := by
  have one : wpAny (model prog w) A (tryCompare (.ref x) "__ne__" b) (fun r s' => ∃ v, r = some v ∧ Q v s') E s := by
    unfold tryCompare
    refine wpAny_bind (ifBound_objNe X I hne (wpAny_call (codeAny_call_builtin F.cmp_object.ne.plain F.cmpEntry_ne (check_slot F.cmpKind_ne F.cmpSplit_ne (I.type.andThen (looks_mroIn X hm)) (F.cmpArgs_ne _ _) (entry_objNe hu1 X I hs hf (wpAny_mono h (fun r s' hr => ?_) fun _ _ e => e))))))
    obtain ⟨v, rfl, hq⟩ := hr
    first
      | exact ⟨v, rfl, wpAny_pure ⟨_, rfl, hq⟩⟩
      | exact ⟨v, rfl, ⟨_, rfl, hq⟩⟩
  unfold richCompare
  simp only [oneThing_ref]
  refine wpAny_holding (wpAny_bind (wpAny_cRoomFor hu ?_))
  refine wpAny_bind (I.type.here (wpAny_bind (hb.here ?_)))
  split
  · rename_i q
    have e : subIn K tb (.ref C) = some false := by
      rcases Bool.or_eq_true_iff.mp hn with e | e
      · rw [beq_iff_eq.mp e] at q; simp at q
      · exact beq_iff_eq.mp e
    refine wpAny_bind ((looks_subIn X e).here ?_)
    simp only [Bool.false_eq_true, if_false]
    refine wpAny_bind (wpAny_mono one (fun r s' z => ?_) fun _ _ e => e)
    obtain ⟨v, rfl, hq⟩ := z
    exact wpAny_pure hq
  · refine wpAny_bind (wpAny_pure ?_)
    simp only [Bool.false_eq_true, if_false]
    refine wpAny_bind (wpAny_mono one (fun r s' z => ?_) fun _ _ e => e)
    obtain ⟨v, rfl, hq⟩ := z
    exact wpAny_pure hq
end
end KA
namespace KA
open PySem PySem.Spec PyProof.Rows L2
section
variable {X : Cx} {n : Nat} {CX : CXT} {C f : Addr} {fd : FuncData} {ps : List Str} {R : Addr → V → Bool → Hp → Prop} {E : XK}
/-- an instance of the class at C beside anything -/
def BOwn1 (K : PySem.W.Frag) (C : Addr) (R : Addr → V → Bool → Hp → Prop) : BEq2 := fun x y b H =>
  ∃ (a dx : Addr) (fs : List (Str × V)) (t : Value), x = .ref a ∧ H a = some (.ins C dx fs) ∧ TyX K H y t ∧ PySem.W.notFirst K C t = true ∧ R a y b H
theorem rcB_ownNe (F : FnOk X.prog X.w X.K X.mg X.base CX n f fd ps (spEqO R)) (hs : PySem.W.findIn X.K (.ref C) "__eq__" = some (some (.ref f))) (hf : PySem.W.isFn X.K (.ref f) = true) (hb : Binds X.K fd ps []) (hx : Passes CX X E)
    (hm : PySem.W.mroIn X.K C (.type "object") = some true) (hne : PySem.W.findIn X.K (.ref C) "__ne__" = some (some (.builtin "object.__ne__"))) : RcB X (n + 1) true (BOwn1 X.K C R) := by
  intro A pins s σ H x y u v b sb I rx ry d
  obtain ⟨a, dx, fs, t, rfl, ha, ty, nf, hR⟩ := d
  cases rx
  obtain ⟨mA, J, _⟩ := ins_get I.hok ha
  obtain ⟨od, J, _⟩ := J.look
  obtain ⟨Pz, Z, p, _⟩ := kit_of I ry ty
  refine ne_own (tb := t) sb.room.units0 sb.in1.room.units0 I.kIn J (Z.ty _ _ I.kIn p) nf hm hne hs hf (wpAny_mono (run_eqO F hb hx sb.in1 I ry hR) (fun r s' q => ?_) fun _ _ x => x)
  cases r with
  | bool z =>
    obtain ⟨e, q2⟩ := (show (Value.bool z = .bool b ∧ ∃ H', L2.Inv X pins σ H' s' ∧ Ext H H') from q)
    cases e
    exact ⟨b, rfl, by rw [Bool.true_xor], q2⟩
  | notImplemented => exact q.elim
  | _ => exact nomatch q.1
/-- a plain thing beside an instance: the instance is asked -/
def BFlip (K : PySem.W.Frag) (C : Addr) (R : Addr → V → Bool → Hp → Prop) : BEq2 := fun x y b H => ∃ (a dx : Addr) (fs : List (Str × V)), y = .ref a ∧ H a = some (.ins C dx fs) ∧ R a x b H ∧
  ((∃ i, x = .int i) ∨ (∃ z, x = .str z) ∨ (∃ c, x = .bl c) ∨ x = .non ∨ (∃ p xs, x = .ref p ∧ H p = some (.lst xs)) ∨ ∃ p xs, x = .ref p ∧ H p = some (.tup xs))
theorem rcB_flip (F : FnOk X.prog X.w X.K X.mg X.base CX n f fd ps (spEqO R)) (hs : PySem.W.findIn X.K (.ref C) "__eq__" = some (some (.ref f))) (hf : PySem.W.isFn X.K (.ref f) = true) (hb : Binds X.K fd ps []) (hx : Passes CX X E)
    (hn : ∀ t, t ∈ ["int", "str", "bool", "NoneType", "list", "tuple"] → PySem.W.subIn X.K (.ref C) (.type t) = some false) : RcB X n false (BFlip X.K C R) := by
  intro A pins s σ H x y u v b sb I rx ry d
  have fin : (false ^^ b) = b := Bool.false_xor b
  rw [fin]
  obtain ⟨a, dx, fs, rfl, ha, hR, hk⟩ := d
  cases ry
  obtain ⟨mA, J, _⟩ := ins_get I.hok ha
  obtain ⟨od, J, _⟩ := J.look
  have go : wpAny (model X.prog X.w) A (call (.ref f) [.ref a, u]) (PySem.W.CmpBack fun r s' => r = .bool b ∧ ∃ H', L2.Inv X pins σ H' s' ∧ Ext H H') X.xe s := run_eqO F hb hx sb I rx hR
  rcases hk with ⟨i, rfl⟩ | ⟨z, rfl⟩ | ⟨c, rfl⟩ | rfl | ⟨p, xs, rfl, hp⟩ | ⟨p, xs, rfl, hp⟩
  · obtain ⟨t, rfl⟩ := rx
    exact cmp_flip sb.room.units0 I.kIn J (PySem.typeIs_int s i t) PySem.F.slot_int_eq rfl (hn _ (by simp)) (fun h => int_eq_own J.at_ h) hs hf go
  · obtain ⟨t, rfl⟩ := rx
    exact cmp_flip sb.room.units0 I.kIn J (PySem.typeIs_str s z t) PySem.F.slot_str_eq rfl (hn _ (by simp)) (fun h => str_eq_own J.at_ h) hs hf go
  · cases rx
    exact cmp_flip sb.room.units0 I.kIn J (PySem.typeIs_bool s c) PySem.F.slot_bool_eq rfl (hn _ (by simp)) (fun h => bool_eq_own J.at_ h) hs hf go
  · cases rx
    exact cmp_none sb.room.units0 I.kIn J (hn _ (by simp)) hs hf go
  · cases rx
    obtain ⟨_, its, k, r, e⟩ := I.hok p _ hp
    exact cmp_flip sb.room.units0 I.kIn J (T := "list") ⟨_, e, rfl⟩ PySem.F.slot_list_eq rfl (hn _ (by simp)) (fun h => list_eq_own I.kIn J (hn _ (by simp)) ⟨_, e, rfl⟩ h) hs hf go
  · cases rx
    obtain ⟨its, r, ⟨o, e, ho⟩, hz⟩ := I.tuple (SqT.of hp)
    exact cmp_flip sb.room.units0 I.kIn J (T := "tuple") ⟨_, e, ho.1⟩ PySem.F.slot_tuple_eq rfl (hn _ (by simp)) (fun h => tup_eq_own I.kIn J (hn _ (by simp)) ⟨_, e, ho.1⟩ h) hs hf go
theorem RcB.or {ne : Bool} {D D' : BEq2} (h : RcB X n ne D) (h' : RcB X n ne D') : RcB X n ne (fun x y b H => D x y b H ∨ D' x y b H) := fun A pins s σ H x y u v b sb I rx ry d => d.elim (fun d => h A pins s σ H x y u v b sb I rx ry d) (fun d => h' A pins s σ H x y u v b sb I rx ry d)
end
end KA
namespace KA
open PySem PySem.Spec PyProof.Rows L2
section
variable {X : Cx} {n : Nat}
/-- x in (a, b, ..), items data of any depth -/
def rInTD (K : PySem.W.Frag) : R2 := fun x y H Q => ∃ d ds, Dp K H x d ∧ Dp K H y (.tuple ds) ∧ SeqAt.shaped d = true ∧ SeqAt.shaped (.tuple ds) = true ∧ Q (.bl (ds.any fun z => PyData.eqv z d)) H
theorem op_inTD (hu : X.A.units + 65 < cLine) : OpR X (compareOp .In) (rInTD X.K) := by
  intro pins s σ H x y v u Q I rx ry h
  obtain ⟨d, ds, hd, he, sd, se, q⟩ := h
  obtain ⟨as, r1⟩ := Dp.reads I d x v hd rx
  obtain ⟨bs, r2⟩ := Dp.reads I (.tuple ds) y u he ry
  exact SeqAt.in_tuple_reads r2 r1 (SeqAt.canLay_of_shaped se) (SeqAt.canLay_of_shaped sd) (room_in_shaped sd hu) ⟨.bl _, H, I, rfl, q⟩
theorem eqBool_by2 {prog : Program} {w : World} {A : Around} {E : Value → Shared → Prop} {s : Shared} {u v : Value} {Q : Bool → Shared → Prop} (hu : ∃ a, v = .ref a) (hne : (u == v) = false)
    (h : wpAny (model prog w) A (richCompare .Eq u v) (fun r s' => ∃ b, r = .bool b ∧ Q b s') E s) : wpAny (model prog w) A (eqBool u v) Q E s := by
  unfold eqBool
  refine wpAny_holding ?_
  refine wpAny_ite_split (fun hab => by rw [hne] at hab; cases hab) (fun _ => ?_)
  obtain ⟨a, rfl⟩ := hu
  cases u <;> (refine wpAny_bind (wpAny_mono h (fun r s' hv => ?_) fun _ _ x => x); obtain ⟨b, rfl, q⟩ := hv; exact wpAny_truthy_bool q)
variable {CX : CXT} {C f : Addr} {fd : FuncData} {ps : List Str} {R : Addr → V → Bool → Hp → Prop} {E : XK}
/-- a plain thing beside an instance, as == in a list asks it -/
theorem eqB_flip (F : FnOk X.prog X.w X.K X.mg X.base CX n f fd ps (spEqO R)) (hs : PySem.W.findIn X.K (.ref C) "__eq__" = some (some (.ref f))) (hf : PySem.W.isFn X.K (.ref f) = true) (hb : Binds X.K fd ps []) (hx : Passes CX X E)
    (hn : ∀ t, t ∈ ["int", "str", "bool", "NoneType", "list", "tuple"] → PySem.W.subIn X.K (.ref C) (.type t) = some false) : EqB X n (BFlip X.K C R) := by
  intro A pins s σ H x y u v b sb I rx ry d
  have hne : (u == v) = false := by
    obtain ⟨a, dx, fs, rfl, ha, hR, hk⟩ := d
    cases ry
    rw [beq_eq_false_iff_ne]
    rcases hk with ⟨i, rfl⟩ | ⟨z, rfl⟩ | ⟨c, rfl⟩ | rfl | ⟨p, xs, rfl, hp⟩ | ⟨p, xs, rfl, hp⟩
    · obtain ⟨t, rfl⟩ := rx
      exact fun z => by cases z
    · obtain ⟨t, rfl⟩ := rx
      exact fun z => by cases z
    · cases rx
      exact fun z => by cases z
    · cases rx
      exact fun z => by cases z
    · cases rx
      exact fun z => by
        cases z
        rw [ha] at hp
        cases hp
    · cases rx
      exact fun z => by
        cases z
        rw [ha] at hp
        cases hp
  have hv : ∃ a, v = .ref a := by
    obtain ⟨a, dx, fs, rfl, _⟩ := d
    cases ry
    exact ⟨a, rfl⟩
  refine eqBool_by2 hv hne (wpAny_mono (rcB_flip F hs hf hb hx hn A pins s σ H x y u v b sb I rx ry d) (fun r s' q => ?_) fun _ _ x => x)
  obtain ⟨hr, q⟩ := q
  exact ⟨b, by rw [hr, Bool.false_xor], rfl, q⟩
theorem monB_flip {K : PySem.W.Frag} (hR : ∀ a y b H H', Ext H H' → R a y b H → R a y b H') : MonB (BFlip K C R) := fun x y b H H' e d => by
  obtain ⟨a, dx, fs, hy, ha, r, hk⟩ := d
  refine ⟨a, dx, fs, hy, e _ _ ha, hR _ _ _ _ _ e r, ?_⟩
  rcases hk with h | h | h | h | ⟨p, xs, h, hp⟩ | ⟨p, xs, h, hp⟩
  · exact .inl h
  · exact .inr (.inl h)
  · exact .inr (.inr (.inl h))
  · exact .inr (.inr (.inr (.inl h)))
  · exact .inr (.inr (.inr (.inr (.inl ⟨p, xs, h, e _ _ hp⟩))))
  · exact .inr (.inr (.inr (.inr (.inr ⟨p, xs, h, e _ _ hp⟩))))
end
end KA
namespace KA
open PySem PySem.Spec PyProof.Rows L2
/-! ### isinstance of a caught error that has fields of its own -/
theorem xd_at {P : Program} {w : World} {H : Hp} {h : Heap} {dd : Addr} {fs : List (Str × V)} (hok : HOk P w H h) (e : H dd = some (.xd fs)) : ∃ od, h.get? dd = some od := by
  obtain ⟨mA, ⟨od, es, ep, ho, _⟩, _⟩ := (show ObjOk P w H h dd (.xd fs) from hok dd _ e)
  exact ⟨od, ho⟩
theorem kit_exc {K : PySem.W.Frag} {D x : Addr} {ox : Obj} {od : Option Obj} (C : ExcC K D) : PySem.W.KitX K (.ref x) (.ref D) (fun h => PySem.W.InstAt h x ox D od) :=
  PySem.W.kitx_exc (by obtain ⟨cd, hc, _⟩ := PySem.W.any_some C.hd; rw [hc]; rfl) C.hg C.hk C.hs C.ha C.hn C.ht C.hm
def rIsD (K : PySem.W.Frag) (a : Addr) (cls : Value) (d : Option Addr) : List V → Hp → VK → Prop := fun xs H Q => ∃ (D dd : Addr) (fs : List (Str × V)) (c : V) (u : Value) (b : Bool), xs = [.ref a, c] ∧ cls = .ref D ∧ d = some dd ∧ H dd = some (.xd fs) ∧ ExcC K D ∧ ClsV c u ∧ PySem.W.kitOne K (.ref D) u = some b ∧ Q (.bl b) H
def rIsDT (K : PySem.W.Frag) (a : Addr) (cls : Value) (d : Option Addr) : List V → Hp → VK → Prop := fun xs H Q => ∃ (D dd tp : Addr) (fs : List (Str × V)) (cs : List V) (us : List Value) (b : Bool), xs = [.ref a, .ref tp] ∧ cls = .ref D ∧ d = some dd ∧ H dd = some (.xd fs) ∧ ExcC K D ∧ H tp = some (.tup cs) ∧ Paired ClsV cs us ∧ PySem.W.kitAny K (.ref D) us = some b ∧ Q (.bl b) H
section
variable {X : Cx} {a : Addr} {oe : Obj} {cls : Value} {d : Option Addr} {pn : List (Addr × Obj)}
theorem inst_of {pins : List (Addr × Obj)} {σ : L2.St} {H : Hp} {s : Shared} {D dd : Addr} {fs : List (Str × V)} (hz : Zc (.ref D) (some dd) oe) (hf : ∃ vs, oe.data = .fields vs) (I : Inv (X.suite a ((a, oe) :: pn)) pins σ H s) (e : H dd = some (.xd fs)) : ∃ od, PySem.W.InstAt s.heap a oe D (some od) := by
  obtain ⟨hget, _⟩ := I.pin (a, oe) (List.mem_append.mpr (.inl List.mem_cons_self))
  obtain ⟨vs, hv⟩ := hf
  obtain ⟨od, ho⟩ := xd_at I.hok e
  exact ⟨od, hget, hz.1, by unfold PySem.W.notCls; rw [hv] <;> rfl, by rw [hz.2]; exact ho⟩
theorem call_isD (hz : Zc cls d oe) (hf : ∃ vs, oe.data = .fields vs) : CallR (X.suite a ((a, oe) :: pn)) (.builtin "isinstance") (rIsD X.K a cls d) := by
  intro pins s σ H xs us Q I r h
  obtain ⟨D, dd, fs, c, u, b, rfl, rfl, rfl, e, C, k, hk, q⟩ := h
  obtain ⟨u1, u2, rfl, r1, r2⟩ := vals2 r
  cases (show u1 = Value.ref a from r1)
  have e2 := k.eq r2
  subst e2
  obtain ⟨od, J⟩ := inst_of hz hf I e
  exact PySem.W.kia_one (kit_exc C) I.kIn J hk (fun z => nomatch z) fun tk => ⟨.bl b, H, I.tok tk, rfl, q⟩
theorem call_isDT (hz : Zc cls d oe) (hf : ∃ vs, oe.data = .fields vs) : CallR (X.suite a ((a, oe) :: pn)) (.builtin "isinstance") (rIsDT X.K a cls d) := by
  intro pins s σ H xs us Q I r h
  obtain ⟨D, dd, tp, fs, cs, ws, b, rfl, rfl, rfl, e, C, hT, k, hk, q⟩ := h
  obtain ⟨u1, u2, rfl, r1, r2⟩ := vals2 r
  cases (show u1 = Value.ref a from r1)
  cases (show u2 = Value.ref tp from r2)
  obtain ⟨od, J⟩ := inst_of hz hf I e
  obtain ⟨_, its, rv, o, h1, h2, n, h3⟩ := (show ObjOk X.prog X.w H s.heap tp (.tup cs) from I.hok tp _ hT)
  have e3 := ClsV.all k rv
  subst e3
  obtain ⟨oc, od', dt, sl⟩ := o
  simp only at h2 h3
  subst h2 h3
  exact PySem.W.kia_tup (kit_exc C) I.kIn J h1 hk (fun z => nomatch z) fun tk => ⟨.bl b, H, I.tok tk, rfl, q⟩
end
theorem call_isiS {X : Cx} {K' : PySem.W.Frag} (hK : X.K = K') : CallR X (.builtin "isinstance") (rIsi K') := by
  subst hK
  exact call_isi
/-! ### calls that let nothing out, bodies that are never run -/
theorem passF {X : Cx} : Passes (L2.CX X.prog X.w) X E0 := passes_call takes0 (fun _ _ _ _ h => h)
/-! ### keywords: which of what is handed in, of the defaults, of the keywords stands where -/
def kw1 {α : Type} (p : Nat × Nat) (us its ws : List α) : List α := match p with
  | (0, i) => us[i]?.toList
  | (1, i) => its[i]?.toList
  | (_, i) => ws[i]?.toList
def kw {α : Type} : List (Nat × Nat) → List α → List α → List α → List α
  | [], _, _, _ => []
  | p :: f, us, its, ws => kw1 p us its ws ++ kw f us its ws
theorem vals_at : ∀ {xs : List V} {us : List Value}, Vals xs us → ∀ i : Nat, (xs[i]? = none ∧ us[i]? = none) ∨ ∃ x u, xs[i]? = some x ∧ us[i]? = some u ∧ RelV x u
  | _, _, .nil, _ => .inl ⟨rfl, rfl⟩
  | _, _, .cons r _, 0 => .inr ⟨_, _, rfl, rfl, r⟩
  | _, _, .cons _ t, i + 1 => by
    rw [List.getElem?_cons_succ, List.getElem?_cons_succ]
    exact vals_at t i
theorem vals_one {xs : List V} {us : List Value} (h : Vals xs us) (i : Nat) : Vals xs[i]?.toList us[i]?.toList := by
  rcases vals_at h i with ⟨e1, e2⟩ | ⟨x, u, e1, e2, r⟩
  · rw [e1, e2]
    exact .nil
  · rw [e1, e2]
    exact .cons r .nil
theorem kw_rel : ∀ (f : List (Nat × Nat)) {vs ds zs : List V} {us is ws : List Value}, Vals vs us → Vals ds is → Vals zs ws → Vals (kw f vs ds zs) (kw f us is ws)
  | [], _, _, _, _, _, _, _, _, _ => .nil
  | (0, i) :: f, _, _, _, _, _, _, h1, h2, h3 => (vals_one h1 i).append (kw_rel f h1 h2 h3)
  | (1, i) :: f, _, _, _, _, _, _, h1, h2, h3 => (vals_one h2 i).append (kw_rel f h1 h2 h3)
  | (_ + 2, i) :: f, _, _, _, _, _, _, h1, h2, h3 => (vals_one h3 i).append (kw_rel f h1 h2 h3)
/-! ### PearlError's own way: one field -/
def spPearl (K : PySem.W.Frag) (f : Str) : Sp := fun vs H Q _ => ∃ (a C : Addr) (v : V), vs = [.ref a, v] ∧ OexC K C ∧ PySem.W.findIn K (.ref C) f = some none ∧ H a = some (exo a C none) ∧
  ∀ dx, H dx = none → dx ≠ a → Q .non (upd (upd H dx (exd dx [(f, v)])) a (exo a C (some dx)))
theorem pearl_same {H : Hp} {a dx : Addr} {o1 o2 o3 : HO} {fs : List (Str × V)} (ha : H a = none) (hd : H dx = none) : Same H (upd (del (upd (upd (upd H a o1) dx o2) a o3) a) dx (.xd fs)) := fun b o e => by
  rw [upd_ne (ne_of_none e hd), del_ne (ne_of_none e ha), upd_ne (ne_of_none e ha), upd_ne (ne_of_none e hd), upd_ne (ne_of_none e ha)]
  exact e
end KA
namespace KA
open PySem PySem.Spec PyProof.Rows L2
/-- keywords of a def that has no defaults -/
theorem fun_kb {K : PySem.W.Frag} {x qual : Str} {st : Stmt} {f : Addr} {fd : FuncData} {ps : List Str} (F : Fun K x qual st f fd) (n : Nat) (ks : List Str) (m : List (Nat × Nat))
    (to : ∀ (kV doc pm : Value) (an : Option Addr) (cdv ct : Value) (us ws : List Value), us.length = n → ws.length = ks.length → bindArgs (PySem.W.fnOf x qual (defArgs st) (defBody st) (defScope st) .none kV doc pm an cdv ct) ⟨us, ks.zip ws⟩ = pure (ps.zip (kw m us [] ws))) :
    KBn K fd ps n ks (fun us ws => kw m us [] ws) (fun vs zs => kw m vs [] zs) := by
  obtain ⟨oc, od, kV, doc, pm, an, cdv, ct, osl, rfl, lk, hcd⟩ := F.ex
  exact ⟨fun s us ws _ l1 l2 => .of_eq (to kV doc pm an cdv ct us ws l1 l2), fun r1 r2 => kw_rel m r1 .nil r2⟩
end KA
/-! a lambda with a parameter as a value; sorted by a def or by a lambda -/
namespace KA
open PySem PySem.Spec PyProof.Rows L2 LamX
section
variable {X : Cx} {pins : List (Addr × Obj)} {σ : L2.St} {H : Hp} {s : Shared}
/-- the lambda at f -/
def LamO (f : Addr) (q : Str) (params : Arguments) (body : Expr) (scope : Scope) (c' : Addr) : HO := .ext fun h => ∃ pm ctv, h.get? f = some (PySem.W.kla_obj "<lambda>" q params body scope [] pm c' ctv)
def tLamV (T : List (Addr × Str)) (q : Str) (params : Arguments) (body : Expr) (scope : Scope) : TE := fun σ H Q => Tabs T H ∧ ∀ (H1 : Hp) (f c' : Addr), ExtN H H1 → Tabs T H1 → H1 f = some (LamO f q params body scope c') → H1 c' = some (CodeO c' q) → Q (.ref f) H1
theorem clo_nil {cells : List (Str × Addr)} : ∀ {ns : List (Str × NameKind)} {acc : List (Str × Addr)}, (∀ y ∈ ns, y.2 ≠ .free) → cloFrom cells ns acc = acc
  | [], acc, _ => rfl
  | (n, k) :: ns, acc, h => by
    have hk : k ≠ .free := h _ (List.mem_cons_self ..)
    have := clo_nil (cells := cells) (ns := ns) (acc := acc) fun y hy => h y (List.mem_cons_of_mem _ hy)
    unfold cloFrom
    first
      | (rw [if_neg (by simpa using hk)]; exact this)
      | (simp [hk]; exact this)
theorem pe_lam1 {T : List (Addr × Str)} {c P : Addr} {params : Arguments} {body : Expr} {scope : Scope} {pos : Pos} (TB : TabB X.base X.mg c P) (hcode : X.env.code = .ref c) (hmT : (P, X.env.qual ++ "<lambda>") ∈ T) (hu : ∀ p ∈ T, p.1 = P → p.2 = X.env.qual ++ "<lambda>")
    (hdef : defaultsOf params X.env = ([], [])) (nofree : ∀ y ∈ scope.names, y.2 ≠ .free) : PE X (.Lambda params body scope pos) (tLamV T (X.env.qual ++ "<lambda>") params body scope) := by
  refine ⟨fun pins s σ H Q I h => ?_⟩
  obtain ⟨hT, h⟩ := h
  obtain ⟨ps, hP, tok, among⟩ := hT _ hmT
  have bP : s.heap.BuiltinsAt X.mg P := TB.bm.keeps I.bk
  have hP' : s.heap.get? P = some { cls := .none, data := .fields ps } := I.hok P _ hP
  have cl : closureFor scope X.env = pure [] := by
    have := closure_ok (env := X.env) (scope := scope) fun y hy e => absurd e (nofree y hy)
    rw [clo_nil nofree] at this
    exact this
  have lam : ∀ {H1 : Hp} {s' : Shared} {c' : Addr} {pm ctv : Value} {tk : Nat}, L2.Inv X pins σ H1 s' → ExtN H H1 → Tabs T H1 → H1 c' = some (CodeO c' (X.env.qual ++ "<lambda>")) →
      EP X pins σ Q (.ref s'.heap.objs.size) { s' with heap := s'.heap.push (PySem.W.kla_obj "<lambda>" (X.env.qual ++ "<lambda>") params body scope [] pm c' ctv), toks := tk } := fun {H1 s' c' pm ctv tk} J eN T1 hc => by
    have kp : ∀ b u, s'.heap.get? b = some u → (s'.heap.push (PySem.W.kla_obj "<lambda>" (X.env.qual ++ "<lambda>") params body scope [] pm c' ctv)).get? b = some u := fun b u e => Heap.get?_push_of_some _ e
    have at_ : (s'.heap.push (PySem.W.kla_obj "<lambda>" (X.env.qual ++ "<lambda>") params body scope [] pm c' ctv)).get? s'.heap.objs.size = some (PySem.W.kla_obj "<lambda>" (X.env.qual ++ "<lambda>") params body scope [] pm c' ctv) := Heap.get?_push_size _ rfl
    have hn : H1 s'.heap.objs.size = none := J.hok.fresh (Nat.le_refl _)
    have ex : Ext H1 (upd H1 s'.heap.objs.size (LamO s'.heap.objs.size (X.env.qual ++ "<lambda>") params body scope c')) := Ext.upd hn
    have J2 := J.laid (t' := tk) (a := s'.heap.objs.size) (o := LamO s'.heap.objs.size (X.env.qual ++ "<lambda>") params body scope c') kp (Nat.le_refl _) ⟨⟨pm, ctv, at_⟩, ⟨_, at_⟩, fun h1 h2 ⟨pm, ctv, e⟩ st => ⟨pm, ctv, st _ e⟩⟩
    exact ⟨.ref _, _, J2, rfl, h _ _ c' (eN.trans (ExtN.of ex)) (T1.ext ex) upd_same (ex _ _ hc)⟩
  refine PySem.W.kla_eval hdef ?_
  cases hc : codeAmong pos ps.toList with
  | some cv =>
    obtain ⟨c', rfl, hco⟩ := among pos cv hc
    refine PySem.W.kla_makeFunctionHit (mg := X.mg) (c := c) (P := P) (ps := ps) cl I.ok.glob (I.mod.glob.keeps I.bk) hcode (TB.code.keeps I.bk) hP' tok hc bP fun ctv h' tk hx hsz => ?_
    exact lam (s' := { s with heap := h', toks := tk }) (I.kept hx) (ExtN.refl H) hT hco
  | none =>
    refine PySem.W.kla_makeFunction (mg := X.mg) (c := c) (P := P) (ps := ps) cl I.ok.glob (I.mod.glob.keeps I.bk) hcode (TB.code.keeps I.bk) hP' tok hc TB.gP bP fun c' ctv h' tk hx hge hlt hrec htb => ?_
    obtain ⟨c2, oc, vs, t, e2, hoc, hd, hv⟩ := hrec
    cases e2
    have nC : H c' = none := I.hok.fresh hge
    have J := inv_table (t' := tk) (more := #[rawInt pos.line, rawInt pos.col, .ref c']) (h' := h') I hP hx htb hge ⟨oc, vs, t, hoc, hd, hv⟩
    have eN : ExtN H (upd (upd H P (.tbl (ps ++ #[rawInt pos.line, rawInt pos.col, .ref c']))) c' (CodeO c' (X.env.qual ++ "<lambda>"))) := fun b o e n => by
      have nP : b ≠ P := fun z => by
        rw [z, hP] at e
        exact n ps (Option.some.inj e).symm
      rw [upd_ne (ne_of_none e nC), upd_ne nP]
      exact e
    have toL : (ps ++ #[rawInt pos.line, rawInt pos.col, .ref c']).toList = ps.toList ++ [rawInt pos.line, rawInt pos.col, .ref c'] := by simp
    refine lam (s' := { s with heap := h', toks := tk }) J eN (fun p hp => ?_) upd_same
    by_cases hb : p.1 = P
    · rw [hu p hp hb, hb]
      refine ⟨_, by rw [upd_ne (ne_of_none hP nC), upd_same], by rw [toL]; exact PySem.TriplesOk_snoc _ _ _ _ tok, fun p' cv hcv => ?_⟩
      rw [toL] at hcv
      rcases among_app _ tok hcv with z | z
      · obtain ⟨c0, q1, q2⟩ := among p' cv z
        exact ⟨c0, q1, eN _ _ q2 codeO_ne⟩
      · exact ⟨c', z, upd_same⟩
    · obtain ⟨ps', a1, a2, a3⟩ := hT p hp
      refine ⟨ps', by rw [upd_ne (ne_of_none a1 nC), upd_ne hb]; exact a1, a2, fun p' cv hcv => ?_⟩
      obtain ⟨c0, q1, q2⟩ := a3 p' cv hcv
      exact ⟨c0, q1, eN _ _ q2 codeO_ne⟩
theorem env_sub {n : Nat} {A : Around} (sb : Sub X n A) (I : L2.Inv X pins σ H s) : Env0 X.prog X.w X.K X.mg X.base A X.stack s H := by
  have e := I.env0
  exact ⟨by rw [sb.fr]; exact e.frames, e.mod, e.bs, e.bsz, e.funs, e.frf, e.hok, e.bare⟩
/-- an own def as a key -/
theorem keyB_fn {n : Nat} {f : Addr} {fd : FuncData} {x : Str} {sp : Sp} {D : V → PyData → Hp → Prop} (F : FnOk X.prog X.w X.K X.mg X.base CX0 n f fd [x] sp) (hb : Binds X.K fd [x] []) (imp : ∀ y k H, D y k H → sp [y] H (fun z H' => Ext H H' ∧ KD X.K H' z k) E0) : KeyB X n (.ref f) D := by
  intro A pins s σ H y u k sb I ry d
  refine wpAny_call (codeAny_mono (F.run A X.stack s H ⟨[u], []⟩ [u] [y] _ E0 sb.room (env_sub sb I) (by
    have := hb s [u] I.kIn rfl
    simpa using this) (.cons ry .nil) (imp y k H d)) fun r s' hq => ?_)
  cases r with
  | error e => exact (show False from hq).elim
  | ok fl =>
    cases fl with
    | ret z =>
      obtain ⟨z, H', I', rz, ex, kd⟩ := I.after hq
      exact ⟨z, H', I', ex, rz, kd⟩
    | next => exact False.elim hq
    | brk => exact False.elim hq
    | cont => exact False.elim hq
/-- a lambda with one parameter and nothing captured as a key -/
theorem keyB_lam {n : Nat} {f c' : Addr} {q : Str} {params : Arguments} {body : Expr} {scope : Scope} {N : List Str} {a : Str} {tb : TE} {D : V → PyData → Hp → Prop} (S : FnScope N [a] scope)
    (hbind : ∀ (pm cv ctv u : Value), bindArgs (PySem.W.kla_fn "<lambda>" q params body scope [] pm cv ctv) ⟨[u], []⟩ = pure [(a, u)])
    (hbody : ∀ (A : Around) (outer : List Env) (s : Shared) (H : Hp) (cdv : Value), Room n (A.deeper (envOfC q scope s.heap.objs.size f cdv)) → PE (cxOf CX0 X.prog X.w X.K X.mg X.base N q scope f cdv A outer s H E0).nox body tb)
    (imp : ∀ y k H, D y k H → tb (L2.start N [y]) H fun z H' => Ext H H' ∧ KD X.K H' z k) : KeyB X (n + 1) (.ref f) fun y k H => H f = some (LamO f q params body scope c') ∧ H c' = some (CodeO c' q) ∧ D y k H := by
  intro A pins s σ H y u k sb I ry d
  obtain ⟨hf, hc, d⟩ := d
  obtain ⟨⟨pm, ctv, of1⟩, _, _⟩ := I.hok f _ hf
  obtain ⟨⟨oc, vs, t, hoc, hdc, hvc⟩, _, _⟩ := I.hok c' _ hc
  have e0 := env_sub sb I
  have lim : s.heap.NoLimit := e0.mod.nolimit.keeps fun b o e => (e0.bs b o e).1
  have hkind : ∀ y ∈ [a].zip [u], scope.names.lookup y.1 = some .local ∨ (scope.names.lookup y.1 = some .cell ∧ ((cellsFrom (s.heap.objs.size + 1) scope.names []).lookup y.1).isSome = true) := fun ⟨nm, v⟩ hy => by
    rcases S.par nm (List.of_mem_zip hy).1 with z | z
    · exact .inl z
    · exact .inr ⟨z, PySem.W.cellsFrom_some _ _ _ (.inl z)⟩
  have rc : codeAny (model X.prog X.w) A (.call (.ref f) ⟨[u], []⟩) (CR CX0 X.stack X.prog X.w H s (fun z H' => Ext H H' ∧ KD X.K H' z k) E0) s := by
    refine PySem.W.kla_callFunE sb.room.depth of1 rfl S.co S.gen rfl ⟨c', oc, vs, t, rfl, hoc, hdc, hvc⟩ ?_
    rw [hbind]
    refine wpAny_pure (wpAny_newFunctionEnv_cells S.kind hkind fun env he s1 x => ?_)
    subst he
    refine ⟨lim.keeps x.toInCall.keep, ?_⟩
    have J : L2.Inv (cxOf CX0 X.prog X.w X.K X.mg X.base N q scope f (.ref c') A X.stack s H E0) [] (L2.start N [y]) H s1 := inv_start (us := [u]) S sb.room.hd e0 rfl (.cons ry .nil) x
    refine PySem.W.kla_codeExpr (wpAny_mono ((hbody A X.stack s H (.ref c') (sb.room.deeper _)).nox.run [] _ _ H _ J (imp y k H d)) (fun v s' hq => ?_) fun e s' hq => hq)
    obtain ⟨w', H', J', rv, z⟩ := hq
    exact ⟨w', H', J'.os, J'.bare, J'.base, J'.hok, rv, z⟩
  refine wpAny_call (codeAny_mono rc fun r s' hq => ?_)
  cases r with
  | error e => exact (show False from hq).elim
  | ok fl =>
    cases fl with
    | ret z =>
      obtain ⟨z, H', I', rz, ex, kd⟩ := I.after hq
      exact ⟨z, H', I', ex, rz, kd⟩
    | next => exact False.elim hq
    | brk => exact False.elim hq
    | cont => exact False.elim hq
/-- sorted(l, key = f), f told by what D says of it -/
def rSortG (K : PySem.W.Frag) (D : Addr → V → PyData → Hp → Prop) : List V → List V → Hp → VK → Prop := fun vs zs H Q => ∃ (l f : Addr) (xs : List V) (kz : List PyData), vs = [.ref l] ∧ zs = [.ref f] ∧ SqL K H l xs ∧ xs.length < sizeLine ∧ kz.length = xs.length ∧ PySem.W.AllAlike kz ∧ PySem.W.Sortable kz ∧
  (∀ d, d ∈ kz → d.depth ≤ 8) ∧ (∀ (i : Nat) x k, xs[i]? = some x → kz[i]? = some k → D f x k H) ∧ ∀ (H' : Hp) (p : Addr), Ext H H' → H' p = some (.lst (srtV xs kz)) → H p = none → Q (.ref p) H'
theorem call_sortG {m : Nat} {D : Addr → V → PyData → Hp → Prop} (kb : ∀ f, KeyB X m (.ref f) (D f)) (mon : ∀ f x k H H', Ext H H' → D f x k H → D f x k H') (hr : Room (m + 2) X.A) : CallRK X (.builtin "sorted") [Str.ofString "key"] (rSortG X.K D) := by
  intro pins s σ H vs zs us ws Q I r rz h
  obtain ⟨l, f, xs, kz, rfl, rfl, hl, hZ, hlz, hal, hsk, hdp, hD, q⟩ := h
  obtain rfl := Vals.ref1 r
  obtain rfl := Vals.ref1 rz
  exact sortedJ (kb f) hr (mon f) I hl hZ hlz hal hsk hdp hD q
/-- the key is the def at A -/
def DFn (A : Addr) (D : V → PyData → Hp → Prop) : Addr → V → PyData → Hp → Prop := fun f y k H => f = A ∧ D y k H
theorem kbFn {n : Nat} {f : Addr} {fd : FuncData} {x : Str} {sp : Sp} {D : V → PyData → Hp → Prop} (F : FnOk X.prog X.w X.K X.mg X.base CX0 n f fd [x] sp) (hb : Binds X.K fd [x] []) (imp : ∀ y k H, D y k H → sp [y] H (fun z H' => Ext H H' ∧ KD X.K H' z k) E0) : ∀ g, KeyB X n (.ref g) (DFn f D g) := fun g A pins s σ H y u k sb I ry d => by
  obtain ⟨rfl, d⟩ := d
  exact keyB_fn F hb imp A pins s σ H y u k sb I ry d
theorem monFn {A : Addr} {D : V → PyData → Hp → Prop} (mon : ∀ x k H H', Ext H H' → D x k H → D x k H') : ∀ f x k H H', Ext H H' → DFn A D f x k H → DFn A D f x k H' := fun f x k H H' e d => ⟨d.1, mon x k H H' e d.2⟩
/-- the key is a lambda -/
def DLam (q : Str) (params : Arguments) (body : Expr) (scope : Scope) (D : V → PyData → Hp → Prop) : Addr → V → PyData → Hp → Prop := fun f y k H => ∃ c', H f = some (LamO f q params body scope c') ∧ H c' = some (CodeO c' q) ∧ D y k H
theorem kbLam {n : Nat} {q : Str} {params : Arguments} {body : Expr} {scope : Scope} {N : List Str} {a : Str} {tb : TE} {D : V → PyData → Hp → Prop} (S : FnScope N [a] scope)
    (hbind : ∀ (pm cv ctv u : Value), bindArgs (PySem.W.kla_fn "<lambda>" q params body scope [] pm cv ctv) ⟨[u], []⟩ = pure [(a, u)])
    (hbody : ∀ (f : Addr) (A : Around) (outer : List Env) (s : Shared) (H : Hp) (cdv : Value), Room n (A.deeper (envOfC q scope s.heap.objs.size f cdv)) → PE (cxOf CX0 X.prog X.w X.K X.mg X.base N q scope f cdv A outer s H E0).nox body tb)
    (imp : ∀ y k H, D y k H → tb (L2.start N [y]) H fun z H' => Ext H H' ∧ KD X.K H' z k) : ∀ g, KeyB X (n + 1) (.ref g) (DLam q params body scope D g) := fun g A pins s σ H y u k sb I ry d => by
  obtain ⟨c', d⟩ := d
  exact keyB_lam (c' := c') S hbind (hbody g) imp A pins s σ H y u k sb I ry d
theorem monLam {q : Str} {params : Arguments} {body : Expr} {scope : Scope} {D : V → PyData → Hp → Prop} (mon : ∀ x k H H', Ext H H' → D x k H → D x k H') : ∀ f x k H H', Ext H H' → DLam q params body scope D f x k H → DLam q params body scope D f x k H' := fun f x k H H' e d => by
  obtain ⟨c', h1, h2, h3⟩ := d
  exact ⟨c', e _ _ h1, e _ _ h2, mon x k H H' e h3⟩
/-- sorted(e, key = lambda a: body) -/
theorem pe_sortLam {T : List (Addr × Str)} {c P : Addr} {n : Nat} {params : Arguments} {body e : Expr} {scope : Scope} {N : List Str} {a : Str} {ta : TA} {tb : TE} {D : V → PyData → Hp → Prop} {p lpos kpos pos : Pos} (hg : Gl X "sorted") (hm : X.mg "sorted" = none) (he : PA X [e] ta)
    (TB : TabB X.base X.mg c P) (hcode : X.env.code = .ref c) (hmT : (P, X.env.qual ++ "<lambda>") ∈ T) (hu : ∀ p ∈ T, p.1 = P → p.2 = X.env.qual ++ "<lambda>") (S : FnScope N [a] scope)
    (hbody : ∀ (f : Addr) (A : Around) (outer : List Env) (s : Shared) (H : Hp) (cdv : Value), Room n (A.deeper (envOfC (X.env.qual ++ "<lambda>") scope s.heap.objs.size f cdv)) → PE (cxOf CX0 X.prog X.w X.K X.mg X.base N (X.env.qual ++ "<lambda>") scope f cdv A outer s H E0).nox body tb)
    (imp : ∀ y k H, D y k H → tb (L2.start N [y]) H fun z H' => Ext H H' ∧ KD X.K H' z k) (mon : ∀ x k H H', Ext H H' → D x k H → D x k H') (hr : Room (n + 3) X.A)
    (hdef : defaultsOf params X.env = ([], []) := by rfl) (hbind : ∀ (pm cv ctv u : Value), bindArgs (PySem.W.kla_fn "<lambda>" (X.env.qual ++ "<lambda>") params body scope [] pm cv ctv) ⟨[u], []⟩ = pure [(a, u)] := by intros; rfl)
    (h1 : backTo pos (starEach [e] X.env) = (false, eval e X.env) :: backTo pos (starEach [] X.env) := by rfl) (h2 : (backTo pos (starEach [e] X.env)).any (·.1) = false := by rfl) :
    PE X (.Call (.Name "sorted" p) [e] [⟨some "key", .Lambda params body scope lpos, kpos⟩] pos) (tCKw (rSortG X.K (DLam (X.env.qual ++ "<lambda>") params body scope D)) ta (tCons (tLamV T (X.env.qual ++ "<lambda>") params body scope) tNil)) :=
  pe_callBK (call_sortG (kbLam S hbind hbody imp) (monLam mon) hr) hg hm (by decide +kernel) he (pk_cons (pe_lam1 TB hcode hmT hu hdef S.nofree) pk_nil) (by decide) (by decide) h1 h2
end
/-- a def whose code object is known -/
theorem okC {P : Program} {w : World} {K : PySem.W.Frag} {mg : Str → Option Value} {base : Heap} {x qual : Str} {st : Stmt} {f : Addr} {fd : FuncData} {N ps : List Str} {k : Nat} {sp : Sp} {cv : Value} (F : Fun K x qual st f fd) (hc : fd.code = cv) (S : FnScope N ps (defScope st)) (len : ∀ vs H Q E, sp vs H Q E → vs.length = ps.length)
    (hbody : ∀ (A : Around) (outer : List Env) (s : Shared) (H : Hp) (vs : List V) (Q : VK) (E : XK), Room k (A.deeper (envOfC qual (defScope st) s.heap.objs.size f cv)) → sp vs H Q E →
      ∃ t, PSs (cxOf CX0 P w K mg base N qual (defScope st) f cv A outer s H E).nox (defBody st) t ∧ t { nx := fun _ H' => Q .non H', rt := Q } (L2.start N vs) H) : FnOk P w K mg base CX0 (k + 1) f fd ps sp := by
  obtain ⟨oc, od, kV, doc, pm, an, cdv, ct, osl, rfl, lk, hcd⟩ := F.ex
  cases hc
  refine fn_of lk hcd S len fun A outer s H vs Q E hr hsp => ?_
  obtain ⟨t, h, q⟩ := hbody A outer s H vs Q E hr hsp
  exact ⟨t, h.nox, q⟩
/-- the end of a law whose program makes lambdas -/
theorem walk_tab {l : PySem.W.OpenLaw} {n k : Nat} {q : Program} {loose : List Str} {XP : (Str → Option Value) → Heap → Prop} {YP : World → Heap → Prop} {d : DefRec} {K : Params → PySem.W.Frag} {x : Str}
    (hn : l.most = some n) (hn2 : n ≤ sizeLine) (hdf : d.params.defaults = []) (hr : Room k callerA) (hY : ∀ (w : World) (h : Heap), YP w h → (K w.params).In h)
    (F : ∀ (w : World) (mg : Str → Option Value) (fa : Addr) (h : Heap), (K w.params).In h → h.Ns mainGlobals mg → mg d.name = some (.ref fa) →
      (∀ (y : Str) (c P : Addr), ((recsOf q).find? fun e => e.name == y).isSome = true → PySem.W.tabIn (K w.params) y = some (c, P) → PySem.W.CodeHd h c P ∧ h.get? P = some { cls := .none, data := .fields #[] }) → LawAtS l w (K w.params) CX0 k n x mg fa h) :
    PySem.W.WalkO q loose XP YP l.row.toRowW d [] (fun f vs => PySem.call f vs) := by
  refine Att.attach_callB hn hdf fun w s₀ s₁ mg mb fa o pm cd doc a vs ns G Y ho hd hcd hmg hobj hints hlen hbits hg => ?_
  have KX := hY w _ Y
  obtain ⟨fd, cs, sp, hT, nT, C, hb, hsp, hF⟩ := F w mg fa _ KX G.T.g hmg fun y c P hr ht => by
    obtain ⟨dr, e⟩ := Option.isSome_iff_exists.mp hr
    exact PySem.W.tab_of G.T KX e ht
  exact law_callTs KX G.T.g G.T.b G.T.builtins G.T.nolimit hg hT nT C G.T.bmain hobj hints (Nat.le_trans hlen hn2) hr hF hb (fun H hH hS => hsp H a ns hlen hbits hH hS) fun H e s' z => z
end KA
/-! a lambda without parameters, handed to an own def that calls it -/
namespace KA
open PySem PySem.Spec PyProof.Rows L2 LamX
section
variable {X : Cx}
theorem pe_lamF {T : List (Addr × Str)} {TT : (XK → Hp → VK → Prop) → Hp → VK → Prop} {x a : Str} {g c P : Addr} {k : Nat} {st : Stmt} {fd : FuncData} {Ng : List Str} {params : Arguments} {body : Expr} {scope : Scope} {t : XK → TE} {p lpos pos : Pos}
    (hg : Gl X x) (hm : X.mg x = some (.ref g)) (F : Fun X.K x x st g fd) (hb : L2.Binds X.K fd [a] []) (Sg : FnScope Ng [a] (defScope st)) (hNg : Ng[0]? = some a) (hva : Vis (defScope st) a)
    (hG : ∀ cdv, GivesTo X Ng x (defScope st) g cdv (defBody st) a (X.env.qual ++ "<lambda>") TT)
    (TB : TabB X.base X.mg c P) (hcode : X.env.code = .ref c) (hmT : (P, X.env.qual ++ "<lambda>") ∈ T) (hu : ∀ p ∈ T, p.1 = P → p.2 = X.env.qual ++ "<lambda>") (hr : Room (k + 2) X.A) (L : LamS X.env.scope scope) (hdef : defaultsOf params X.env = ([], []))
    (hbind : ∀ (q : Str) (cl : List (Str × Addr)) (pm cv ctv : Value), bindArgs (PySem.W.kla_fn "<lambda>" q params body scope cl pm cv ctv) ⟨[], []⟩ = pure [])
    (hbody : ∀ (A : Around) (outer : List Env) (s : Shared) (H : Hp) (E : XK) (f c' : Addr), Room k (A.deeper (lamEnv X scope s.heap.objs.size f c')) → PE (lamCx X A outer s H E scope f c') body (t E))
    (hdb : (x == ("__debug__" : Str)) = false := by decide) (hd : (a == ("__debug__" : Str)) = false := by decide) (hcd : (a == ("__classdict__" : Str)) = false := by decide) :
    PE X (.Call (.Name x p) [.Lambda params body scope lpos] [] pos) (tLam T TT t) := by
  obtain ⟨oc, od, kV, doc, pm, an, cdv, ct, osl, rfl, lk, hc⟩ := F.ex
  exact pe_lamcall hg hm F.kp lk hc hb Sg hNg hva (hG cdv) TB hcode hmT hu hr L hdef hbind hbody hdb hd hcd
theorem pi_listK {K' : PySem.W.Frag} {tg e : Expr} {t : TE} (hK : X.K = K') (h : PE X e t) : PI X tg e (iList K' t) := by
  subst hK
  exact pi_list h
end
end KA
/-! laws that make lambdas (tables of code grow) and in which data is shown in full (no guard stands) -/
namespace KA
open PySem PySem.Spec PyProof.Rows L2 LamX
section
variable {P : Program} {w : World} {K : PySem.W.Frag} {mg mb : Str → Option Value} {CX : CXT} {k : Nat} {fa a : Addr} {fd : FuncData} {x : Str} {sp : Sp} {s1 : Shared} {vs : List Value} {ns : List Int} {cs : List (Addr × Addr)}
/-- what the heap told of may hold before the law runs: the script's list and the empty tables -/
def AtStart (K : PySem.W.Frag) (h : Heap) (cs : List (Addr × Addr)) (H : Hp) : Prop :=
  ∀ b u, H b = some u → K.lookup b = none ∧ ((∃ ob ys vs' n, u = .frz ob (.lst ys) ∧ ob.data = .seq vs' n ∧ h.get? b = some ob) ∨ (∃ c, (c, b) ∈ cs ∧ u = .tbl #[] ∧ h.get? b = some { cls := .none, data := .fields #[] }))
theorem AtStart.free {h : Heap} {H : Hp} (A : AtStart K h cs H) {b : Addr} {o : Obj} (e : h.get? b = some o) (n1 : ∀ vs n, o.data ≠ .seq vs n) (n2 : o.data ≠ .fields #[]) : H b = none := by
  cases q : H b with
  | none => rfl
  | some u =>
    rcases (A b u q).2 with ⟨ob, ys, vs', n, _, d, g⟩ | ⟨c, _, _, g⟩
    · obtain rfl := Option.some.inj (e.symm.trans g)
      exact (n1 _ _ d).elim
    · obtain rfl := Option.some.inj (e.symm.trans g)
      exact (n2 rfl).elim
theorem law_fromT {H : Hp} (inK : K.In s1.heap) (gl : s1.heap.Ns mainGlobals mg) (bl : s1.heap.Ns builtinsNs mb) (bb : ∀ y : Str, y ≠ "__name__" → mb y = bootBuiltins y) (nolim : s1.heap.NoLimit) (nog : s1.gens = #[])
    (tb : ∀ p ∈ cs, s1.heap.get? p.2 = some { cls := .none, data := .fields #[] }) (hd : ∀ p ∈ cs, PySem.W.CodeHd s1.heap p.1 p.2)
    (bm : ∃ (m : Addr) (ob : Obj), mg "__builtins__" = some (.ref m) ∧ m ≠ builtinsNs ∧ s1.heap.get? m = some ob ∧ ob.cls = .type "module" ∧ ob.dict = some builtinsNs ∧ ob.data = .plain)
    (at_ : AtStart K s1.heap cs H) (rm : Room k callerA)
    (F : ∀ base : Heap, K.In base → base.Ns mainGlobals mg → (∀ p ∈ cs, TabB base mg p.1 p.2) → FnG P w K mg base CX k fa fd [x] sp) (bi : ∀ (s : Shared) (u : Value), BindsTo s fd ⟨[u], []⟩ [(x, u)]) (ok : HOk P w H s1.heap)
    (pr : sp [.ref a] H (fun v _ => v = .bl true) fun _ _ _ => False) (nox : ∀ e s2, CX [] H s1 (fun _ _ _ => False) e s2 → False) :
    codeAny (model P w) callerA (.call (.ref fa) ⟨[.ref a], []⟩) (fun r s2 => r = .ok (.ret (.bool true)) ∧ OldK s1.heap s2.heap ∧ s2.os = s1.os ∧ AllBare s2.gens) s1 := by
  have sees : ∀ {b : Addr} {o : Obj}, s1.heap.get? b = some o → H b = none → (hidT s1.heap H).get? b = some o := fun z n => hidT_get z n
  have dicts : ∀ {b : Addr} {mm : Str → Option Value}, s1.heap.Ns b mm → (hidT s1.heap H).Ns b mm := by
    rintro b mm ⟨o, es, ep, z, dt, rest⟩
    exact ⟨o, es, ep, sees z (at_.free z (fun vs n e => by rw [dt] at e; cases e) fun e => by rw [dt] at e; cases e), dt, rest⟩
  have inB : K.In (hidT s1.heap H) := fun b o z => sees (inK b o z) (by
    cases hb : H b with
    | none => rfl
    | some u =>
      rw [(at_ b u hb).1] at z
      cases z)
  have md : Mod K mg (hidT s1.heap H) := by
    obtain ⟨mc, n1, n2⟩ := nolim
    exact ⟨inB, dicts gl, ⟨mb, dicts bl, bb⟩, mc, dicts n1, n2⟩
  have TB : ∀ p ∈ cs, TabB (hidT s1.heap H) mg p.1 p.2 := by
    intro p hp
    have here := tb p hp
    refine ⟨?_, ?_, ?_⟩
    · obtain ⟨o, us, c1, c2, c3, c4, c5, c6, c7, z, d1, d2, d3, rest⟩ := hd p hp
      refine ⟨o, us, c1, c2, c3, c4, c5, c6, c7, sees z (at_.free z (fun vs n e => ?_) fun e => ?_), d1, d2, d3, rest⟩
      · rw [d2] at e; cases e
      · rw [d2] at e
        cases e
        simp at d3
    · obtain ⟨m, ob, b1, b2, z, b4, b5, b6⟩ := bm
      have plain : ∀ {o : Obj}, s1.heap.get? m = some o → o.data = .plain := fun g => by
        obtain rfl := Option.some.inj (z.symm.trans g)
        exact b6
      refine ⟨m, ob, b1, b2, fun e => ?_, fun e => ?_, sees z (at_.free z (fun vs n e => by rw [b6] at e; cases e) fun e => by rw [b6] at e; cases e), b4, b5, b6⟩
      · obtain ⟨o, es, ep, g, dt, _⟩ := gl
        have := plain (e.symm ▸ g)
        rw [dt] at this
        cases this
      · have := plain (e.symm ▸ here)
        cases this
    · intro e
      obtain ⟨o, es, ep, g, dt, _⟩ := gl
      rw [e] at g
      obtain rfl := Option.some.inj (here.symm.trans g)
      cases dt
  have en : Env0 P w K mg (hidT s1.heap H) callerA [] s1 H := ⟨rfl, md, fun b o z => of_hidT z, Nat.le_of_eq (hidT_size _ _), trivial, fun b z => (nomatch (show b ∈ ([] : List Addr) from z)), ok, .of_eq nog⟩
  refine codeAny_mono ((F _ inB (dicts gl) TB).go callerA [] s1 H ⟨[.ref a], []⟩ [.ref a] [.ref a] _ _ rm rfl en (bi s1 (.ref a)) (.cons rfl .nil) pr) fun r s2 z => ?_
  match r, z with
  | .error er, z => exact (nox er s2 z).elim
  | .ok .next, z => exact z.elim
  | .ok .brk, z => exact z.elim
  | .ok .cont, z => exact z.elim
  | .ok (.ret u), z =>
    obtain ⟨v, G, eos, bare, un, ok2, rel, ev⟩ := z
    have ev : v = .bl true := ev
    subst ev
    obtain rfl : u = Value.bool true := rel
    -- each cell is as it was, or a table that has grown
    have each : ∀ b o, s1.heap.get? b = some o → s2.heap.get? b = some o ∨ (∃ c more, (c, b) ∈ cs ∧ o = { cls := .none, data := .fields #[] } ∧ s2.heap.get? b = some { cls := .none, data := .fields more }) := by
      intro b o hb
      cases hH : H b with
      | none => exact .inl (un.keep b o hb hH (fun z => (nomatch (show b ∈ ([] : List Addr) from z))) (by simp))
      | some u =>
        rcases (at_ b u hH).2 with ⟨ob, ys, vs', n, rfl, _, g⟩ | ⟨c, mem, rfl, g⟩
        · have now := (ok2 b _ (un.frzs b ob _ hH)).1
          exact .inl ((Option.some.inj (hb.symm.trans g)) ▸ now)
        · obtain ⟨more, z⟩ := un.tbls b #[] hH
          exact .inr ⟨c, _, mem, Option.some.inj (hb.symm.trans g), ok2 b _ z⟩
    refine ⟨rfl, ⟨fun b o hb => ?_, fun b o hb => ?_⟩, eos, bare⟩
    · rcases each b o hb with z | ⟨c, more, mem, rfl, z⟩
      · exact .inl z
      · exact .inr (.inl ⟨((hd _ mem).tab hb).isCodeTable, rfl, #[], more, rfl, by rw [Array.empty_append]; exact z⟩)
    · rcases each b o hb with z | ⟨c, more, mem, rfl, z⟩
      · exact ⟨o, z⟩
      · exact ⟨_, z⟩
theorem law_callTG (inK : K.In s1.heap) (gl : s1.heap.Ns mainGlobals mg) (bl : s1.heap.Ns builtinsNs mb) (bb : ∀ y : Str, y ≠ "__name__" → mb y = bootBuiltins y) (nolim : s1.heap.NoLimit) (nog : s1.gens = #[])
    (tb : ∀ p ∈ cs, s1.heap.get? p.2 = some { cls := .none, data := .fields #[] }) (ntb : ∀ p ∈ cs, K.lookup p.2 = none) (hd : ∀ p ∈ cs, PySem.W.CodeHd s1.heap p.1 p.2)
    (bm : ∃ (m : Addr) (ob : Obj), mg "__builtins__" = some (.ref m) ∧ m ≠ builtinsNs ∧ s1.heap.get? m = some ob ∧ ob.cls = .type "module" ∧ ob.dict = some builtinsNs ∧ ob.data = .plain)
    (ha : s1.heap.get? a = some { cls := .type "list", data := .seq vs.toArray }) (hi : IntsAre vs ns) (hl : ns.length ≤ sizeLine) (rm : Room k callerA)
    (F : ∀ base : Heap, K.In base → base.Ns mainGlobals mg → (∀ p ∈ cs, TabB base mg p.1 p.2) → FnG P w K mg base CX k fa fd [x] sp) (bi : ∀ (s : Shared) (u : Value), BindsTo s fd ⟨[u], []⟩ [(x, u)])
    (pr : ∀ H : Hp, (∀ p ∈ cs, H p.2 = some (.tbl #[])) → SqL K H a (ns.map V.int) → sp [.ref a] H (fun v _ => v = .bl true) fun _ _ _ => False) (nox : ∀ H e s2, CX [] H s1 (fun _ _ _ => False) e s2 → False) :
    codeAny (model P w) callerA (.call (.ref fa) ⟨[.ref a], []⟩) (fun r s2 => r = .ok (.ret (.bool true)) ∧ OldK s1.heap s2.heap ∧ s2.os = s1.os ∧ AllBare s2.gens) s1 := by
  have rel := vals_ints hi
  have na : ∀ c, (c, a) ∉ cs := fun c mem => by
    have z := Option.some.inj (ha.symm.trans (tb _ mem))
    have z2 : Data.seq vs.toArray _ = Data.fields #[] := congrArg Obj.data z
    cases z2
  -- the tables' part of the heap told of
  let T : Hp := fun b => if b ∈ cs.map Prod.snd then some (.tbl #[]) else none
  have inT : ∀ {b}, b ∈ cs.map Prod.snd → ∃ c, (c, b) ∈ cs := fun {b} h => by
    obtain ⟨⟨c, b'⟩, mem, e⟩ := List.mem_map.mp h
    exact ⟨c, e ▸ mem⟩
  have tT : ∀ p ∈ cs, T p.2 = some (.tbl #[]) := fun p hp => if_pos (List.mem_map_of_mem hp)
  have Ta : T a = none := if_neg fun h => by
    obtain ⟨c, mem⟩ := inT h
    exact na c mem
  have ofT : ∀ {b u}, T b = some u → (∃ c, (c, b) ∈ cs) ∧ u = .tbl #[] := fun {b u} z => by
    by_cases hb : b ∈ cs.map Prod.snd
    · exact ⟨inT hb, (Option.some.inj ((if_pos hb).symm.trans z)).symm⟩
    · exact nomatch (if_neg hb).symm.trans z
  have stT : ∀ {b u}, T b = some u → K.lookup b = none ∧ (∃ c, (c, b) ∈ cs ∧ u = .tbl #[] ∧ s1.heap.get? b = some { cls := .none, data := .fields #[] }) := fun {b u} z => by
    obtain ⟨⟨c, mem⟩, e⟩ := ofT z
    exact ⟨ntb _ mem, c, mem, e, tb _ mem⟩
  cases own : K.lookup a with
  | some o =>
    obtain rfl := Option.some.inj (ha.symm.trans (inK a o own))
    refine law_fromT (H := T) inK gl bl bb nolim nog tb hd bm (fun b u z => ⟨(stT z).1, .inr (stT z).2⟩) rm F bi (fun b u z => ?_) (pr _ tT (.inr ⟨_, vs.toArray, _, own, rfl, rfl, rfl, by rw [List.size_toArray, hi.length]; exact hl, by simpa using rel⟩)) (nox _)
    obtain ⟨_, c, mem, rfl, g⟩ := stT z
    exact g
  | none =>
    let G : Hp := fun b => if b = a then some (.frz { cls := .type "list", data := .seq vs.toArray } (.lst (ns.map V.int))) else T b
    have Ga : G a = some (.frz { cls := .type "list", data := .seq vs.toArray } (.lst (ns.map V.int))) := if_pos rfl
    have Gn : ∀ {b}, b ≠ a → G b = T b := fun h => if_neg h
    refine law_fromT (H := G) inK gl bl bb nolim nog tb hd bm (fun b u z => ?_) rm F bi (fun b u z => ?_) (pr _ (fun p hp => ?_) (.inl (.inr ⟨_, Ga⟩))) (nox _)
    · by_cases hb : b = a
      · subst hb
        obtain rfl := Option.some.inj (Ga.symm.trans z)
        exact ⟨own, .inl ⟨_, _, vs.toArray, _, rfl, rfl, ha⟩⟩
      · rw [Gn hb] at z
        exact ⟨(stT z).1, .inr (stT z).2⟩
    · by_cases hb : b = a
      · subst hb
        obtain rfl := Option.some.inj (Ga.symm.trans z)
        exact ⟨ha, by rw [List.length_map]; exact hl, vs, _, rel, ha⟩
      · rw [Gn hb] at z
        obtain ⟨_, c, mem, rfl, g⟩ := stT z
        exact g
    · rw [Gn fun e => na p.1 (by rw [← e]; exact hp)]
      exact tT p hp
end
/-- what is known of the law's promise at the head's heap h -/
def LawAtG (l : PySem.W.OpenLaw) (w : World) (K : PySem.W.Frag) (CX : CXT) (k n : Nat) (x : Str) (mg : Str → Option Value) (fa : Addr) (h : Heap) : Prop :=
  ∃ (fd : FuncData) (cs : List (Addr × Addr)) (sp : Sp), ((∀ p ∈ cs, h.get? p.2 = some { cls := .none, data := .fields #[] }) ∧ (∀ p ∈ cs, K.lookup p.2 = none) ∧ ∀ p ∈ cs, PySem.W.CodeHd h p.1 p.2) ∧ (∀ (s : Shared) (u : Value), BindsTo s fd ⟨[u], []⟩ [(x, u)]) ∧
    (∀ (H : Hp) (a : Addr) (ns : List Int), ns.length ≤ n → (∀ p ∈ cs, H p.2 = some (.tbl #[])) → SqL K H a (ns.map V.int) → sp [.ref a] H (fun v _ => v = .bl true) fun _ _ _ => False) ∧
    ∀ base : Heap, K.In base → base.Ns mainGlobals mg → (∀ p ∈ cs, TabB base mg p.1 p.2) → FnG l.prog w K mg base CX k fa fd [x] sp
theorem walk_tabG {l : PySem.W.OpenLaw} {n k : Nat} {q : Program} {loose : List Str} {XP : (Str → Option Value) → Heap → Prop} {YP : World → Heap → Prop} {d : DefRec} {K : Params → PySem.W.Frag} {x : Str}
    (hn : l.most = some n) (hn2 : n ≤ sizeLine) (hdf : d.params.defaults = []) (hr : Room k callerA) (hY : ∀ (w : World) (h : Heap), YP w h → (K w.params).In h)
    (F : ∀ (w : World) (mg : Str → Option Value) (fa : Addr) (h : Heap), (K w.params).In h → h.Ns mainGlobals mg → mg d.name = some (.ref fa) →
      (∀ (y : Str) (c P : Addr), ((recsOf q).find? fun e => e.name == y).isSome = true → PySem.W.tabIn (K w.params) y = some (c, P) → PySem.W.CodeHd h c P ∧ h.get? P = some { cls := .none, data := .fields #[] }) → LawAtG l w (K w.params) CX0 k n x mg fa h) :
    PySem.W.WalkO q loose XP YP l.row.toRowW d [] (fun f vs => PySem.call f vs) := by
  refine Att.attach_callB hn hdf fun w s₀ s₁ mg mb fa o pm cd doc a vs ns G Y ho hd hcd hmg hobj hints hlen hbits hg => ?_
  have inK := hY w _ Y
  obtain ⟨fd, cs, sp, ⟨t1, t2, t3⟩, hb, hsp, hF⟩ := F w mg fa _ inK G.T.g hmg fun y c P hr ht => by
    obtain ⟨dr, e⟩ := Option.isSome_iff_exists.mp hr
    exact PySem.W.tab_of G.T inK e ht
  exact law_callTG inK G.T.g G.T.b G.T.builtins G.T.nolimit hg t1 t2 t3 G.T.bmain hobj hints (Nat.le_trans hlen hn2) hr hF hb (fun H hH hS => hsp H a ns hlen hH hS) fun H e s' z => z
/-- a def whose code object is known, called where no guard stands -/
theorem okCG {P : Program} {w : World} {K : PySem.W.Frag} {mg : Str → Option Value} {base : Heap} {x qual : Str} {st : Stmt} {f : Addr} {fd : FuncData} {N ps : List Str} {k : Nat} {sp : Sp} {cv : Value} (F : Fun K x qual st f fd) (hc : fd.code = cv) (S : FnScope N ps (defScope st)) (len : ∀ vs H Q E, sp vs H Q E → vs.length = ps.length)
    (bd : ∀ (A : Around) (outer : List Env) (s : Shared) (H : Hp) (vs : List V) (Q : VK) (E : XK), Room k (A.deeper (envOfC qual (defScope st) s.heap.objs.size f cv)) → (A.deeper (envOfC qual (defScope st) s.heap.objs.size f cv)).guards = some [] → sp vs H Q E →
      ∃ t, PSs (cxOf CX0 P w K mg base N qual (defScope st) f cv A outer s H E).nox (defBody st) t ∧ t { nx := fun _ H' => Q .non H', rt := Q } (L2.start N vs) H) : FnG P w K mg base CX0 (k + 1) f fd ps sp := by
  obtain ⟨oc, od, kV, doc, pm, an, cdv, ct, osl, rfl, lk, hcd⟩ := F.ex
  cases hc
  refine fng_of lk hcd S len fun A outer s H vs Q E hr hg hsp => ?_
  obtain ⟨t, h, q⟩ := bd A outer s H vs Q E hr hg hsp
  exact ⟨t, h.nox, q⟩
end KA
namespace KA
open PySem PySem.Spec PyProof.Rows L2
/-- a comprehension over a list whose values may be lists: what is known of them is kept by all but the new list -/
theorem lc_genD {K : PySem.W.Frag} {a : Addr} {xs : List V} {H : Hp} {D : Addr} (hD : H D = none) (hS : SqL K H a xs) (hl : xs.length ≤ 10000) (G : Nat → V → Hp → Prop) (hG : ∀ j v H1 H2, But D H1 H2 → G j v H1 → G j v H2)
    {g : TG} {tt : TT} {te : TE} {vs : List Nat} {σ : L2.St} {Qd : Hp → Prop}
    (turn : ∀ (i : Nat) (x : V) (H2 : Hp) (R : V → Hp → Prop) (C : Hp → Prop), xs[i]? = some x → Same H H2 → (∃ acc, H2 D = some (.lst acc)) → (∀ v H3, Same H2 H3 → G i v H3 → R v H3) → g x (wipe σ vs) H2 fun σ2 H2 => wipe σ2 vs = wipe σ vs ∧ tt σ2 H2 fun b H3 => if b = true then te σ2 H3 R else C H3)
    (fin : ∀ H' acc, Same H H' → H' D = some (.lst acc) → acc.length = xs.length → (∀ j v, acc[j]? = some v → G j v H') → Qd H') :
    ∃ W : Nat → Nat → Hp → Prop, (∃ m, W 0 m (upd H D (.lst []))) ∧ ∀ i m H, W i m H →
      ((Itl K a).stop i H ∧ Qd H) ∨ ((Itl K a).go i H ∧ ∃ Nx : Hp → Prop, (∀ H', Nx H' → ∃ m', m' < m ∧ W (i + 1) m' H') ∧ ∀ x H', (Itl K a).yld i H x H' → g x (wipe σ vs) H' fun σ2 H2 => wipe σ2 vs = wipe σ vs ∧ tt σ2 H2 fun b H3 =>
        if b = true then te σ2 H3 fun y H4 => ∃ acc, H4 D = some (.lst acc) ∧ acc.length < sizeLine ∧ Nx (upd H4 D (.lst (acc ++ [y]))) else Nx H3) := by
  refine lc_list (K := K) (a := a) (xs := xs) (fun i H' => Same H H' ∧ ∃ acc, H' D = some (.lst acc) ∧ acc.length = i ∧ ∀ j v, acc[j]? = some v → G j v H') ⟨same_upd hD, [], upd_same, rfl, fun j v h => by simp at h⟩ (fun i H' _ h => h.1.seq hS) ?_ ?_
  · rintro i x H2 hi ⟨s2, acc, e2, l2, g2⟩
    have hil : i < xs.length := (List.getElem?_eq_some_iff.mp hi).1
    refine turn i x H2 _ _ hi s2 ⟨acc, e2⟩ fun v H3 s3 hv => ?_
    have e3 := s3 _ _ e2
    refine ⟨acc, e3, ?_, fun b o h => ?_, acc ++ [v], upd_same, ?_, fun j w hj => ?_⟩
    · rw [l2]
      exact Nat.lt_of_lt_of_le (show i < 10000 by omega) (by decide)
    · rw [upd_ne (ne_of_none h hD)]
      exact s3 _ _ (s2 _ _ h)
    · rw [List.length_append, l2]
      rfl
    · refine hG j w H3 _ But.at_ ?_
      by_cases h : j < acc.length
      · rw [List.getElem?_append_left h] at hj
        exact hG j w H2 H3 (But.of s3) (g2 j w hj)
      · rw [List.getElem?_append_right (by omega)] at hj
        have : j = i := by
          have := (List.getElem?_eq_some_iff.mp hj).1
          rw [List.length_singleton] at this
          omega
        subst this
        rw [l2, Nat.sub_self] at hj
        have : v = w := Option.some.inj hj
        subst this
        exact hv
  · rintro H' ⟨s, acc, e, l, g⟩
    exact fin H' acc s e l g
end KA
namespace KA
open PySem PySem.Spec PyProof.Rows L2
/-- [.. for x in a tuple] -/
theorem lc_genT {K : PySem.W.Frag} {a : Addr} {xs : List V} {H : Hp} {D : Addr} (hD : H D = none) (hS : H a = some (.tup xs)) (hl : xs.length ≤ 10000) (G : Nat → V → Hp → Prop) (hG : ∀ j v H1 H2, NL H1 H2 → G j v H1 → G j v H2)
    {g : TG} {tt : TT} {te : TE} {vs : List Nat} {σ : L2.St} {Qd : Hp → Prop}
    (turn : ∀ (i : Nat) (x : V) (H2 : Hp) (R : V → Hp → Prop) (C : Hp → Prop), xs[i]? = some x → Same H H2 → (∀ v H3, Same H2 H3 → G i v H3 → R v H3) → g x (wipe σ vs) H2 fun σ2 H2 => wipe σ2 vs = wipe σ vs ∧ tt σ2 H2 fun b H3 => if b = true then te σ2 H3 R else C H3)
    (fin : ∀ H' acc, Same H H' → H' D = some (.lst acc) → acc.length = xs.length → (∀ j v, acc[j]? = some v → G j v H') → Qd H') :
    ∃ W : Nat → Nat → Hp → Prop, (∃ m, W 0 m (upd H D (.lst []))) ∧ ∀ i m H, W i m H →
      ((Itt K a).stop i H ∧ Qd H) ∨ ((Itt K a).go i H ∧ ∃ Nx : Hp → Prop, (∀ H', Nx H' → ∃ m', m' < m ∧ W (i + 1) m' H') ∧ ∀ x H', (Itt K a).yld i H x H' → g x (wipe σ vs) H' fun σ2 H2 => wipe σ2 vs = wipe σ vs ∧ tt σ2 H2 fun b H3 =>
        if b = true then te σ2 H3 fun y H4 => ∃ acc, H4 D = some (.lst acc) ∧ acc.length < sizeLine ∧ Nx (upd H4 D (.lst (acc ++ [y]))) else Nx H3) := by
  refine lc_tup (K := K) (a := a) (xs := xs) (fun i H' => Same H H' ∧ ∃ acc, H' D = some (.lst acc) ∧ acc.length = i ∧ ∀ j v, acc[j]? = some v → G j v H') ⟨same_upd hD, [], upd_same, rfl, fun j v h => by simp at h⟩ (fun i H' _ h => .inl (.inl (h.1 _ _ hS))) ?_ ?_
  · rintro i x H2 hi ⟨s2, acc, e2, l2, g2⟩
    have hil : i < xs.length := (List.getElem?_eq_some_iff.mp hi).1
    refine turn i x H2 _ _ hi s2 fun v H3 s3 hv => ?_
    have e3 := s3 _ _ e2
    refine ⟨acc, e3, ?_, fun b o h => ?_, acc ++ [v], upd_same, ?_, fun j w hj => ?_⟩
    · rw [l2]
      exact Nat.lt_of_lt_of_le (show i < 10000 by omega) (by decide)
    · rw [upd_ne (ne_of_none h hD)]
      exact s3 _ _ (s2 _ _ h)
    · rw [List.length_append, l2]
      rfl
    · refine hG j w H3 _ (NL.at_ e3) ?_
      by_cases h : j < acc.length
      · rw [List.getElem?_append_left h] at hj
        exact hG j w H2 H3 (NL.of s3) (g2 j w hj)
      · rw [List.getElem?_append_right (by omega)] at hj
        have : j = i := by
          have := (List.getElem?_eq_some_iff.mp hj).1
          rw [List.length_singleton] at this
          omega
        subst this
        rw [l2, Nat.sub_self] at hj
        have : v = w := Option.some.inj hj
        subst this
        exact hv
  · rintro H' ⟨s, acc, e, l, g⟩
    exact fin H' acc s e l g
theorem op_notIn_seqK {X : Cx} {K' : PySem.W.Frag} (hK : X.K = K') : OpR X (compareOp .NotIn) (rIn K' true) := by
  subst hK
  exact op_notIn_seq
end KA
namespace KA
open PySem PySem.Spec PyProof.Rows L2
section
variable {X : Cx}
/-- a text once, or not at all -/
theorem op_mul01 : OpR X (binaryOp .Mult) (fun x y H Q => ∃ (z : Str) (b : Bool), x = .str z ∧ y = .int (if b then 1 else 0) ∧ z.length ≤ sizeLine ∧ Q (.str (if b then z else Str.empty)) H) := by
  intro pins s σ H x y v u Q I rx ry h
  obtain ⟨z, b, rfl, rfl, hz, q⟩ := h
  obtain ⟨t, rfl⟩ := rx
  obtain ⟨t', rfl⟩ := ry
  cases b with
  | true =>
    refine PySem.P.mul_str (by decide) (fun _ h => by simp at h) (fun _ h => by simp at h) ?_
    rw [if_neg (by decide), if_pos (by simp)]
    exact ⟨.str z, H, I, ⟨_, rfl⟩, q⟩
  | false =>
    refine PySem.P.mul_str (by decide) (fun h _ => absurd (by decide) h) (fun h _ => absurd (by decide) h) ?_
    rw [if_pos (by decide)]
    exact ⟨by decide +kernel, ⟨.str Str.empty, H, I.tok _, ⟨_, rfl⟩, q⟩⟩
end
end KA
namespace KA
open PySem PySem.Spec PyProof.Rows L2
section
variable {X : Cx}
/-- a sign many times, from none on -/
theorem op_mulN : OpR X (binaryOp .Mult) (fun x y H Q => ∃ (z : Str) (k : Int), x = .str z ∧ y = .int k ∧ 0 ≤ k ∧ k ≤ 100000 ∧ (∃ c, z.cps = #[c]) ∧ Q (.str (timesS z k.toNat)) H) := by
  intro pins s σ H x y v u Q I rx ry h
  obtain ⟨z, k, rfl, rfl, h0, h3, hc, q⟩ := h
  by_cases h2 : 2 ≤ k
  · exact op_mulS pins s σ H _ _ v u Q I rx ry ⟨z, k, rfl, rfl, h2, h3, hc, q⟩
  · have hz : z.length = 1 := by
      obtain ⟨c, hc⟩ := hc
      show z.cps.size = 1
      rw [hc]
      rfl
    have hl : z.length ≤ sizeLine := by
      rw [hz]
      decide
    by_cases h1 : k = 1
    · subst h1
      refine op_mul01 pins s σ H _ _ v u Q I rx ry ⟨z, true, rfl, rfl, hl, ?_⟩
      have e : timesS z (1 : Int).toNat = z := by
        obtain ⟨c, hc⟩ := hc
        refine TL.ext_tl ?_
        show (timesS z 1).cps.toList = z.cps.toList
        rw [times_list hc, hc]
        rfl
      rw [e] at q
      exact q
    · have : k = 0 := by omega
      subst this
      exact op_mul01 pins s σ H _ _ v u Q I rx ry ⟨z, false, rfl, rfl, hl, q⟩
end
end KA
namespace KA
open PySem PySem.Spec PyProof.Rows L2
section
variable {X : Cx} {a b : Expr} {ta tb : TE} {rest : List Expr} {pos : Pos} {K' : PySem.W.Frag}
/-- a or b, a of any kind whose truth is known -/
def tOrW (K : PySem.W.Frag) (ta tb : TE) : TE := fun σ H Q => ta σ H fun x H1 => ∃ k, TruW K x H1 k ∧ if k = true then Q x H1 else tb σ H1 Q
theorem pe_orW (eK : X.K = K') (h1 : PE X a ta) (h2 : PE X (.BoolOp .Or (b :: rest) pos) tb) : PE X (.BoolOp .Or (a :: b :: rest) pos) (tOrW K' ta tb) := by
  subst eK
  refine ⟨fun pins s σ H Q I h => BoolOp_or (thn (h1.run pins s σ H _ I h) fun v s1 ⟨x, H1, I1, r1, k, e, q1⟩ => ?_)⟩
  refine thn (truW_ok pins s1 σ H1 x v (fun c G => c = k ∧ G = H1) I1 r1 ⟨k, e, rfl, rfl⟩) fun c s2 ⟨G, I2, e1, e2⟩ => ?_
  subst e2 e1
  cases c with
  | false => exact h2.run pins s2 σ G Q I2 q1
  | true => exact ⟨x, G, I2, r1, q1⟩
end
end KA
namespace KA
open PySem PySem.Spec PyProof.Rows L2
section
variable {X : Cx} {n : Nat} {CX : CXT} {C f : Addr} {fd : FuncData} {ps : List Str} {sp : Sp} {E : XK}
theorem run_selfG {A : Around} {pins : List (Addr × Obj)} {σ : L2.St} {H : Hp} {s : Shared} {a : Addr} {Q : VK} (F : FnG X.prog X.w X.K X.mg X.base CX n f fd ps sp) (hb : Binds X.K fd ps []) (hx : Passes CX X E) (hr : Room n A) (gd : A.guards = some []) (hA : A.frames = X.A.frames) (I : L2.Inv X pins σ H s)
    (hsp : sp [.ref a] H (fun v H' => (∃ m, v = .str m) ∧ Q v H') E) : wpAny (model X.prog X.w) A (call (.ref f) [.ref a]) (fun r s' => ∃ m tk, r = .str m tk ∧ EP X pins σ Q (.str m tk) s') X.xe s := by
  have e0 : Env0 X.prog X.w X.K X.mg X.base A X.stack s H := by
    have e := I.env0
    exact ⟨by rw [hA]; exact e.frames, e.mod, e.bs, e.bsz, e.funs, e.frf, e.hok, e.bare⟩
  have hl := F.ln _ _ _ _ hsp
  have r2 : Vals [V.ref a] [Value.ref a] := .cons rfl .nil
  refine wpAny_call (codeAny_mono (F.go A X.stack s H ⟨[.ref a], []⟩ [.ref a] [.ref a] _ E hr gd e0 (by
    have := hb s [.ref a] I.kIn (by simpa using hl)
    simpa using this) r2 hsp) fun r s' hq => ?_)
  cases r with
  | error e => exact hx pins σ H s e s' I hq
  | ok fl =>
    cases fl with
    | ret w =>
      obtain ⟨z, H', I', rz, ⟨m, ez⟩, q⟩ := I.after hq
      subst ez
      obtain ⟨tk, rfl⟩ := (show ∃ t, w = Value.str m t from rz)
      exact ⟨m, tk, rfl, .str m, H', I', ⟨tk, rfl⟩, q⟩
    | next => exact False.elim hq
    | brk => exact False.elim hq
    | cont => exact False.elim hq
/-- repr(x), x of an own class whose __repr__ wants that nothing is being shown -/
theorem call_reprOG (F : FnG X.prog X.w X.K X.mg X.base CX n f fd ps sp) (hs : PySem.W.findIn X.K (.ref C) "__repr__" = some (some (.ref f))) (hf : PySem.W.isFn X.K (.ref f) = true) (hb : Binds X.K fd ps []) (hx : Passes CX X E) (hr : Room (n + 1) X.A) (gd : X.A.guards = some []) :
    CallR X (.builtin "repr") (rShow C sp E) := by
  intro pins s σ H xs us Q I r h
  obtain ⟨a, dx, fs, rfl, ha, hsp⟩ := h
  obtain ⟨u, rfl, r1⟩ := vals1 r
  cases (show u = Value.ref a from r1)
  obtain ⟨mA, J, _⟩ := ins_get I.hok ha
  obtain ⟨od, J, _⟩ := J.look
  exact repr_K hr.in1.units0 I.kIn J hs hf (run_selfG F hb hx hr.in1 gd rfl I hsp)
end
end KA
namespace KA
open PySem PySem.Spec PyProof.Rows L2
section
variable {prog : Program} {w : World} {A : Around} {E : Value → Shared → Prop} {s : Shared}
theorem back_adjust (n : Nat) : Builtin.Slice.sliceAdjust none none (-1) (n : Int) = ((n : Int) - 1, -1) := rfl
theorem back_places (n : Nat) : Builtin.Slice.slicePlaces ((n : Int) - 1) (-1) (-1) = n := by
  unfold Builtin.Slice.slicePlaces
  rw [if_neg (by decide)]
  by_cases h : n = 0
  · subst h; rfl
  · rw [if_pos (by omega)]
    have e : ((n : Int) - 1 - -1 - 1) / (- -1) = (n : Int) - 1 := by
      rw [show (- -1 : Int) = 1 from rfl, Int.ediv_one]
      omega
    rw [e]
    omega
theorem back_pick (xs : Array Value) : ((List.range xs.size).filterMap fun (k : Nat) => xs[(((xs.size : Nat) : Int) - 1 + (k : Int) * (-1)).toNat]?).toArray = xs.toList.reverse.toArray := by
  congr 1
  have key : ∀ n, n ≤ xs.size → ((List.range n).filterMap fun (k : Nat) => xs[(((xs.size : Nat) : Int) - 1 + (k : Int) * (-1)).toNat]?) = xs.toList.reverse.take n := by
    intro n
    induction n with
    | zero => intro _; rfl
    | succ n ih =>
      intro hn
      have e : (((xs.size : Nat) : Int) - 1 + (n : Int) * (-1)).toNat = xs.size - 1 - n := by omega
      have e2 : xs.toList.reverse[n]? = some (xs[xs.size - 1 - n]'(by omega)) := by
        rw [List.getElem?_reverse (by rw [Array.length_toList]; omega)]
        simp
      rw [List.range_succ, List.filterMap_append, ih (by omega), List.take_add_one, e2, List.filterMap_cons, e, Array.getElem?_eq_getElem (by omega)]
      rfl
  rw [key xs.size (Nat.le_refl _), List.take_of_length_le (by rw [List.length_reverse, Array.length_toList]; exact Nat.le_refl _)]
theorem back_applied {sl : Addr} {vk : Value} {n : Nat} {Q : Int × Int × Nat → Shared → Prop} {vl vu : Value} (hs : s.heap.IsSliceOf sl vl vu vk) (pl : IsPart vl none) (pu : IsPart vu none) (pk : IsPart vk (some (-1)))
    (h : Q ((n : Int) - 1, -1, n) s) : wpAny (model prog w) A (Builtin.Slice.sliceApplied (.ref sl) (pure (n : Int))) Q E s := by
  obtain ⟨os, hos, hcs, hds⟩ := id hs
  unfold Builtin.Slice.sliceApplied Builtin.Slice.sliceFields
  refine wpAny_bind (wpAny_bind (wpAny_field hos hds (x := vl) rfl (wpAny_bind (wpAny_field hos hds (x := vu) rfl (wpAny_bind (wpAny_field hos hds (x := vk) rfl (wpAny_pure ?_)))))))
  refine wpAny_bind (HT.slicePart_ pk ?_)
  show wpAny _ _ (if ((-1 : Int) == 0) = true then _ else _) _ _ s
  rw [if_neg (by decide)]
  refine wpAny_bind (HT.slicePart_ pl (wpAny_bind (HT.slicePart_ pu (wpAny_bind (wpAny_pure ?_)))))
  show wpAny _ _ (match Builtin.Slice.sliceAdjust none none (-1) (n : Int) with | (lo, hi) => pure (lo, (-1 : Int), Builtin.Slice.slicePlaces lo hi (-1))) _ _ s
  rw [back_adjust]
  show wpAny _ _ (pure ((n : Int) - 1, (-1 : Int), Builtin.Slice.slicePlaces ((n : Int) - 1) (-1) (-1))) _ _ s
  rw [back_places]
  exact wpAny_pure h
/-- t[::-1] of a tuple -/
theorem back_tuple {t sl : Addr} {items : Array Value} {vl vu vk : Value} {Q : Value → Shared → Prop} (ht : IsTup s.heap t items) (hs : s.heap.IsSliceOf sl vl vu vk) (pl : IsPart vl none) (pu : IsPart vu none) (pk : IsPart vk (some (-1)))
    (h : Q (.ref s.heap.objs.size) { s with heap := s.heap.push { cls := .type "tuple", data := .seq items.toList.reverse.toArray } }) (hsz : items.size ≤ sizeLine) : wpAny (model prog w) A (getItem (.ref t) (.ref sl)) Q E s := by
  have hok : sizeOk (.seq items.toList.reverse.toArray) := by
    show items.toList.reverse.toArray.size ≤ sizeLine
    rw [List.size_toArray, List.length_reverse, Array.length_toList]
    exact hsz
  obtain ⟨os, hos, hcs, hds⟩ := id hs
  have hTs : s.TypeIs (.ref sl) "slice" := ⟨os, hos, hcs⟩
  unfold getItem
  try with_reducible refine wpAny_holding ?_
  first | refine wpAny_bind (wpAny_pure ?_) | skip
  refine wpAny_bind (wpAny_sequenceKey ht.typeIs (by decide) ?_)
  refine wpAny_bind (wpAny_callSpecial?_slot (name := Str.ofString "__getitem__") ht.typeIs PyProof.Rows.slot_tuple_getitem
    (wpAny_call_entry PyProof.Rows.slot_tuple_getitem ht.typeIs PyProof.Rows.entry_tuple_getitem ?_ (PyProof.Rows.args_tuple_getitem _ _)))
  show wpAny _ _ (Builtin.Tuple.tupleItemsOf (.ref t) >>= _) _ _ s
  refine wpAny_bind (PyProof.Rows.tupleItemsOf_ ht (wpAny_bind (wpAny_typeOf hTs ?_)))
  rw [if_pos (by decide)]
  refine wpAny_bind (back_applied (n := items.size) hs pl pu pk ?_)
  have hno : ¬ ((((items.size : Nat) : Int) - 1 == 0 && (-1 : Int) == 1 && items.size == items.size) = true) := by
    intro q
    rw [Bool.and_eq_true, Bool.and_eq_true] at q
    exact absurd q.1.2 (by decide)
  show wpAny _ _ (if (((items.size : Nat) : Int) - 1 == 0 && (-1 : Int) == 1 && items.size == items.size) = true then _ else _) _ _ s
  rw [if_neg hno, back_pick]
  first
    | exact wpAny_bind (m := Builtin.Tuple.tupleExact _) (wpAny_newObj_type (wpAny_pure ⟨_, rfl, wpAny_pure h⟩) hok)
    | exact wpAny_bind (m := Builtin.Tuple.tupleExact _) (wpAny_newObj_type (wpAny_bind (wpAny_pure (wpAny_pure ⟨_, rfl, wpAny_pure h⟩))) hok)
    | exact wpAny_bind (wpAny_bind (m := Builtin.Tuple.tupleExact _) (wpAny_newObj_type (wpAny_pure (wpAny_pure ⟨_, rfl, wpAny_pure h⟩)) hok))
    | exact wpAny_bind (wpAny_bind (m := Builtin.Tuple.tupleExact _) (wpAny_newObj_type (wpAny_pure ⟨_, rfl, wpAny_pure h⟩) hok))
end
section
variable {X : Cx}
def tRevT (K : PySem.W.Frag) (te : TE) : TE := fun σ H Q => te σ H fun x H1 => ∃ a xs, x = .ref a ∧ SqT K H1 a xs ∧ ∀ p, H1 p = none → Q (.ref p) (upd H1 p (.tup xs.reverse))
theorem pe_revT {e : Expr} {te : TE} {k : Nat} {p1 p2 p3 pos : Pos} (he : PE X e te) : PE X (.Subscript e (.Slice none none (some (.UnaryOp .USub (.Constant (.int 1) k p1) p2)) p3) pos) (tRevT X.K te) := by
  refine ⟨fun pins s σ H Q I h => ?_⟩
  refine Subscript_ (thn (he.run pins s σ H _ I h) fun v s1 ⟨x, H1, I1, r1, q1⟩ => ?_)
  obtain ⟨a, xs, ex, hx, q⟩ := q1
  subst ex
  cases r1
  have part : PO X (some (.UnaryOp .USub (.Constant (.int 1) k p1) p2)) (tPart (tUn (rU fun i => .int (-i)) (tC (.int 1)))) := po_some (pe_un un_neg pe_int)
  refine wpAny_Slice (thn (po_none.run pins s1 σ H1 (fun o Hx => o = none ∧ Hx = H1) I1 ⟨rfl, rfl⟩) fun vl s2 ⟨l, H2, I2, pl, el, e2⟩ => ?_)
  subst el e2
  refine thn (po_none.run pins s2 σ H2 (fun o Hx => o = none ∧ Hx = H2) I2 ⟨rfl, rfl⟩) fun vu s3 ⟨u, H3, I3, pu, eu, e3⟩ => ?_
  subst eu e3
  refine thn (part.run pins s3 σ H3 (fun o Hx => o = some (-1) ∧ Hx = H3) I3 ⟨1, rfl, -1, rfl, rfl, rfl⟩) fun vs s4 ⟨o, H4, I4, ps, eo, e4⟩ => ?_
  subst eo e4
  have J : L2.Inv X pins σ H4 { s4 with heap := s4.heap.push { cls := .type "slice", data := .fields #[vl, vu, vs] } } := I4.kept (t' := s4.toks) fun b ob q => Heap.get?_push_of_some _ q
  obtain ⟨its, r, ht, hz⟩ := J.tuple hx
  have hlen := r.length
  show wpAny (model X.prog X.w) X.A (subscriptTail e (.Slice none none (some (.UnaryOp .USub (.Constant (.int 1) k p1) p2)) p3) (.ref a) (.ref s4.heap.objs.size)) (EP X pins σ Q) X.xe { s4 with heap := s4.heap.push { cls := .type "slice", data := .fields #[vl, vu, vs] } }
  refine tail_any (ops := [.ref a, .ref s4.heap.objs.size]) ht.typeIs (PyProof.Rows.slot_tuple_getitem.lookup) ?_ (by with_unfolding_all rfl)
  refine back_tuple ht (Heap.IsSliceOf.new _ vl vu vs) pl pu ps ?_ (by rw [List.size_toArray]; omega)
  refine ⟨.ref _, _, J.laid (t' := s4.toks) (o := .tup xs.reverse) (fun b ob q => Heap.get?_push_of_some _ q) (Nat.le_refl _) ?_, rfl, q _ (J.hok.fresh (Nat.le_refl _))⟩
  exact ⟨by rw [List.length_reverse]; exact hz, _, r.reverse, IsTup.new _ _⟩
end
end KA
/-! set(xs) of a list of whole numbers -/
namespace KA
open PySem PySem.Spec PyProof.Rows L2
/-- a set without members, as it is made -/
abbrev set0 (w : World) : Obj := { cls := .type "set", dict := none, data := .set #[] 0 (.fresh 0 0 (!w.params.followText "set-order")) }
section
variable {P : Program} {w : World} {A : Around} {E : Value → Shared → Prop} {s : Shared}
/-- the new set has got the numbers ns, all that stood stands -/
def Filled (w : World) (s : Shared) (ns : List Int) (s2 : Shared) : Prop := ∃ h' tk c, s2 = { s with heap := h', toks := tk } ∧ SetR w h' s.heap.objs.size (fun j => decide (j ∈ ns)) c ∧ c ≤ ns.length ∧ ∀ b o, s.heap.get? b = some o → h'.get? b = some o
theorem set_listI {l : Addr} {items : Array Value} {ns : List Int} {Q : Value → Shared → Prop} (hh : A.handled = none) (hl : s.heap.IsList l items) (hit : IntsAre items.toList ns) (hb : ns.length + 1 < scanBound)
    (h : ∀ s2, Filled w s ns s2 → Q (.ref s.heap.objs.size) s2) : wpAny (model P w) A (call (.type "set") [.ref l]) Q E s := by
  have size : items.size = ns.length := by rw [← Array.length_toList]; exact IntsAre.length hit
  obtain ⟨ob, at_l, cls_l, ep, dat_l⟩ := id hl
  have below : l < s.heap.objs.size := Heap.lt_size at_l
  have at_S : (s.heap.push (set0 w)).get? s.heap.objs.size = some (set0 w) := Heap.get?_push_size _ rfl
  have ty_S : Shared.TypeIs { s with heap := s.heap.push (set0 w) } (.ref s.heap.objs.size) "set" := ⟨_, at_S, rfl⟩
  have l1 : (s.heap.push (set0 w)).IsList l items := hl.push _
  have zI : (s.heap.push (set0 w)).objs.size = s.heap.objs.size + 1 := Heap.size_push ..
  have each : ∀ (i : Nat) (v : Value), items[i]? = some v → ∃ k t, ns[i]? = some k ∧ v = .int k t := fun i v hv => by
    have hi : i < ns.length := by rw [← size]; exact (Array.getElem?_eq_some_iff.mp hv).1
    obtain ⟨t, e⟩ := PyProof.Rows.IntsAre.int_at hit i v (by rw [Array.getElem?_toList]; exact hv)
    exact ⟨ns[i], t, List.getElem?_eq_getElem hi, by rw [e, List.getD_eq_getElem?_getD, List.getElem?_eq_getElem hi] <;> rfl⟩
  have init : ∀ {B : Around}, B.handled = none → codeAny (model P w) B (.call (.builtin "set.__init__") ⟨[.ref s.heap.objs.size, .ref l], []⟩) (wants (fun r s2 => r = .none ∧ Filled w s ns s2) E) { s with heap := s.heap.push (set0 w) } := fun {B} hB => by
    refine codeAny_call_builtin F.called_set.init.plain F.entry_set_init (check_set_init_1 ty_S ?_)
    have hB3 : B.in1.in1.handled = none := by simp [hB]
    have nS := F.sub_list_set
    have nF := F.sub_list_frozenset
    have nD : (Value.type "list" == Value.type "dict") = false := by decide
    obtain ⟨ocls, odict, odata, oslots⟩ := ob
    simp only at cls_l dat_l
    subst cls_l dat_l
    have at1 : (s.heap.push (set0 w)).get? l = some { cls := .type "list", dict := odict, data := .seq items ep, slots := oslots } := Heap.get?_push_of_some _ at_l
    unfold Builtin.«set.__init__» noKeywords Builtin.Frozenset.updateFrom
    generalize eI : pyIter = it
    wp_walk
    subst eI
    refine wpAny_pyIter_list l1 (wpAny_bind (wpAny_runValue ?_))
    have far : l ≠ (s.heap.push (set0 w)).objs.size := by rw [zI]; exact Nat.ne_of_lt (Nat.lt_succ_of_lt below)
    have apart : s.heap.objs.size ∉ [(s.heap.push (set0 w)).objs.size, l] := fun z => by
      rw [zI] at z
      rcases List.mem_cons.mp z with z | z
      · exact absurd z (Nat.ne_of_lt (Nat.lt_succ_self _))
      · exact absurd (List.mem_singleton.mp z) (Nat.ne_of_gt below)
    refine set_update_ints ((Walks.list hB3 _ l far items).toS) s.heap.objs.size apart ns size hb each items.size 0 _ (by omega) (Nat.zero_le _) ?stand ?first fun s2 c m hc hS => ?_
    case stand => exact ⟨⟨_, Heap.get?_push_size _ rfl, rfl, rfl⟩, l1.push _⟩
    case first => exact ⟨0, Nat.le_refl 0, setR_new_at (Heap.get?_push_of_some _ at_S)⟩
    · obtain ⟨h2, g2, d2, t2, o2⟩ := s2
      obtain rfl : g2 = s.gens := m.gens
      obtain rfl : d2 = s.drawn := m.drawn
      obtain rfl : o2 = s.os := m.os
      refine wpAny_pure (wpAny_pure ⟨rfl, h2, t2, c, rfl, hS, by omega, fun b o e => ?_⟩)
      have hb0 : @LT.lt Nat _ b s.heap.objs.size := Heap.lt_size e
      refine m.heap b o (fun z => ?_) (Heap.get?_push_of_some _ (Heap.get?_push_of_some _ e))
      rw [zI] at z
      rcases List.mem_cons.mp z with z | z
      · exact absurd z (Nat.ne_of_lt hb0)
      · exact absurd (List.mem_singleton.mp z) (Nat.ne_of_lt (Nat.lt_succ_of_lt hb0))
  obtain ⟨c, tl, mro_⟩ := F.called_set.mro
  have made_ := F.called_set.made
  have sub_ := F.called_set.sub
  have q1 := F.called_set.notType
  have q2 := F.called_set.canCreate
  have q3 := F.typeCall_set_1 (.ref l)
  refine wpAny_call (codeAny_of_tree (show wpAny _ _ (callAny (.type "set") _) _ _ _ from wpAny_pure ⟨Code.quiet_builtin _ (by decide +kernel), codeAny_builtin F.entry_type_call ?_⟩))
  rw [Around.under_plain (weight_type_call_type "set" [.ref l] []) rfl]
  repeat any_goals first | assumption | wp_step
  refine codeAny_mono (code_set_led1 (E := E) (.ref l) (Q₁ := fun z s1 => z = .ref s.heap.objs.size ∧ s1 = { s with heap := s.heap.push (set0 w) }) ⟨rfl, rfl⟩) (fun r s1 hr => ?_)
  cases r with
  | error e => exact hr
  | ok fl =>
    cases fl with
    | ret z =>
      obtain ⟨rfl, rfl⟩ := hr
      have i1 := F.called_set.init.lookup
      have i2 := F.called_set.init.bind (.ref s.heap.objs.size)
      repeat any_goals first | assumption | wp_step
      refine codeAny_mono (init (by simp [hh])) fun r2 s2 hr2 => ?_
      cases r2 with
      | error e => exact hr2
      | ok fl2 =>
        cases fl2 with
        | ret z2 =>
          obtain ⟨rfl, hF⟩ := hr2
          have := h s2 hF
          obtain ⟨h2, t2, c2, rfl, hS, hc, kp⟩ := hF
          repeat any_goals first | assumption | wp_step
        | next => exact hr2.elim
        | brk => exact hr2.elim
        | cont => exact hr2.elim
    | next => exact hr.elim
    | brk => exact hr.elim
    | cont => exact hr.elim
end
section
variable {X : Cx}
/-- set(xs) of a list of whole numbers -/
def rSetL0 (K : PySem.W.Frag) (w : World) : List V → Hp → VK → Prop := fun vs H Q => ∃ (l : Addr) (ns : List Int), vs = [.ref l] ∧ SqL K H l (ns.map V.int) ∧ ns.length ≤ 1000 ∧
  ∀ (p : Addr) (c : Nat), H p = none → c ≤ ns.length → Q (.ref p) (upd H p (SetO w p (fun j => decide (j ∈ ns)) c))
theorem call_setL (hc : X.calm = true) : CallR X (.type "set") (rSetL0 X.K X.w) := by
  intro pins s σ H vs us Q I r h
  obtain ⟨l, ns, rfl, hl, hn, q⟩ := h
  obtain rfl := Vals.ref1 r
  obtain ⟨its, rv, pl, _⟩ := I.list hl
  refine set_listI (I.ok.hd hc) pl.isList (by simpa using ints_of_vals rv) (Nat.lt_of_le_of_lt (Nat.add_le_add_right hn 1) (by decide)) fun s2 hF => ?_
  obtain ⟨h2, t2, c, rfl, hS, hc2, kp⟩ := hF
  exact ⟨.ref _, _, I.laid (t' := t2) (a := s.heap.objs.size) (o := SetO X.w s.heap.objs.size (fun j => decide (j ∈ ns)) c) kp (Nat.le_refl _) (setO_new hS), rfl, q _ c (I.hok.fresh (Nat.le_refl _)) hc2⟩
end
end KA
/-! len(set(xs)) of a tuple of texts; len(range(n)); sorted of a tuple of texts; a tuple of texts shown -/
namespace KA
open PySem PySem.Spec PyProof.Rows L2
/-- the texts of the first i -/
def seenS (xs : List Str) (i : Nat) : Str → Bool := fun z => (xs.take i).any (· == z)
/-- how many unlike ones are among the first i -/
def unlikeN (xs : List Str) : Nat → Nat
  | 0 => 0
  | i + 1 => if seenS xs i (xs.getD i Str.empty) = true then unlikeN xs i else unlikeN xs i + 1
theorem unlikeN_le (xs : List Str) : ∀ i, unlikeN xs i ≤ i
  | 0 => Nat.le_refl _
  | i + 1 => by
    have := unlikeN_le xs i
    have e : unlikeN xs (i + 1) = if seenS xs i (xs.getD i Str.empty) = true then unlikeN xs i else unlikeN xs i + 1 := rfl
    rw [e]
    split <;> omega
theorem seenS_iff {xs : List Str} {i : Nat} {z : Str} : seenS xs i z = true ↔ z ∈ xs.take i := by
  unfold seenS
  rw [List.any_eq_true]
  constructor
  · rintro ⟨y, h, e⟩
    rw [beq_iff_eq] at e
    rw [← e]
    exact h
  · intro h
    exact ⟨z, h, beq_self_eq_true z⟩
theorem take_snoc {xs : List Str} {i : Nat} (h : i < xs.length) : xs.take (i + 1) = xs.take i ++ [xs.getD i Str.empty] := by
  rw [List.take_add_one, List.getElem?_eq_getElem h, List.getD_eq_getElem?_getD, List.getElem?_eq_getElem h]
  rfl
theorem unlikeN_all (xs : List Str) : ∀ i, i ≤ xs.length → (unlikeN xs i = i ↔ (xs.take i).Nodup)
  | 0, _ => by simp [unlikeN]
  | i + 1, h => by
    have ih := unlikeN_all xs i (by omega)
    have le := unlikeN_le xs i
    rw [take_snoc (by omega), List.nodup_append]
    show (if seenS xs i (xs.getD i Str.empty) = true then unlikeN xs i else unlikeN xs i + 1) = i + 1 ↔ _
    by_cases hs : seenS xs i (xs.getD i Str.empty) = true
    · rw [if_pos hs]
      refine ⟨fun e => by omega, fun ⟨_, _, h3⟩ => absurd rfl (h3 _ (seenS_iff.mp hs) _ (List.mem_singleton.mpr rfl))⟩
    · rw [if_neg hs]
      constructor
      · intro e
        refine ⟨ih.mp (by omega), by simp, fun a ha b hb e2 => hs (seenS_iff.mpr ?_)⟩
        rw [← List.mem_singleton.mp hb, ← e2]
        exact ha
      · rintro ⟨h1, _, _⟩
        have := ih.mpr h1
        omega
section
variable {P : Program} {w : World} {A : Around} {R : Result → Shared → Prop} {I : Addr} {fp wr : List Addr} {G : Array GenState → Array GenState → Prop} {n : Nat} {Pv : Nat → Value → Prop} {St : Nat → Shared → Prop}
theorem upd_texts (W : WalksS P w A.in1 I fp wr G n Pv St) (S : Addr) (far : S ∉ fp) (xs : List Str) (len : xs.length = n) (few : n + 1 < scanBound) (each : ∀ i v, Pv i v → ∃ t, v = .str (xs.getD i Str.empty) t) :
    ∀ (k i : Nat) (s : Shared), n - i = k → i ≤ n → St i s → s.heap.SetOf (PySem.strKind P w) S (seenS xs i) (unlikeN xs i) →
      (∀ s2, Moved (S :: wr) G s s2 → s2.heap.SetOf (PySem.strKind P w) S (seenS xs n) (unlikeN xs n) → R (.ok (.ret .none)) s2) → codeAny (model P w) A (.builtin "set.update.loop" ⟨[.ref S, .ref I], []⟩) R s
  | 0, i, s, hk, hi, hst, hS, done => by
    obtain rfl : i = n := by omega
    refine codeAny_builtin F.entry_set_update_loop ?_
    rw [Around.under_plainId F.plain_set_update_loop _]
    refine wpAny_bind (m := pyNext (.ref I)) (W.done s _ _ hst fun s2 m => ?_)
    have far2 : S ∉ wr := fun z => far (W.sub _ z)
    refine wpAny_pure (done s2 (m.mono fun b hb => List.mem_cons_of_mem _ hb) ?_)
    obtain ⟨o, es, ep, t, ho, rest⟩ := hS
    exact ⟨o, es, ep, t, m.heap S _ far2 ho, rest⟩
  | k + 1, i, s, hk, hi, hst, hS, done => by
    have lt : i < n := by omega
    have far2 : S ∉ wr := fun z => far (W.sub _ z)
    refine codeAny_builtin F.entry_set_update_loop ?_
    rw [Around.under_plainId F.plain_set_update_loop _]
    refine wpAny_bind (m := pyNext (.ref I)) (W.item i s _ _ lt hst fun v s2 hP hst2 m => ?_)
    obtain ⟨t, rfl⟩ := each i v hP
    have hS2 : s2.heap.SetOf (PySem.strKind P w) S (seenS xs i) (unlikeN xs i) := by
      obtain ⟨o, es, ep, t, ho, rest⟩ := hS
      exact ⟨o, es, ep, t, m.heap S _ far2 ho, rest⟩
    refine wpAny_bind (m := holding [Value.str (xs.getD i Str.empty) t] (setAdd S (.str (xs.getD i Str.empty) t))) (wpAny_holding ?_)
    unfold setAdd
    refine wpAny_holding (wpAny_bind ((PySem.strKind P w).pyHash (k := xs.getD i Str.empty) (strKind_is _ _ _ _) ?_))
    have le := unlikeN_le xs i
    refine wpAny_setAddHashed_of (knd := PySem.strKind P w) (s := { s2 with toks := s2.toks + 1 }) (strKind_is _ _ _ _) rfl hS2 (by omega) fun h3 same hS3 => ?_
    have hS4 : h3.SetOf (PySem.strKind P w) S (seenS xs (i + 1)) (unlikeN xs (i + 1)) := SetOf_congr hS3 (fun z => by
      rw [Bool.eq_iff_iff, Bool.or_eq_true, seenS_iff, seenS_iff, take_snoc (by omega), List.mem_append, List.mem_singleton, decide_eq_true_eq]) rfl
    refine wpAny_pure ⟨plainId_quiet F.plain_set_update_loop _, upd_texts W S far xs len few each k (i + 1) _ (by omega) lt (W.frame _ s2 _ _ hst2 (Nat.le_succ _) fun b hb o e => ?_) hS4 fun s4 m4 hS5 => ?_⟩
    · rw [same.2 b fun z => far (by rw [← z]; exact hb)]
      exact e
    · refine done s4 (Moved.trans W.gtrans ((m.mono fun b hb => List.mem_cons_of_mem _ hb).then_heap (Nat.le_succ _) fun b o hb e => ?_) m4) hS5
      rw [same.2 b fun z => hb (by rw [z]; exact List.mem_cons_self)]
      exact e
end
section
variable {P : Program} {w : World} {A : Around} {E : Value → Shared → Prop} {s : Shared}
/-- the new set has got the texts xs, all that stood stands -/
def FilledT (P : Program) (w : World) (s : Shared) (xs : List Str) (s2 : Shared) : Prop := ∃ h' tk, s2 = { s with heap := h', toks := tk } ∧ h'.SetOf (PySem.strKind P w) s.heap.objs.size (seenS xs xs.length) (unlikeN xs xs.length) ∧ ∀ b o, s.heap.get? b = some o → h'.get? b = some o
theorem set_tupT {l : Addr} {items : Array Value} {xs : List Str} {Q : Value → Shared → Prop} (hh : A.handled = none) (hl : s.heap.IsTuple l items) (hit : StrsAre items.toList xs) (hb : xs.length + 1 < scanBound)
    (h : ∀ s2, FilledT P w s xs s2 → Q (.ref s.heap.objs.size) s2) : wpAny (model P w) A (call (.type "set") [.ref l]) Q E s := by
  have size : xs.length = items.size := by rw [← StrsAre.len_eq hit, Array.length_toList]
  obtain ⟨ob, at_l, cls_l, ep, dat_l⟩ := id hl
  have below : l < s.heap.objs.size := Heap.lt_size at_l
  have at_S : (s.heap.push (set0 w)).get? s.heap.objs.size = some (set0 w) := Heap.get?_push_size _ rfl
  have ty_S : Shared.TypeIs { s with heap := s.heap.push (set0 w) } (.ref s.heap.objs.size) "set" := ⟨_, at_S, rfl⟩
  have l1 : (s.heap.push (set0 w)).IsTuple l items := hl.push _
  have zI : (s.heap.push (set0 w)).objs.size = s.heap.objs.size + 1 := Heap.size_push ..
  have each : ∀ (i : Nat) (v : Value), items[i]? = some v → ∃ t, v = .str (xs.getD i Str.empty) t := fun i v hv => SS.strs_at hit i v (by rw [Array.getElem?_toList]; exact hv)
  have init : ∀ {B : Around}, B.handled = none → codeAny (model P w) B (.call (.builtin "set.__init__") ⟨[.ref s.heap.objs.size, .ref l], []⟩) (wants (fun r s2 => r = .none ∧ FilledT P w s xs s2) E) { s with heap := s.heap.push (set0 w) } := fun {B} hB => by
    refine codeAny_call_builtin F.called_set.init.plain F.entry_set_init (check_set_init_1 ty_S ?_)
    have hB3 : B.in1.in1.handled = none := by simp [hB]
    have nS := F.sub_tuple_set
    have nF := F.sub_tuple_frozenset
    have nD : (Value.type "tuple" == Value.type "dict") = false := by decide
    obtain ⟨ocls, odict, odata, oslots⟩ := ob
    simp only at cls_l dat_l
    subst cls_l dat_l
    have at1 : (s.heap.push (set0 w)).get? l = some { cls := .type "tuple", dict := odict, data := .seq items ep, slots := oslots } := Heap.get?_push_of_some _ at_l
    unfold Builtin.«set.__init__» noKeywords Builtin.Frozenset.updateFrom
    generalize eI : pyIter = it
    wp_walk
    subst eI
    refine wpAny_pyIter_tuple l1 (wpAny_bind (wpAny_runValue ?_))
    have far : l ≠ (s.heap.push (set0 w)).objs.size := by rw [zI]; exact Nat.ne_of_lt (Nat.lt_succ_of_lt below)
    have apart : s.heap.objs.size ∉ [(s.heap.push (set0 w)).objs.size, l] := fun z => by
      rw [zI] at z
      rcases List.mem_cons.mp z with z | z
      · exact absurd z (Nat.ne_of_lt (Nat.lt_succ_self _))
      · exact absurd (List.mem_singleton.mp z) (Nat.ne_of_gt below)
    refine upd_texts ((Walks.tuple hB3 _ l far items).toS) s.heap.objs.size apart xs size (by omega) each items.size 0 _ (by omega) (Nat.zero_le _) ?stand ?first fun s2 m hS => ?_
    case stand => exact ⟨⟨_, Heap.get?_push_size _ rfl, rfl, rfl⟩, l1.push _⟩
    case first => exact SetOf_congr ((PyProof.Rows.setObjOf_fresh (knd := PySem.strKind P w) _).setOf (Heap.get?_push_of_some _ at_S) (by unfold scanBound; omega)) (fun _ => rfl) rfl
    · obtain ⟨h2, g2, d2, t2, o2⟩ := s2
      obtain rfl : g2 = s.gens := m.gens
      obtain rfl : d2 = s.drawn := m.drawn
      obtain rfl : o2 = s.os := m.os
      rw [← size] at hS
      refine wpAny_pure (wpAny_pure ⟨rfl, h2, t2, rfl, hS, fun b o e => ?_⟩)
      have hb0 : @LT.lt Nat _ b s.heap.objs.size := Heap.lt_size e
      refine m.heap b o (fun z => ?_) (Heap.get?_push_of_some _ (Heap.get?_push_of_some _ e))
      rw [zI] at z
      rcases List.mem_cons.mp z with z | z
      · exact absurd z (Nat.ne_of_lt hb0)
      · exact absurd (List.mem_singleton.mp z) (Nat.ne_of_lt (Nat.lt_succ_of_lt hb0))
  obtain ⟨c, tl, mro_⟩ := F.called_set.mro
  have made_ := F.called_set.made
  have sub_ := F.called_set.sub
  have q1 := F.called_set.notType
  have q2 := F.called_set.canCreate
  have q3 := F.typeCall_set_1 (.ref l)
  refine wpAny_call (codeAny_of_tree (show wpAny _ _ (callAny (.type "set") _) _ _ _ from wpAny_pure ⟨Code.quiet_builtin _ (by decide +kernel), codeAny_builtin F.entry_type_call ?_⟩))
  rw [Around.under_plain (weight_type_call_type "set" [.ref l] []) rfl]
  repeat any_goals first | assumption | wp_step
  refine codeAny_mono (code_set_led1 (E := E) (.ref l) (Q₁ := fun z s1 => z = .ref s.heap.objs.size ∧ s1 = { s with heap := s.heap.push (set0 w) }) ⟨rfl, rfl⟩) (fun r s1 hr => ?_)
  cases r with
  | error e => exact hr
  | ok fl =>
    cases fl with
    | ret z =>
      obtain ⟨rfl, rfl⟩ := hr
      have i1 := F.called_set.init.lookup
      have i2 := F.called_set.init.bind (.ref s.heap.objs.size)
      repeat any_goals first | assumption | wp_step
      refine codeAny_mono (init (by simp [hh])) fun r2 s2 hr2 => ?_
      cases r2 with
      | error e => exact hr2
      | ok fl2 =>
        cases fl2 with
        | ret z2 =>
          obtain ⟨rfl, hF⟩ := hr2
          have := h s2 hF
          obtain ⟨h2, t2, rfl, hS, kp⟩ := hF
          repeat any_goals first | assumption | wp_step
        | next => exact hr2.elim
        | brk => exact hr2.elim
        | cont => exact hr2.elim
    | next => exact hr.elim
    | brk => exact hr.elim
    | cont => exact hr.elim
end
section
variable {X : Cx} {a e : Expr} {ta : TE} {te : L2.St → Hp → (Int → Int → Hp → Prop) → Prop} {pos : Pos} {n : Nat}
/-- len(set(xs)), xs a tuple of texts -/
def tLenSetT (ta : TE) : TE := fun σ H Q => ta σ H fun x H1 => ∃ (l : Addr) (xs : List Str), x = .ref l ∧ H1 l = some (.tup (xs.map V.str)) ∧ xs.length ≤ 1000 ∧ ∀ c : Nat, c ≤ xs.length → (c = xs.length ↔ xs.Nodup) → Q (.int c) H1
theorem pe_lenSetT {p p2 q : Pos} (hc : X.calm = true) (hg : Gl X "len") (hm : X.mg "len" = none) (hg2 : Gl X "set") (hm2 : X.mg "set" = none) (ha : PE X a ta)
    (na : starEach [a] X.env = (false, eval a X.env) :: starEach [] X.env := by rfl) : PE X (.Call (.Name "len" p) [.Call (.Name "set" p2) [a] [] q] [] pos) (tLenSetT ta) := by
  refine ⟨fun pins s σ H Q I h => Call_ (ld_blt I hg hm boot_len (PyProof.Rows.callWith_builtin1 (PyProof.Rows.args_cons ?_ rfl) rfl rfl))⟩
  refine Call_ (ld_blt I hg2 hm2 boot_set (PyProof.Rows.callWith_type1 (PyProof.Rows.args_cons (thn (ha.run pins s σ H _ I h) fun v s1 ⟨x, H1, I1, r1, q1⟩ => PyProof.Rows.args_nil ?_) na) na rfl))
  obtain ⟨l, xs, rfl, hl, h1, q1⟩ := q1
  cases r1
  obtain ⟨its, r, pl, hz⟩ := I1.tuple (.inl (.inl hl))
  refine set_tupT (I1.ok.hd hc) pl (by simpa using strsAre_of r) (Nat.lt_of_le_of_lt (Nat.add_le_add_right h1 1) (by decide)) fun s2 hF => PyProof.Rows.args_nil ?_
  obtain ⟨h2, t2, rfl, hS, kp⟩ := hF
  obtain ⟨o, es, ep, t, ho, hex, hd, _, _, _, hf, hn⟩ := hS
  have I2 : L2.Inv X pins σ H1 { s1 with heap := h2, toks := t2 } := I1.kept kp
  have le := unlikeN_le xs xs.length
  have all := unlikeN_all xs xs.length (Nat.le_refl _)
  rw [List.take_length] at all
  exact call_len_set ho hex hd hf (by rw [hn]; omega) ⟨.int (unlikeN xs xs.length), H1, I2.tok _, ⟨_, by rw [hn]⟩, q1 _ le all⟩
/-- len(range(..)) -/
def tLenRg (te : L2.St → Hp → (Int → Int → Hp → Prop) → Prop) : TE := fun σ H Q => te σ H fun a b H1 => (b - a).toNat ≤ 100000 ∧ Q (.int ((b - a).toNat : Nat)) H1
theorem pe_lenRg {p : Pos} (hg : Gl X "len") (hm : X.mg "len" = none) (he : PRg X e te) (na : starEach [e] X.env = (false, eval e X.env) :: starEach [] X.env := by rfl) : PE X (.Call (.Name "len" p) [e] [] pos) (tLenRg te) := by
  refine ⟨fun pins s σ H Q I h => Call_ (ld_blt I hg hm boot_len (PyProof.Rows.callWith_builtin1 (PyProof.Rows.args_cons (thn (he pins s σ H _ I h) fun x s1 ⟨r, a, b, t, u, v, H1, ex, hr, I1, ok, q⟩ => PyProof.Rows.args_nil ?_) na) na))⟩
  subst ex
  exact call_len_range (n := (b - a).toNat) hr (rangeSize_nat a b) (by omega) ⟨.int ((b - a).toNat : Nat), H1, (I1.tok _), ⟨_, rfl⟩, q⟩
/-- sorted of a tuple of texts -/
theorem collect_tup {prog : Program} {w : World} {A : Around} {E : Value → Shared → Prop} {s : Shared} {l : Addr} {vs : List Value} {Q : List Value → Shared → Prop} (hl : s.heap.IsTuple l vs.toArray) (hsz : vs.length ≤ sizeLine)
    (h : Q vs { s with heap := (s.heap.push (seqObj "list" #[] 0)).update s.heap.objs.size (Obj.mapSeq (· ++ vs.toArray)) }) : wpAny (model prog w) A (collect (.ref l)) Q E s := by
  obtain ⟨o, ho, hc, n, hd⟩ := id hl
  have at0 : (s.heap.push (seqObj "list" #[] 0)).get? s.heap.objs.size = some (seqObj "list" #[] 0) := Heap.get?_push_size _ rfl
  have at1 : (s.heap.push (seqObj "list" #[] 0)).get? l = some o := Heap.get?_push_of_some _ ho
  unfold collect
  refine wpAny_bind (wpAny_runValue (codeAny_builtin entry_proto_collect' ?_))
  refine wpAny_bind (m := newList []) (wpAny_newList (wpAny_pure ⟨Code.quiet_builtin _ (by decide +kernel), codeAny_builtin entry_list_iadd' ?_⟩))
  show wpAny _ _ (Builtin.List.listExtendWith (.ref s.heap.objs.size) (.ref l) (.ref s.heap.objs.size)) _ _ _
  unfold Builtin.List.listExtendWith
  refine wpAny_bind (wpAny_typeOf (T := "tuple") ⟨o, at1, hc⟩ (PySem.W.KFB.if_so (by simp) ?_))
  refine wpAny_bind (listItems_at at1 hd (wpAny_bind (listItems_at (xs := #[]) (n := 0) at0 rfl (PySem.W.KFB.if_not (by simp) ?_))))
  refine wpAny_bind (listUpdate_at (xs := #[]) (n := 0) at0 rfl (wpAny_pure ?_) (Nat.zero_le _) (by simp only [Array.size_append, List.size_toArray, List.length_nil]; omega))
  refine wpAny_bind (m := load s.heap.objs.size) (wpAny_load (get?_update_seq at0 _) ?_)
  have e : ((#[] : Array Value) ++ vs.toArray).toList = vs := by simp
  show wpAny _ _ (pure ((#[] : Array Value) ++ vs.toArray).toList) Q E _
  rw [e]
  exact wpAny_pure h
theorem sorted_tupT {prog : Program} {w : World} {A : Around} {E : Value → Shared → Prop} {s : Shared} {l : Addr} {vs : List Value} {ss : List Str} {Q : Value → Shared → Prop} (hl : s.heap.IsTuple l vs.toArray) (hS : StrsAre vs ss) (h64 : vs.length < 64)
    (h : ∀ (out : Array Value) (ys : List Str), StrsAre out.toList ys → ys.Perm ss → sortedS ys = true → Q (.ref (s.heap.objs.size + 1)) { s with heap := sortedAll s.heap vs out }) : wpAny (model prog w) A (call (.builtin "sorted") [.ref l]) Q E s := by
  refine Calls.call_function_entry kind_sorted plain_sorted entry_sorted (args_sorted1 _) ?_
  unfold Builtin.«sorted»
  refine wpAny_bind (m := checkCount "sorted" 1 1 _) (wpAny_pure (wpAny_bind (collect_tup hl (by rw [sizeLine_eq]; omega) (wpAny_bind (wpAny_newList ?_)))))
  have z : ((s.heap.push (seqObj "list" #[] 0)).update s.heap.objs.size (Obj.mapSeq (· ++ vs.toArray))).objs.size = s.heap.objs.size + 1 := by rw [Heap.size_update, size_push']
  have at2 : (((s.heap.push (seqObj "list" #[] 0)).update s.heap.objs.size (Obj.mapSeq (· ++ vs.toArray))).push (seqObj "list" vs.toArray 0)).get? (s.heap.objs.size + 1) = some (seqObj "list" vs.toArray 0) := by
    rw [← z]
    exact Heap.get?_push_size _ rfl
  show wpAny _ _ _ _ _ { s with heap := ((s.heap.push (seqObj "list" #[] 0)).update s.heap.objs.size (Obj.mapSeq (· ++ vs.toArray))).push (seqObj "list" vs.toArray 0) }
  rw [z]
  refine wpAny_bind (wpAny_holding (wpAny_call_entry slot_list_sort ⟨_, at2, rfl⟩ entry_list_sort (list_sort_treeK strKind_oneLt at2 hS.keysOf (fun v₁ v₂ rest e => keyKind_strs (by rw [← e]; exact hS)) h64 fun st a1 a2 => ⟨_, rfl, ?_⟩) (args_list_sort _)))
  obtain ⟨ys, h1, h2, h3⟩ := sorted_out_str hS a1 a2
  exact wpAny_pure ⟨_, rfl, h _ ys h1 h2 h3⟩
def rSortedT : List V → Hp → VK → Prop := fun vs H Q => ∃ (l : Addr) (xs : List Str), vs = [V.ref l] ∧ H l = some (.tup (xs.map V.str)) ∧ xs.length < 64 ∧
  ∀ (ys : List Str) (p : Addr), ys.Perm xs → sortedS ys = true → H p = none → Q (.ref p) (upd H p (.lst (ys.map V.str)))
theorem cr_sortedT : CallR X (.builtin "sorted") rSortedT := by
  intro pins s σ H vs us Q I r h
  obtain ⟨l, xs, rfl, hl, h64, q⟩ := h
  obtain rfl := Vals.ref1 r
  obtain ⟨its, rv, pl, _⟩ := I.tuple (.inl (.inl hl))
  have len := rv.length
  rw [List.length_map] at len
  refine sorted_tupT pl (strsAre_of rv) (by omega) fun out ys h1 h2 h3 => ?_
  obtain ⟨ep, he⟩ := PyProof.Rows.sortedAll_at s.heap its out
  have hz : (ys.map V.str).length ≤ sizeLine := by
    rw [List.length_map, h2.length_eq, sizeLine_eq]
    omega
  exact ⟨.ref _, upd H (s.heap.objs.size + 1) (.lst (ys.map V.str)), I.laid (t' := s.toks) (fun _ _ => PyProof.Rows.sortedAll_old) (Nat.le_succ _) ⟨hz, out.toList, ep, vals_of_strs h1, he⟩, rfl, q ys _ h2 h3 (I.hok.fresh (Nat.le_succ _))⟩
/-- a tuple of texts shown in a text -/
theorem shows_str {H : Hp} {z : Str} (hl : (reprText z).length ≤ sizeLine) : Shows X n (.str z) (reprText z) H := fun A pins σ H1 s u b Q _ _ I ru hz fin => by
  obtain ⟨t, rfl⟩ := ru
  exact ReprIs.str z t hl b hz A X.xe s Q fun tk => fin _ H1 (I.tok tk) fun _ _ z => z
theorem shows_strs {H : Hp} {t0 : Addr} : ∀ {zs : List Str}, (∀ z ∈ zs, (reprText z).length ≤ sizeLine) → ShowsAll X n t0 H (zs.map V.str) (zs.map reprText)
  | [], _ => .nil
  | z :: zs, h => .cons (shows_str (h z (List.mem_cons_self ..))).g (shows_strs fun y hy => h y (List.mem_cons_of_mem _ hy))
def tFmtRT (X : Cx) (te : TE) : TE := fun σ H Q => te σ H fun x H1 => ∃ (a : Addr) (zs : List Str), x = .ref a ∧ H1 a = some (.tup (zs.map V.str)) ∧ (∀ z ∈ zs, (reprText z).length ≤ sizeLine) ∧ (tupleText (zs.map reprText)).length ≤ sizeLine ∧ ∀ H2, Same H1 H2 → Q (.str (tupleText (zs.map reprText))) H2
theorem pe_fmtRT {te : TE} (gd : X.A.guards = some []) (hr : Room 1 X.A) (he : PE X e te) : PE X (.FormattedValue e 114 none pos) (tFmtRT X te) := by
  refine ⟨fun pins s σ H Q I h => wpAny_FormattedValue_repr (thn (he.run pins s σ H _ I h) fun v s1 ⟨x, H1, I1, r1, k⟩ => ?_)⟩
  obtain ⟨a, zs, ex, ha, hT, hsz, q⟩ := k
  cases ex
  cases (show v = Value.ref a from r1)
  have sb : Sub X (0 + 1) X.A := ⟨hr, rfl⟩
  obtain ⟨z, its, rr, o, e, cl, m, hd⟩ := I1.hok a _ ha
  have ty : s1.TypeIs (.ref a) "tuple" := ⟨o, e, cl⟩
  unfold pyReprObj
  refine wpAny_bind (wpAny_cRoomFor sb.room.units0 ?_)
  refine wpAny_bind (wpAny_specialOf (name := Str.ofString "__repr__") ty F.slot_tuple_repr.lookup ?_)
  refine wpAny_bind (m := callSpecialIfBound? (.ref a) (Str.ofString "__repr__")) (wpAny_callSpecialIfBound?_slotG (name := Str.ofString "__repr__") ty F.slot_tuple_repr (call_tupI sb gd I1 ha (shows_strs hT) hsz fun s2 H2 u I2 s12 => ?_))
  refine wpAny_bind (wpAny_isInstance (T := "str") (b := true) rfl isSubtype_str_str (wpAny_pure ?_))
  exact wpAny_formatField_str ⟨.str (tupleText (zs.map reprText)), H2, I2, ⟨_, rfl⟩, q H2 s12⟩ ⟨.str (tupleText (zs.map reprText)), H2, I2.tok _, ⟨_, rfl⟩, q H2 s12⟩ hsz
end
end KA
namespace KA
open PySem PySem.Spec PyProof.Rows L2
/-! ### shares as pairs -/
/-- by what both are divided -/
def prt (n d : Int) : Int := if d < 0 then -(Int.gcd n d : Int) else (Int.gcd n d : Int)
def shr (n d : Int) : Int × Int := (n.fdiv (prt n d), d.fdiv (prt n d))
theorem gcd_pos {n d : Int} (h : d ≠ 0) : 0 < Int.gcd n d := by
  have : Int.gcd n d ≠ 0 := fun z => h (Int.gcd_eq_zero_iff.mp z).2
  omega
theorem prt_ne {n d : Int} (h : d ≠ 0) : prt n d ≠ 0 := by
  have := gcd_pos (n := n) h
  unfold prt
  split <;> omega
theorem prt_dvd1 (n d : Int) : prt n d ∣ n := by
  unfold prt
  split
  · exact Int.neg_dvd.mpr (Int.gcd_dvd_left ..)
  · exact Int.gcd_dvd_left ..
theorem prt_dvd2 (n d : Int) : prt n d ∣ d := by
  unfold prt
  split
  · exact Int.neg_dvd.mpr (Int.gcd_dvd_right ..)
  · exact Int.gcd_dvd_right ..
theorem shr1 (n d : Int) : prt n d * (shr n d).1 = n := by
  show prt n d * n.fdiv (prt n d) = n
  rw [Int.fdiv_eq_ediv_of_dvd (prt_dvd1 n d)]
  exact Int.mul_ediv_cancel' (prt_dvd1 n d)
theorem shr2 (n d : Int) : prt n d * (shr n d).2 = d := by
  show prt n d * d.fdiv (prt n d) = d
  rw [Int.fdiv_eq_ediv_of_dvd (prt_dvd2 n d)]
  exact Int.mul_ediv_cancel' (prt_dvd2 n d)
theorem shr_pos {n d : Int} (h : d ≠ 0) : 0 < (shr n d).2 := by
  have e := shr2 n d
  have g := gcd_pos (n := n) h
  by_cases hd : d < 0
  · have hp : prt n d < 0 := by unfold prt; rw [if_pos hd]; omega
    rcases Int.lt_trichotomy (shr n d).2 0 with z | z | z
    · have := Int.mul_pos_of_neg_of_neg hp z
      omega
    · rw [z] at e
      omega
    · exact z
  · have hp : 0 < prt n d := by unfold prt; rw [if_neg hd]; omega
    rcases Int.lt_trichotomy (shr n d).2 0 with z | z | z
    · have := Int.mul_neg_of_pos_of_neg hp z
      omega
    · rw [z] at e
      omega
    · exact z
theorem prt_abs (n d : Int) : (prt n d).natAbs = Int.gcd n d := by
  unfold prt
  split <;> omega
theorem shr_low {n d : Int} (h : d ≠ 0) : Int.gcd (shr n d).1 (shr n d).2 = 1 := by
  have g := gcd_pos (n := n) h
  have e : Int.gcd (prt n d * (shr n d).1) (prt n d * (shr n d).2) = (prt n d).natAbs * Int.gcd (shr n d).1 (shr n d).2 := Int.gcd_mul_left ..
  rw [shr1, shr2, prt_abs] at e
  have : Int.gcd n d * 1 = Int.gcd n d * Int.gcd (shr n d).1 (shr n d).2 := by omega
  exact (Nat.eq_of_mul_eq_mul_left g this).symm
/-- of the worth u over g -/
def Eqf (x : Int × Int) (u g : Int) : Prop := x.1 * g = u * x.2
theorem shr_eqf (n d : Int) : Eqf (shr n d) n d := by
  have a := shr1 n d
  have b := shr2 n d
  show (shr n d).1 * d = n * (shr n d).2
  generalize prt n d = p at a b
  generalize (shr n d).1 = x at a ⊢
  generalize (shr n d).2 = y at b ⊢
  subst a b
  grind
theorem eqf_trans {n d u g : Int} (h : d ≠ 0) (e : n * g = u * d) : Eqf (shr n d) u g := by
  have a := shr_eqf n d
  unfold Eqf at a ⊢
  refine Int.eq_of_mul_eq_mul_right h ?_
  grind
theorem eqf_plus {x y : Int × Int} {a b c d : Int} (hx : Eqf x a b) (hy : Eqf y c d) (x0 : 0 < x.2) (y0 : 0 < y.2) : Eqf (shr (x.1 * y.2 + y.1 * x.2) (x.2 * y.2)) (a * d + c * b) (b * d) := by
  unfold Eqf at hx hy
  refine eqf_trans (Int.mul_ne_zero (by omega) (by omega)) ?_
  grind
theorem eqf_minus {x y : Int × Int} {a b c d : Int} (hx : Eqf x a b) (hy : Eqf y c d) (x0 : 0 < x.2) (y0 : 0 < y.2) : Eqf (shr (x.1 * y.2 - y.1 * x.2) (x.2 * y.2)) (a * d - c * b) (b * d) := by
  unfold Eqf at hx hy
  refine eqf_trans (Int.mul_ne_zero (by omega) (by omega)) ?_
  grind
theorem eqf_times {x y : Int × Int} {a b c d : Int} (hx : Eqf x a b) (hy : Eqf y c d) (x0 : 0 < x.2) (y0 : 0 < y.2) : Eqf (shr (x.1 * y.1) (x.2 * y.2)) (a * c) (b * d) := by
  unfold Eqf at hx hy
  refine eqf_trans (Int.mul_ne_zero (by omega) (by omega)) ?_
  grind
def sgn (m : Int) : Int := if m < 0 then -1 else 1
theorem below_iff {x y : Int × Int} {a b c d : Int} (hx : Eqf x a b) (hy : Eqf y c d) (x0 : 0 < x.2) (y0 : 0 < y.2) (hb : b ≠ 0) (hd : d ≠ 0) : (x.1 * y.2 < y.1 * x.2) ↔ (sgn (b * d) * a * d < sgn (b * d) * c * b) := by
  unfold Eqf at hx hy
  have bd : b * d ≠ 0 := Int.mul_ne_zero hb hd
  have hp : 0 < sgn (b * d) * (b * d) := by
    unfold sgn
    split <;> omega
  have xy : 0 < x.2 * y.2 := Int.mul_pos x0 y0
  rw [← Int.mul_lt_mul_right hp, ← Int.mul_lt_mul_right (a := x.2 * y.2) (b := sgn (b * d) * a * d) xy]
  have e1 : x.1 * y.2 * (sgn (b * d) * (b * d)) = sgn (b * d) * a * d * (x.2 * y.2) := by grind
  have e2 : y.1 * x.2 * (sgn (b * d) * (b * d)) = sgn (b * d) * c * b * (x.2 * y.2) := by grind
  rw [e1, e2]
/-! ### sums -/
def PP : List (Int × Int) → Int
  | [] => 1
  | x :: l => x.2 * PP l
def NN : List (Int × Int) → Int
  | [] => 0
  | x :: l => x.1 * PP l + NN l * x.2
theorem PP_app : ∀ l m : List (Int × Int), PP (l ++ m) = PP l * PP m
  | [], m => by show PP m = 1 * PP m; omega
  | x :: l, m => by
    show x.2 * PP (l ++ m) = x.2 * PP l * PP m
    rw [PP_app l m, Int.mul_assoc]
theorem NN_app : ∀ l m : List (Int × Int), NN (l ++ m) = NN l * PP m + NN m * PP l
  | [], m => by
    show NN m = 0 * PP m + NN m * 1
    omega
  | x :: l, m => by
    show x.1 * PP (l ++ m) + NN (l ++ m) * x.2 = (x.1 * PP l + NN l * x.2) * PP m + NN m * (x.2 * PP l)
    rw [NN_app l m, PP_app l m]
    grind
theorem PP_snoc (l : List (Int × Int)) (x : Int × Int) : PP (l ++ [x]) = PP l * x.2 := by
  rw [PP_app]
  show PP l * (x.2 * 1) = _
  rw [Int.mul_one]
theorem NN_snoc (l : List (Int × Int)) (x : Int × Int) : NN (l ++ [x]) = NN l * x.2 + x.1 * PP l := by
  rw [NN_app]
  show NN l * (x.2 * 1) + (x.1 * 1 + 0 * x.2) * PP l = _
  grind
theorem PP_rev : ∀ l : List (Int × Int), PP l.reverse = PP l
  | [] => rfl
  | x :: l => by
    rw [List.reverse_cons, PP_snoc, PP_rev l]
    exact Int.mul_comm ..
theorem NN_rev : ∀ l : List (Int × Int), NN l.reverse = NN l
  | [] => rfl
  | x :: l => by
    rw [List.reverse_cons, NN_snoc, NN_rev l, PP_rev l]
    show NN l * x.2 + x.1 * PP l = x.1 * PP l + NN l * x.2
    omega
/-! ### sizes -/
def Sz (k : Nat) (n : Int) : Prop := n.natAbs < 2 ^ k
theorem Sz.mono {k m : Nat} {n : Int} (h : Sz k n) (e : k ≤ m) : Sz m n := Nat.lt_of_lt_of_le h (Nat.pow_le_pow_right (by decide) e)
theorem Sz.mul {k m : Nat} {a b : Int} (ha : Sz k a) (hb : Sz m b) : Sz (k + m) (a * b) := by
  unfold Sz
  rw [Int.natAbs_mul, Nat.pow_add]
  exact Nat.mul_lt_mul'' ha hb
theorem Sz.add {k : Nat} {a b : Int} (ha : Sz k a) (hb : Sz k b) : Sz (k + 1) (a + b) := by
  unfold Sz at *
  rw [Nat.pow_succ]
  omega
theorem Sz.sub {k : Nat} {a b : Int} (ha : Sz k a) (hb : Sz k b) : Sz (k + 1) (a - b) := by
  unfold Sz at *
  rw [Nat.pow_succ]
  omega
theorem Sz.mw {k m : Nat} {a b : Int} (ha : Sz k a) (hb : Sz m b) (h : k + m + 2 ≤ 1000000) : CMulW a b := wide_mul (ha.mono (Nat.le_succ k)) (hb.mono (Nat.le_succ m)) (by omega) (by omega) (by omega)
theorem Sz.div {k : Nat} {n d : Int} (p : Int) (h : Sz k n) (e : p * d = n) (hp : p ≠ 0) : Sz k d := by
  unfold Sz at *
  subst e
  rw [Int.natAbs_mul] at h
  refine Nat.lt_of_le_of_lt ?_ h
  exact Nat.le_mul_of_pos_left _ (by omega)
theorem shr_sz {k : Nat} {n d : Int} (hd : d ≠ 0) (hn : Sz k n) (h : Sz k d) : Sz k (shr n d).1 ∧ Sz k (shr n d).2 := ⟨hn.div (prt n d) (shr1 n d) (prt_ne hd), h.div (prt n d) (shr2 n d) (prt_ne hd)⟩
/-- // by any number but 0 below 2 ^ 9000 -/
def CDivX (_ j : Int) : Prop := j ≠ 0 ∧ j.natAbs.log2 < 9000
theorem op_fdivX {X : Cx} : OpR X (binaryOp .FloorDiv) (rI CDivX fun i j => .int (i.fdiv j)) := opI fun i j _ _ _ _ _ hc q => floordiv_int hc.1 q (.inl (PyProof.noPylong_of_log2 hc.2))
theorem gcd_turn (a b : Nat) (h : 0 < b) : Nat.gcd b (a % b) = Nat.gcd a b := by
  rw [Nat.gcd_comm a b, Nat.gcd_rec b a, Nat.gcd_comm]
theorem pg_tupK {X : Cx} {K' : PySem.W.Frag} (hK : X.K = K') {es : List Expr} {k : Nat} {pos : Pos} {t : TGs} {n : Nat} (hc : X.calm = true) (h : PGs X es t)
    (hn : (assignEach es X.env).length = n := by rfl) (hst : (assignEach es X.env).findIdx? (·.1) = none := by rfl) : PG X (.Tuple es k pos) (gTup K' n t) := by
  subst hK
  exact pg_tup hc h hn hst
end KA
namespace KA
open PySem PySem.Spec PyProof.Rows L2
/-- what isinstance asks of an own class -/
structure ICls (K : PySem.W.Frag) (C : Addr) : Prop where
  ha : PySem.W.findIn K (.ref C) "__class__" = some (some (.builtin "object.__class__"))
  hn : PySem.W.specialIn K (.builtin "object.__class__") "__get__" = some (some (.builtin "getset_descriptor.__get__"))
  htk : PySem.W.takesIn K (.builtin "object.__class__") = some true
  hm : PySem.W.mroIn K C (.type "object") = some true
  kit : PySem.W.kitOne K (.ref C) (.ref C) = some true
theorem ICls.ty {K : PySem.W.Frag} {C : Addr} (i : ICls K C) (cl : Cls K C) {H : Hp} {p dx : Addr} {fs : List (Str × V)} (h : H p = some (.ins C dx fs)) : TyX K H (.ref p) (.ref C) := .base (.ins h cl i.ha i.hn i.htk i.hm)
theorem prt_log {n d : Int} {k : Nat} (hd : d ≠ 0) (h : Sz k d) (hk : k ≤ 8000) : (prt n d).natAbs.log2 < 9000 := by
  rw [prt_abs]
  refine Nat.lt_of_lt_of_le (PySem.Flt.log2_lt_of (k := k + 1) (by omega) ?_) (by omega : k + 1 ≤ 9000)
  have : Int.gcd n d ≤ d.natAbs := Nat.le_of_dvd (by omega) (Int.gcd_dvd_natAbs_right n d)
  exact Nat.lt_of_le_of_lt this (h.mono (Nat.le_succ k))
theorem abs_nat (n : Int) : (if n < 0 then -n else n) = (n.natAbs : Int) := by
  split <;> omega
end KA
namespace KA
open PySem PySem.Spec PyProof.Rows L2
section
variable {prog : Program} {w : World} {A : Around} {E : Value → Shared → Prop} {s : Shared} {a : Addr} {o : Obj}
theorem lrep_head {Q : Fin → Shared → Prop} {x : Value} {l : List Value} {n : Nat} {b : Nat} (hget : s.heap.get? a = some o) (hd : o.data = .seq (x :: l).toArray n)
    (h1 : wpAny (model prog w) A (do again (.builtin "list.__repr__.loop" ⟨[.ref a, rawInt 0, ← newList [], rawInt b], []⟩)) Q E s) (h2 : ∀ u tk, Q (.done (.ret (.str "[...]" u))) { s with toks := tk }) :
    wpAny (model prog w) A (Builtin.listReprAt b ⟨[.ref a], []⟩) Q E s := by
  unfold Builtin.listReprAt
  show wpAny _ _ (Builtin.List.listItems (.ref a) >>= _) _ _ s
  refine wpAny_bind (wpAny_listItems hget hd ?_)
  refine PySem.W.KFB.if_not rfl ?_
  refine wpAny_bind (wpAny_stack_any fun st => ?_)
  dsimp only
  split
  · refine wpAny_bind (wpAny_rule ?_)
    exact wpAny_bind (wpAny_mkStr (wpAny_pure (h2 _ _)) (by decide +kernel))
  · exact h1
theorem lrep_way : ("[...]" : Str).length ≤ 5 := by decide +kernel
/-- list.__repr__, whatever is under way -/
theorem lrep_call {Q : Value → Shared → Prop} {x : Value} {l : List Value} {n : Nat} {ts : List Str} (hc : o.cls = .type "list") (ha : s.heap.get? a = some o) (hd : o.data = .seq (x :: l).toArray n) (hlen : ts.length = (x :: l).toArray.size)
    (hT : ∀ (i : Nat) (y : Value), (x :: l).toArray[i]? = some y → ∃ t, ts[i]? = some t ∧ ReprIs prog w y t) (hsz : (listText ts).length ≤ sizeLine)
    (h : ∀ h' (m : Str) u tk, (∀ b z, s.heap.get? b = some z → h'.get? b = some z) → m.length ≤ (listText ts).length + 5 → Q (.str m u) { s with heap := h', toks := tk }) :
    wpAny (model prog w) A (call (.builtin "list.__repr__") [.ref a]) Q E s := by
  refine wpAny_call (codeAny_call_builtin F.slot_list_repr.plain F.entry_list_repr (F.slot_list_repr.check _ _ _ _ _ _ _ _ ⟨o, ha, hc⟩ (F.args_list_repr_1 _) ?_))
  refine lrep_head (b := 0) ha hd ?_ (fun u tk => h s.heap _ u tk (fun _ _ e => e) (Nat.le_trans lrep_way (Nat.le_add_left _ _)))
  refine wpAny_bind (m := newList []) (wpAny_newObj_type ?_)
  refine wpAny_pure ⟨F.quiet_list_repr_loop _, ?_⟩
  refine codeAny_list_repr_start (P := s.heap.objs.size) (Nat.ne_of_lt (Heap.lt_size ha)) hlen hT (Heap.get?_push_of_some _ ha) hd (Heap.get?_push_size _ rfl) (fun h' u tk hk => ?_) (by omega)
  exact h h' _ u tk (fun b z e => hk b z (Nat.ne_of_lt (Heap.lt_size e)) (Heap.get?_push_of_some _ e)) (Nat.le_add_right _ _)

theorem drep_way : ("{...}" : Str).length ≤ 5 := by decide +kernel
/-- dict.__repr__ of {}, whatever is under way -/
theorem drep_call {Q : Value → Shared → Prop} {ep : Nat} (hc : o.cls = .type "dict") (ha : s.heap.get? a = some o) (hd : o.data = .dict #[] ep) (hsys : (a == sysModules) = false)
    (h : ∀ (m : Str) u tk, m.length ≤ 10 → Q (.str m u) { s with toks := tk }) : wpAny (model prog w) A (call (.builtin "dict.__repr__") [.ref a]) Q E s := by
  refine wpAny_call (codeAny_call_builtin_own (Code.quiet_builtin _ (by decide +kernel)) F.entry_dict_repr (F.slot_dict_repr.check _ _ _ _ _ _ _ _ ⟨o, ha, hc⟩ (F.args_dict_repr_1 _) (wpOwn_of_wpAny ?_)))
  show wpAny _ _ (Builtin.dictReprAt 0 ⟨[.ref a], []⟩) _ _ s
  unfold Builtin.dictReprAt
  refine wpAny_bind ?_
  unfold Builtin.Dict.dictSlotNone
  refine wpAny_bind (wpAny_notOrdered_dict ⟨o, ha, hc⟩ ?_)
  show wpAny _ _ (pure (Value.ref a)) _ _ s
  refine wpAny_pure ?_
  rw [dictReprRunning_eq]
  refine wpAny_bind (wpAny_bind (wpAny_stack_any fun st => wpAny_pure ?_))
  split
  · refine wpAny_bind (wpAny_rule ?_)
    exact wpAny_bind (wpAny_mkStr (wpAny_pure (h _ _ _ (Nat.le_trans drep_way (by decide)))) (by decide +kernel))
  · show wpAny _ _ (Builtin.Dict.addrOf (.ref a) >>= _) _ _ s
    refine wpAny_bind (wpAny_pure ?_)
    show wpAny _ _ (Builtin.Dict.showsAll a >>= _) _ _ s
    unfold Builtin.Dict.showsAll
    rw [if_neg (by rw [hsys]; exact Bool.false_ne_true)]
    refine wpAny_bind (wpAny_pure (wpAny_bind (wpAny_dictEpoch ha hd (wpAny_bind (wpAny_dictEntries ha hd ?_)))))
    refine wpAny_bind ?_
    rw [Std.Legacy.Range.forIn_eq_forIn_range']
    show wpAny _ _ (forIn [] _ _) _ _ s
    refine wpAny_pure ?_
    refine wpAny_bind (wpAny_mkStr (wpAny_pure (h _ _ _ ?_)) (by decide +kernel))
    decide +kernel
end
/-- str() of what is shown by its __repr__ -/
theorem str_by {prog : Program} {w : World} {A : Around} {E : Value → Shared → Prop} {s : Shared} {a : Addr} {o : Obj} {Q : Value → Shared → Prop} {T idr : String} {N : Nat} (hu : A.units + 3 < cLine) (hc : o.cls = .type T) (ha : s.heap.get? a = some o)
    (slotStr : Slot T "__str__" "object.__str__") (slotRepr : SlotG T "__repr__" idr)
    (rep : ∀ (prog' : Program) (w' : World) (A' : Around) (E' : Value → Shared → Prop) (s' : Shared) (Q' : Value → Shared → Prop), s'.heap.get? a = some o →
      (∀ h' (m : Str) u tk, (∀ b z, s'.heap.get? b = some z → h'.get? b = some z) → m.length ≤ N → Q' (.str m u) { s' with heap := h', toks := tk }) → wpAny (model prog' w') A' (call (.builtin idr) [.ref a]) Q' E' s')
    (h : ∀ h' (m : Str) u tk, (∀ b z, s.heap.get? b = some z → h'.get? b = some z) → m.length ≤ N → Q (.str m u) { s with heap := h', toks := tk }) :
    wpAny (model prog w) A (call (.type "str") [.ref a]) Q E s :=
  callType_new F.called_str (by decide) (F.typeCall_str_1 _) (F.newCall_str_1 _) (fun obj => F.args_object_init_2 obj _) F.entry_str_new
    (meets_str_new (S := fun A' R s' => A'.units + 2 < cLine ∧ s'.heap.get? a = some o ∧
        ∀ h' (m : Str) u tk, (∀ b z, s'.heap.get? b = some z → h'.get? b = some z) → m.length ≤ N → R (.ok (.ret (.str m u))) { s' with heap := h', toks := tk })
      fun prog' w' A' R s' g => wpAny_strOf_slot rfl (by show A'.units + 1 + 1 < cLine; have := g.1; omega) ⟨o, g.2.1, hc⟩ slotStr slotRepr (rep prog' w' _ _ s' _ g.2.1 fun h' m u tk hk hm => ⟨m, u, rfl, g.2.2 h' m u tk hk hm⟩))
    ⟨by show A.units + 1 + 2 < cLine; omega, ha, fun h' m u tk hk hm => ⟨typeIs_str _ _ _, h h' m u tk hk hm⟩⟩
/-- a thing without parts, of bounded text -/
inductive Leaf : V → Prop
  | int (i : Int) (h : i.natAbs.log2 < 1000) : Leaf (.int i)
  | str (z : Str) (h : z.length ≤ 1000) (hc : ∀ c ∈ z.cps.toList, c < 16 ^ 8) : Leaf (.str z)
  | bl (b : Bool) : Leaf (.bl b)
  | non : Leaf .non
theorem size_20k : (20000 : Nat) ≤ sizeLine := by decide
theorem leaf_repr {prog : Program} {w : World} {v : V} {u : Value} (h : Leaf v) (r : RelV v u) : ∃ t : Str, ReprIs prog w u t ∧ t.length ≤ 12000 := by
  cases h with
  | int i hi =>
    obtain ⟨t, rfl⟩ := r
    refine ⟨_, ReprIs.int t (by omega), ?_⟩
    have e := int_text_length_le (k := 1000) (by decide) hi
    show (Str.ofString (toString i)).length ≤ 12000
    rw [PySem.ofString_length]
    omega
  | str z hz hc =>
    obtain ⟨t, rfl⟩ := r
    have h1 := StrLaws.reprText_len z hc
    have := size_20k
    exact ⟨_, ReprIs.str z t (by omega), by omega⟩
  | bl b =>
    cases r
    exact ⟨_, ReprIs.bool b, by cases b <;> decide⟩
  | non =>
    cases r
    exact ⟨_, ReprIs.none, by decide⟩
section
variable {X : Cx}
theorem list_text_one (t : Str) : (listText [t]).length ≤ t.length + 4 := by
  have h := piled_le_listText [t]
  have h2 := textFrom_len [t] 0 "["
  show (textFrom 0 "[" [t] ++ "]").length ≤ _
  rw [strLen_append]
  show (("[" : Str) ++ (if 0 > 0 then ", " else "" : String) ++ t).length + 1 ≤ _
  rw [strLen_append, strLen_append]
  show 1 + 0 + t.length + 1 ≤ _
  omega
/-- the same, of texts of any signs -/
inductive LeafW : V → Prop
  | int (i : Int) (h : i.natAbs.log2 < 1000) : LeafW (.int i)
  | str (z : Str) (h : z.length ≤ 3000) : LeafW (.str z)
  | bl (b : Bool) : LeafW (.bl b)
  | non : LeafW .non
theorem Leaf.w {v : V} (h : Leaf v) : LeafW v := by
  cases h with
  | int i h => exact .int i h
  | str z h _ => exact .str z (by omega)
  | bl b => exact .bl b
  | non => exact .non
/-- what str() is asked of: a thing without parts, or one list, tuple of one, or {} -/
inductive Leaf1 (K : PySem.W.Frag) (H : Hp) : V → Prop
  | leaf {v : V} (h : LeafW v) : Leaf1 K H v
  | lst {a : Addr} {v : V} (e : H a = some (.lst [v])) (h : Leaf v) : Leaf1 K H (.ref a)
  | tup {a : Addr} {v : V} (e : H a = some (.tup [v])) (h : Leaf v) : Leaf1 K H (.ref a)
  | dct {a : Addr} (e : H a = some (.dK [])) : Leaf1 K H (.ref a)
def rStrL (K : PySem.W.Frag) : List V → Hp → VK → Prop := fun xs H Q => ∃ x, xs = [x] ∧ Leaf1 K H x ∧ ∀ m : Str, m.length ≤ 20000 → (Leaf x → m.length ≤ 1002) → Q (.str m) H
theorem call_str_leaf {k : Nat} (hr : Room k X.A) : CallR X (.type "str") (rStrL X.K) := by
  intro pins s σ H xs us Q I r h
  obtain ⟨x, rfl, hx, q⟩ := h
  obtain ⟨u, rfl, rx⟩ := vals1 r
  have hz := size_20k
  have hu := hr.units
  cases hx with
  | leaf hl =>
    cases hl with
    | int i hi =>
      obtain ⟨t, rfl⟩ := rx
      have e : (Str.ofString (toString i)).length ≤ 1002 := by
        have e := int_text_length_le (k := 1000) (by decide) hi
        rw [PySem.ofString_length]
        omega
      exact PySem.P.str_of_int (by omega) ⟨.str _, H, I.tok _, ⟨_, rfl⟩, q _ (Nat.le_trans e (by decide)) (fun _ => e)⟩
    | str z hz' =>
      obtain ⟨t, rfl⟩ := rx
      refine PySem.P.str_of_str ⟨.str _, H, I, ⟨_, rfl⟩, q _ (by omega) (fun l => ?_)⟩
      cases l
      omega
    | bl b =>
      cases rx
      exact PySem.P.str_of_bool ⟨.str _, H, I.tok _, ⟨_, rfl⟩, q _ (by cases b <;> decide) (fun _ => by cases b <;> decide)⟩
    | non =>
      cases rx
      exact PySem.P.str_of_none ⟨.str _, H, I.tok _, ⟨_, rfl⟩, q _ (by decide) (fun _ => by decide)⟩
  | @lst a v e hl =>
    cases rx
    obtain ⟨_, its, n, rv, ho⟩ : _ ≤ sizeLine ∧ ∃ (its : List Value) (n : Nat), Vals [v] its ∧ s.heap.get? a = some { cls := .type "list", data := .seq its.toArray n } := I.hok a _ e
    obtain ⟨u, rfl, ru⟩ := vals1 rv
    refine str_by (N := 13000) (by omega) rfl ho F.slot_list_str F.slot_list_repr.toG (fun prog' w' A' E' s' Q' hg hq => ?_) (fun h' m u tk hk hm => ⟨.str m, H, I.kept hk, ⟨_, rfl⟩, q m (by omega) (fun l => nomatch l)⟩)
    obtain ⟨t, ht, hl⟩ := leaf_repr (prog := prog') (w := w') hl ru
    have ht2 := list_text_one t
    refine lrep_call (ts := [t]) rfl hg rfl rfl (fun i y hy => ?_) (by omega) (fun h' m u tk hk hm => hq h' m u tk hk (by omega))
    cases i with
    | zero => cases hy; exact ⟨t, rfl, ht⟩
    | succ i => cases hy
  | @tup a v e hl =>
    cases rx
    obtain ⟨_, its, rv, o, ho, hc, n, hd⟩ : _ ≤ sizeLine ∧ ∃ its : List Value, Vals [v] its ∧ IsTup s.heap a its.toArray := I.hok a _ e
    obtain ⟨u, rfl, ru⟩ := vals1 rv
    refine str_by (N := 13000) (by omega) hc ho F.slot_tuple_str F.slot_tuple_repr (fun prog' w' A' E' s' Q' hg hq => ?_) (fun h' m u tk hk hm => ⟨.str m, H, I.kept hk, ⟨_, rfl⟩, q m (by omega) (fun l => nomatch l)⟩)
    obtain ⟨t, ht, hl⟩ := leaf_repr (prog := prog') (w := w') hl ru
    have ht2 := fmt_text [t]
    have ht3 : piled [t] = t.length + 2 := rfl
    exact fmt_tuple_repr (ts := [t]) hg hc hd (.cons ht .nil) (by omega) (fun m u tk hm => hq s'.heap m u tk (fun _ _ e => e) (by omega))
  | @dct a e =>
    cases rx
    obtain ⟨_, hs, vs, kv, o, es, ep, ho, hx, hd, _, he, _⟩ := dk_of I.hok e
    cases kv
    have : es = #[] := by
      cases es
      cases he
      rfl
    subst this
    refine str_by (N := 13000) (by omega) hx.1 ho F.slot_dict_str F.slot_dict_repr (fun prog' w' A' E' s' Q' hg hq => ?_) (fun h' m u tk hk hm => ⟨.str m, H, I.kept hk, ⟨_, rfl⟩, q m (by omega) (fun l => nomatch l)⟩)
    exact drep_call hx.1 hg hd hs (fun m u tk hm => hq s'.heap m u tk (fun _ _ e => e) (by omega))
end
end KA
namespace KA
open PySem PySem.Spec PyProof.Rows L2
theorem cut_full {xs : List V} {lo hi : Option Int} (h : HT.sIx xs.length 0 lo = 0 ∧ HT.sIx xs.length xs.length hi = xs.length) : cutV xs lo hi = xs := by
  unfold cutV
  rw [h.1, h.2, List.drop_zero, Nat.sub_zero, List.take_of_length_le (Nat.le_refl _)]
/-- a part of a tuple, whichever -/
theorem sla_of {K : PySem.W.Frag} {a : Addr} {xs : List V} {lo hi : Option Int} {H : Hp} {Q : VK} (ha : H a = some (.tup xs)) (q : ∀ (H' : Hp) (p : Addr), Same H H' → H' p = some (.tup (cutV xs lo hi)) → Q (.ref p) H') : rSlA K (.ref a) lo hi H Q := by
  refine ⟨a, xs, rfl, .inl (.inl ha), fun h => q H a (Same.refl _) (by rw [cut_full h]; exact ha), fun _ p hp => q _ p (same_upd hp) upd_same⟩
/-- two tuples put together, whichever -/
theorem cata_of {K : PySem.W.Frag} {a b : Addr} {xs ys : List V} {H : Hp} {Q : VK} (ha : H a = some (.tup xs)) (hb : H b = some (.tup ys)) (hl : xs.length + ys.length ≤ sizeLine) (q : ∀ (H' : Hp) (p : Addr), Same H H' → H' p = some (.tup (xs ++ ys)) → Q (.ref p) H') : rCatA K (.ref a) (.ref b) H Q := by
  refine ⟨a, b, xs, ys, rfl, rfl, .inl (.inl ha), .inl (.inl hb), hl, fun h => ?_, fun _ h => ?_, fun _ _ p hp => q _ p (same_upd hp) upd_same⟩
  · subst h
    exact q H b (Same.refl _) hb
  · subst h
    exact q H a (Same.refl _) (by rw [List.append_nil]; exact ha)
/-- .. of a tuple wherever it stands -/
theorem sla_T {K : PySem.W.Frag} {a : Addr} {xs : List V} {lo hi : Option Int} {H : Hp} {Q : VK} (ha : SqT K H a xs) (q : ∀ (H' : Hp) (p : Addr), Same H H' → SqT K H' p (cutV xs lo hi) → Q (.ref p) H') : rSlA K (.ref a) lo hi H Q := by
  refine ⟨a, xs, rfl, ha, fun h => q H a (Same.refl _) (by rw [cut_full h]; exact ha), fun _ p hp => q _ p (same_upd hp) (.inl (.inl upd_same))⟩
theorem cata_T {K : PySem.W.Frag} {a b : Addr} {xs ys : List V} {H : Hp} {Q : VK} (ha : SqT K H a xs) (hb : SqT K H b ys) (hl : xs.length + ys.length ≤ sizeLine) (q : ∀ (H' : Hp) (p : Addr), Same H H' → SqT K H' p (xs ++ ys) → Q (.ref p) H') : rCatA K (.ref a) (.ref b) H Q := by
  refine ⟨a, b, xs, ys, rfl, rfl, ha, hb, hl, fun h => ?_, fun _ h => ?_, fun _ _ p hp => q _ p (same_upd hp) (.inl (.inl upd_same))⟩
  · subst h
    exact q H b (Same.refl _) hb
  · subst h
    exact q H a (Same.refl _) (by rw [List.append_nil]; exact ha)
end KA
namespace KB
open PySem PySem.Spec PyProof.Rows L2 KA
def topS (i : Nat) : Stmt := PySem.Challenge.pw_pearlrise_k94_whole_things_compared.main.body.getD i (.Pass ⟨0, 0, 0, 0⟩)
abbrev s__wall : Stmt := topS 0
theorem sc__wall : FnScope ["k"] ["k"] (defScope s__wall) := ⟨rfl, rfl, rfl, by decide +kernel, rfl, by decide +kernel, by decide +kernel⟩
abbrev s_PearlError_init : Stmt := inClass (topS 2) 0
theorem sc_PearlError_init : FnScope ["self", "why"] ["self", "why"] (defScope s_PearlError_init) := ⟨rfl, rfl, rfl, by decide +kernel, rfl, by decide +kernel, by decide +kernel⟩
abbrev s_NotLet_init : Stmt := inClass (topS 6) 0
theorem sc_NotLet_init : FnScope ["self", "at", "why"] ["self", "at", "why"] (defScope s_NotLet_init) := ⟨rfl, rfl, rfl, by decide +kernel, rfl, by decide +kernel, by decide +kernel⟩
abbrev s_NoShare_init : Stmt := inClass (topS 7) 0
theorem sc_NoShare_init : FnScope ["self", "num"] ["self", "num"] (defScope s_NoShare_init) := ⟨rfl, rfl, rfl, by decide +kernel, rfl, by decide +kernel, by decide +kernel⟩
abbrev s_is_int : Stmt := topS 13
theorem sc_is_int : FnScope ["thing"] ["thing"] (defScope s_is_int) := ⟨rfl, rfl, rfl, by decide +kernel, rfl, by decide +kernel, by decide +kernel⟩
abbrev s_is_whole : Stmt := topS 14
theorem sc_is_whole : FnScope ["thing", "least", "most"] ["thing", "least", "most"] (defScope s_is_whole) := ⟨rfl, rfl, rfl, by decide +kernel, rfl, by decide +kernel, by decide +kernel⟩
abbrev s_is_from_nought : Stmt := topS 15
theorem sc_is_from_nought : FnScope ["thing"] ["thing"] (defScope s_is_from_nought) := ⟨rfl, rfl, rfl, by decide +kernel, rfl, by decide +kernel, by decide +kernel⟩
abbrev s_is_name : Stmt := topS 16
theorem sc_is_name : FnScope ["thing", "sign"] ["thing"] (defScope s_is_name) := ⟨rfl, rfl, rfl, by decide +kernel, rfl, by decide +kernel, by decide +kernel⟩
abbrev s_is_number : Stmt := topS 17
theorem sc_is_number : FnScope ["thing"] ["thing"] (defScope s_is_number) := ⟨rfl, rfl, rfl, by decide +kernel, rfl, by decide +kernel, by decide +kernel⟩
abbrev s_figures : Stmt := topS 18
theorem sc_figures : FnScope ["number", "groups", "rest", "group"] ["number"] (defScope s_figures) := ⟨rfl, rfl, rfl, by decide +kernel, rfl, by decide +kernel, by decide +kernel⟩
abbrev s_Rule_init : Stmt := inClass (topS 20) 0
theorem sc_Rule_init : FnScope ["self", "least", "most", "match", "shades"] ["self", "least", "most", "match", "shades"] (defScope s_Rule_init) := ⟨rfl, rfl, rfl, by decide +kernel, rfl, by decide +kernel, by decide +kernel⟩
abbrev s_Rule_eq : Stmt := inClass (topS 20) 1
theorem sc_Rule_eq : FnScope ["self", "other"] ["self", "other"] (defScope s_Rule_eq) := ⟨rfl, rfl, rfl, by decide +kernel, rfl, by decide +kernel, by decide +kernel⟩
abbrev s_Rule_repr : Stmt := inClass (topS 20) 2
theorem sc_Rule_repr : FnScope ["self", "parts"] ["self"] (defScope s_Rule_repr) := ⟨rfl, rfl, rfl, by decide +kernel, rfl, by decide +kernel, by decide +kernel⟩
abbrev s_stands_ahead : Stmt := topS 21
theorem sc_stands_ahead : FnScope ["beads", "at", "number", "bead"] ["beads", "at"] (defScope s_stands_ahead) := ⟨rfl, rfl, rfl, by decide +kernel, rfl, by decide +kernel, by decide +kernel⟩
abbrev s_breaks_step : Stmt := topS 22
theorem sc_breaks_step : FnScope ["beads", "at", "rule", "rise"] ["beads", "at", "rule"] (defScope s_breaks_step) := ⟨rfl, rfl, rfl, by decide +kernel, rfl, by decide +kernel, by decide +kernel⟩
abbrev s_partner_of : Stmt := topS 23
theorem sc_partner_of : FnScope ["beads", "at"] ["beads", "at"] (defScope s_partner_of) := ⟨rfl, rfl, rfl, by decide +kernel, rfl, by decide +kernel, by decide +kernel⟩
abbrev s_same_look : Stmt := topS 24
theorem sc_same_look : FnScope ["bead", "other"] ["bead", "other"] (defScope s_same_look) := ⟨rfl, rfl, rfl, by decide +kernel, rfl, by decide +kernel, by decide +kernel⟩
abbrev s_reason_at : Stmt := topS 25
theorem sc_reason_at : FnScope ["beads", "at", "rule", "bead", "partner"] ["beads", "at", "rule"] (defScope s_reason_at) := ⟨rfl, rfl, rfl, by decide +kernel, rfl, by decide +kernel, by decide +kernel⟩
abbrev s_barred : Stmt := topS 26
theorem sc_barred : FnScope ["beads", "rule", "at", "bead", "reason"] ["beads", "rule"] (defScope s_barred) := ⟨rfl, rfl, rfl, by decide +kernel, rfl, by decide +kernel, by decide +kernel⟩
abbrev s_String_init : Stmt := inClass (topS 28) 0
theorem sc_String_init : FnScope ["self", "beads", "rule", "found"] ["self", "beads", "rule"] (defScope s_String_init) := ⟨rfl, rfl, rfl, by decide +kernel, rfl, by decide +kernel, by decide +kernel⟩
abbrev s_String_beads : Stmt := inClass (topS 28) 1
theorem sc_String_beads : FnScope ["self"] ["self"] (defScope s_String_beads) := ⟨rfl, rfl, rfl, by decide +kernel, rfl, by decide +kernel, by decide +kernel⟩
abbrev s_String_gaps : Stmt := inClass (topS 28) 2
theorem sc_String_gaps : FnScope ["self", "at", "bead"] ["self"] (defScope s_String_gaps) := ⟨rfl, rfl, rfl, by decide +kernel, rfl, by decide +kernel, by decide +kernel⟩
abbrev s_String_turned : Stmt := inClass (topS 28) 3
theorem sc_String_turned : FnScope ["self"] ["self"] (defScope s_String_turned) := ⟨rfl, rfl, rfl, by decide +kernel, rfl, by decide +kernel, by decide +kernel⟩
abbrev s_String_filled : Stmt := inClass (topS 28) 4
theorem sc_String_filled : FnScope ["self", "at", "bead"] ["self", "at", "bead"] (defScope s_String_filled) := ⟨rfl, rfl, rfl, by decide +kernel, rfl, by decide +kernel, by decide +kernel⟩
abbrev s_String_emptied : Stmt := inClass (topS 28) 5
theorem sc_String_emptied : FnScope ["self", "at"] ["self", "at"] (defScope s_String_emptied) := ⟨rfl, rfl, rfl, by decide +kernel, rfl, by decide +kernel, by decide +kernel⟩
abbrev s_String_changed_at : Stmt := inClass (topS 28) 6
theorem sc_String_changed_at : FnScope ["self", "at", "bead"] ["self", "at", "bead"] (defScope s_String_changed_at) := ⟨rfl, rfl, rfl, by decide +kernel, rfl, by decide +kernel, by decide +kernel⟩
abbrev s_String_len : Stmt := inClass (topS 28) 7
theorem sc_String_len : FnScope ["self"] ["self"] (defScope s_String_len) := ⟨rfl, rfl, rfl, by decide +kernel, rfl, by decide +kernel, by decide +kernel⟩
abbrev s_String_eq : Stmt := inClass (topS 28) 8
theorem sc_String_eq : FnScope ["self", "other"] ["self", "other"] (defScope s_String_eq) := ⟨rfl, rfl, rfl, by decide +kernel, rfl, by decide +kernel, by decide +kernel⟩
abbrev s_String_repr : Stmt := inClass (topS 28) 9
theorem sc_String_repr : FnScope ["self"] ["self"] (defScope s_String_repr) := ⟨rfl, rfl, rfl, by decide +kernel, rfl, by decide +kernel, by decide +kernel⟩
abbrev s_String_str : Stmt := inClass (topS 28) 10
theorem sc_String_str : FnScope ["self", "bead"] ["self"] (defScope s_String_str) := ⟨rfl, rfl, rfl, by decide +kernel, rfl, by decide +kernel, by decide +kernel⟩
abbrev s_is_measure : Stmt := topS 32
theorem sc_is_measure : FnScope ["thing"] ["thing"] (defScope s_is_measure) := ⟨rfl, rfl, rfl, by decide +kernel, rfl, by decide +kernel, by decide +kernel⟩
abbrev s_Bead_init : Stmt := inClass (topS 33) 0
theorem sc_Bead_init : FnScope ["self", "number", "across", "weight", "shade", "form", "drilled"] ["self", "number", "across", "weight", "shade", "form", "drilled"] (defScope s_Bead_init) := ⟨rfl, rfl, rfl, by decide +kernel, rfl, by decide +kernel, by decide +kernel⟩
abbrev s_Bead_row : Stmt := inClass (topS 33) 1
theorem sc_Bead_row : FnScope ["self"] ["self"] (defScope s_Bead_row) := ⟨rfl, rfl, rfl, by decide +kernel, rfl, by decide +kernel, by decide +kernel⟩
abbrev s_Bead_key : Stmt := inClass (topS 33) 2
theorem sc_Bead_key : FnScope ["self"] ["self"] (defScope s_Bead_key) := ⟨rfl, rfl, rfl, by decide +kernel, rfl, by decide +kernel, by decide +kernel⟩
abbrev s_Bead_eq : Stmt := inClass (topS 33) 3
theorem sc_Bead_eq : FnScope ["self", "other"] ["self", "other"] (defScope s_Bead_eq) := ⟨rfl, rfl, rfl, by decide +kernel, rfl, by decide +kernel, by decide +kernel⟩
abbrev s_Bead_repr : Stmt := inClass (topS 33) 4
theorem sc_Bead_repr : FnScope ["self", "parts"] ["self"] (defScope s_Bead_repr) := ⟨rfl, rfl, rfl, by decide +kernel, rfl, by decide +kernel, by decide +kernel⟩
abbrev s_Bead_str : Stmt := inClass (topS 33) 5
theorem sc_Bead_str : FnScope ["self"] ["self"] (defScope s_Bead_str) := ⟨rfl, rfl, rfl, by decide +kernel, rfl, by decide +kernel, by decide +kernel⟩
abbrev s_bead_of : Stmt := topS 34
theorem sc_bead_of : FnScope ["row", "number", "across", "weight", "shade", "form", "drilled"] ["row"] (defScope s_bead_of) := ⟨rfl, rfl, rfl, by decide +kernel, rfl, by decide +kernel, by decide +kernel⟩
abbrev s_in_order : Stmt := topS 35
theorem sc_in_order : FnScope ["beads"] ["beads"] (defScope s_in_order) := ⟨rfl, rfl, rfl, by decide +kernel, rfl, by decide +kernel, by decide +kernel⟩
abbrev s_unlike : Stmt := topS 36
theorem sc_unlike : FnScope ["beads", "told", "bead"] ["beads"] (defScope s_unlike) := ⟨rfl, rfl, rfl, by decide +kernel, rfl, by decide +kernel, by decide +kernel⟩
abbrev s_how_many : Stmt := topS 37
theorem sc_how_many : FnScope ["beads", "bead"] ["beads", "bead"] (defScope s_how_many) := ⟨rfl, rfl, rfl, by decide +kernel, rfl, by decide +kernel, by decide +kernel⟩
abbrev s_are_shades : Stmt := topS 40
theorem sc_are_shades : FnScope ["thing", "shade"] ["thing"] (defScope s_are_shades) := ⟨rfl, rfl, rfl, by decide +kernel, rfl, by decide +kernel, by decide +kernel⟩
abbrev s_Lot_init : Stmt := inClass (topS 41) 0
theorem sc_Lot_init : FnScope ["self", "name", "room", "least", "most", "shades"] ["self", "name", "room", "least", "most", "shades"] (defScope s_Lot_init) := ⟨rfl, rfl, rfl, by decide +kernel, rfl, by decide +kernel, by decide +kernel⟩
abbrev s_Lot_fits : Stmt := inClass (topS 41) 1
theorem sc_Lot_fits : FnScope ["self", "bead"] ["self", "bead"] (defScope s_Lot_fits) := ⟨rfl, rfl, rfl, by decide +kernel, rfl, by decide +kernel, by decide +kernel⟩
abbrev s_Lot_len : Stmt := inClass (topS 41) 2
theorem sc_Lot_len : FnScope ["self"] ["self"] (defScope s_Lot_len) := ⟨rfl, rfl, rfl, by decide +kernel, rfl, by decide +kernel, by decide +kernel⟩
abbrev s_Lot_eq : Stmt := inClass (topS 41) 3
theorem sc_Lot_eq : FnScope ["self", "other"] ["self", "other"] (defScope s_Lot_eq) := ⟨rfl, rfl, rfl, by decide +kernel, rfl, by decide +kernel, by decide +kernel⟩
abbrev s_Lot_repr : Stmt := inClass (topS 41) 4
theorem sc_Lot_repr : FnScope ["self", "parts"] ["self"] (defScope s_Lot_repr) := ⟨rfl, rfl, rfl, by decide +kernel, rfl, by decide +kernel, by decide +kernel⟩
abbrev s_Lot_str : Stmt := inClass (topS 41) 5
theorem sc_Lot_str : FnScope ["self"] ["self"] (defScope s_Lot_str) := ⟨rfl, rfl, rfl, by decide +kernel, rfl, by decide +kernel, by decide +kernel⟩
abbrev s_common_part : Stmt := topS 43
theorem sc_common_part : FnScope ["one", "other"] ["one", "other"] (defScope s_common_part) := ⟨rfl, rfl, rfl, by decide +kernel, rfl, by decide +kernel, by decide +kernel⟩
abbrev s_Share_init : Stmt := inClass (topS 44) 0
theorem sc_Share_init : FnScope ["self", "num", "over", "part"] ["self", "num", "over"] (defScope s_Share_init) := ⟨rfl, rfl, rfl, by decide +kernel, rfl, by decide +kernel, by decide +kernel⟩
abbrev s_Share_plus : Stmt := inClass (topS 44) 1
theorem sc_Share_plus : FnScope ["self", "other"] ["self", "other"] (defScope s_Share_plus) := ⟨rfl, rfl, rfl, by decide +kernel, rfl, by decide +kernel, by decide +kernel⟩
abbrev s_Share_minus : Stmt := inClass (topS 44) 2
theorem sc_Share_minus : FnScope ["self", "other"] ["self", "other"] (defScope s_Share_minus) := ⟨rfl, rfl, rfl, by decide +kernel, rfl, by decide +kernel, by decide +kernel⟩
abbrev s_Share_times : Stmt := inClass (topS 44) 3
theorem sc_Share_times : FnScope ["self", "other"] ["self", "other"] (defScope s_Share_times) := ⟨rfl, rfl, rfl, by decide +kernel, rfl, by decide +kernel, by decide +kernel⟩
abbrev s_Share_is_below : Stmt := inClass (topS 44) 4
theorem sc_Share_is_below : FnScope ["self", "other"] ["self", "other"] (defScope s_Share_is_below) := ⟨rfl, rfl, rfl, by decide +kernel, rfl, by decide +kernel, by decide +kernel⟩
abbrev s_Share_eq : Stmt := inClass (topS 44) 5
theorem sc_Share_eq : FnScope ["self", "other"] ["self", "other"] (defScope s_Share_eq) := ⟨rfl, rfl, rfl, by decide +kernel, rfl, by decide +kernel, by decide +kernel⟩
abbrev s_Share_repr : Stmt := inClass (topS 44) 6
theorem sc_Share_repr : FnScope ["self"] ["self"] (defScope s_Share_repr) := ⟨rfl, rfl, rfl, by decide +kernel, rfl, by decide +kernel, by decide +kernel⟩
abbrev s_Share_str : Stmt := inClass (topS 44) 7
theorem sc_Share_str : FnScope ["self"] ["self"] (defScope s_Share_str) := ⟨rfl, rfl, rfl, by decide +kernel, rfl, by decide +kernel, by decide +kernel⟩
abbrev s_draws : Stmt := topS 46
theorem sc_draws : FnScope ["_law_cell"] ["_law_cell"] (defScope s_draws) := ⟨rfl, rfl, rfl, by decide +kernel, rfl, by decide +kernel, by decide +kernel⟩
abbrev s_next : Stmt := topS 47
theorem sc_next : FnScope ["_law_draws_here", "_law_size", "_law_found", "_law_mix"] ["_law_draws_here", "_law_size"] (defScope s_next) := ⟨rfl, rfl, rfl, by decide +kernel, rfl, by decide +kernel, by decide +kernel⟩
abbrev s_words : Stmt := topS 48
theorem sc_words : FnScope ["_law_draws_here", "_law_many", "_law_words_here", "_law_first", "_law_k", "_law_stem", "_law_j"] ["_law_draws_here", "_law_many"] (defScope s_words) := ⟨rfl, rfl, rfl, by decide +kernel, rfl, by decide +kernel, by decide +kernel⟩
abbrev s_row : Stmt := topS 49
theorem sc_row : FnScope ["_law_draws_here", "_law_mark", "_law_words_here", "_law_wide", "_law_heavy", "_law_shape"] ["_law_draws_here", "_law_mark", "_law_words_here", "_law_wide"] (defScope s_row) := ⟨rfl, rfl, rfl, by decide +kernel, rfl, by decide +kernel, by decide +kernel⟩
abbrev s_rows : Stmt := topS 50
theorem sc_rows : FnScope ["_law_draws_here", "_law_words_here", "_law_rows_here", "_law_k", "_law_row_here", "_law_bent"] ["_law_draws_here", "_law_words_here"] (defScope s_rows) := ⟨rfl, rfl, rfl, by decide +kernel, rfl, by decide +kernel, by decide +kernel⟩
abbrev s_made : Stmt := topS 51
theorem sc_made : FnScope ["_law_row_here", "_law_way", "_law_mark", "_law_wide", "_law_heavy", "_law_tint", "_law_shape", "_law_bored"] ["_law_row_here", "_law_way"] (defScope s_made) := ⟨rfl, rfl, rfl, by decide +kernel, rfl, by decide +kernel, by decide +kernel⟩
abbrev s_shown : Stmt := topS 52
theorem sc_shown : FnScope ["_law_row_here", "_law_mark", "_law_wide", "_law_heavy", "_law_tint", "_law_shape", "_law_bored", "_law_found", "_law_word"] ["_law_row_here"] (defScope s_shown) := ⟨rfl, rfl, rfl, by decide +kernel, rfl, by decide +kernel, by decide +kernel⟩
abbrev s_beads : Stmt := topS 53
theorem sc_beads : FnScope ["_law_rows_here", "_law_beads_here", "_law_row_here", "_law_bead", "_law_other", "_law_one", "_law_alike", "_law_kept", "_law_order", "_law_first", "_law_k"] ["_law_rows_here", "_law_beads_here"] (defScope s_beads) := ⟨rfl, rfl, rfl, by decide +kernel, rfl, by decide +kernel, by decide +kernel⟩
abbrev s_strings : Stmt := topS 54
theorem sc_strings : FnScope ["_law_draws_here", "_law_rows_here", "_law_beads_here", "_law_ordered", "_law_some", "_law_parts", "_law_k", "_law_gap", "_law_strings_here", "_law_string", "_law_part", "_law_other", "_law_one", "_law_text", "_law_bead", "_law_row_here"] ["_law_draws_here", "_law_rows_here", "_law_beads_here"] (defScope s_strings) := ⟨rfl, rfl, rfl, by decide +kernel, rfl, by decide +kernel, by decide +kernel⟩
abbrev s_others : Stmt := topS 55
theorem sc_others : FnScope ["_law_draws_here", "_law_words_here", "_law_numbers", "_law_rules", "_law_one", "_law_other", "_law_shares", "_law_lots", "_law_ordered", "_law_shown_here", "_law_k"] ["_law_draws_here", "_law_words_here"] (defScope s_others) := ⟨rfl, rfl, rfl, by decide +kernel, rfl, by decide +kernel, by decide +kernel⟩
abbrev s_law : Stmt := topS 56
theorem sc_law : FnScope ["_law_script", "_law_cell", "_law_draws_here", "_law_words_here", "_law_rows_here", "_law_beads_here", "_law_row_here"] ["_law_script"] (defScope s_law) := ⟨rfl, rfl, rfl, by decide +kernel, rfl, by decide +kernel, by decide +kernel⟩
structure Tx (K : PySem.W.Frag) (mg : Str → Option Value) : Type where
  C_Bead : Addr
  cl_Bead : Cls K C_Bead
  g_Bead : mg "Bead" = some (.ref C_Bead)
  n_Bead_number : NoAttr K C_Bead "number"
  n_Bead_across : NoAttr K C_Bead "across"
  n_Bead_weight : NoAttr K C_Bead "weight"
  n_Bead_shade : NoAttr K C_Bead "shade"
  n_Bead_form : NoAttr K C_Bead "form"
  n_Bead_drilled : NoAttr K C_Bead "drilled"
  C_Rule : Addr
  cl_Rule : Cls K C_Rule
  g_Rule : mg "Rule" = some (.ref C_Rule)
  n_Rule_least : NoAttr K C_Rule "least"
  n_Rule_most : NoAttr K C_Rule "most"
  n_Rule_match : NoAttr K C_Rule "match"
  n_Rule_shades : NoAttr K C_Rule "shades"
  C_String : Addr
  cl_String : Cls K C_String
  g_String : mg "String" = some (.ref C_String)
  n_String_held : NoAttr K C_String "held"
  n_String_rule : NoAttr K C_String "rule"
  C_Lot : Addr
  cl_Lot : Cls K C_Lot
  g_Lot : mg "Lot" = some (.ref C_Lot)
  n_Lot_name : NoAttr K C_Lot "name"
  n_Lot_room : NoAttr K C_Lot "room"
  n_Lot_least : NoAttr K C_Lot "least"
  n_Lot_most : NoAttr K C_Lot "most"
  n_Lot_shades : NoAttr K C_Lot "shades"
  C_Share : Addr
  cl_Share : Cls K C_Share
  g_Share : mg "Share" = some (.ref C_Share)
  n_Share_num : NoAttr K C_Share "num"
  n_Share_over : NoAttr K C_Share "over"
  A_is_int : Addr
  fd_is_int : FuncData
  F_is_int : Fun K "is_int" "is_int" s_is_int A_is_int fd_is_int
  g_is_int : mg "is_int" = some (.ref A_is_int)
  b_is_int : Binds K fd_is_int ["thing"] []
  A_is_whole : Addr
  fd_is_whole : FuncData
  F_is_whole : Fun K "is_whole" "is_whole" s_is_whole A_is_whole fd_is_whole
  g_is_whole : mg "is_whole" = some (.ref A_is_whole)
  b_is_whole : Binds K fd_is_whole ["thing", "least", "most"] []
  A_is_from_nought : Addr
  fd_is_from_nought : FuncData
  F_is_from_nought : Fun K "is_from_nought" "is_from_nought" s_is_from_nought A_is_from_nought fd_is_from_nought
  g_is_from_nought : mg "is_from_nought" = some (.ref A_is_from_nought)
  b_is_from_nought : Binds K fd_is_from_nought ["thing"] []
  A_is_name : Addr
  fd_is_name : FuncData
  F_is_name : Fun K "is_name" "is_name" s_is_name A_is_name fd_is_name
  g_is_name : mg "is_name" = some (.ref A_is_name)
  b_is_name : Binds K fd_is_name ["thing"] []
  A_is_number : Addr
  fd_is_number : FuncData
  F_is_number : Fun K "is_number" "is_number" s_is_number A_is_number fd_is_number
  g_is_number : mg "is_number" = some (.ref A_is_number)
  b_is_number : Binds K fd_is_number ["thing"] []
  A_figures : Addr
  fd_figures : FuncData
  F_figures : Fun K "figures" "figures" s_figures A_figures fd_figures
  g_figures : mg "figures" = some (.ref A_figures)
  b_figures : Binds K fd_figures ["number"] []
  A_Rule_init : Addr
  fd_Rule_init : FuncData
  F_Rule_init : FunD K "__init__" "Rule.__init__" (defArgs s_Rule_init) (defBody s_Rule_init) (defScope s_Rule_init) [.int 0, .int 10, .int 0, .bl true] [] A_Rule_init fd_Rule_init
  mk_Rule : Mk K C_Rule A_Rule_init
  b_Rule_init : Binds K fd_Rule_init ["self", "least", "most", "match", "shades"] []
  A_Rule_eq : Addr
  fd_Rule_eq : FuncData
  F_Rule_eq : Fun K "__eq__" "Rule.__eq__" s_Rule_eq A_Rule_eq fd_Rule_eq
  m_Rule_eq : Meth K C_Rule "__eq__" A_Rule_eq
  b_Rule_eq : Binds K fd_Rule_eq ["self", "other"] []
  A_Rule_repr : Addr
  fd_Rule_repr : FuncData
  F_Rule_repr : Fun K "__repr__" "Rule.__repr__" s_Rule_repr A_Rule_repr fd_Rule_repr
  m_Rule_repr : Meth K C_Rule "__repr__" A_Rule_repr
  b_Rule_repr : Binds K fd_Rule_repr ["self"] []
  A_stands_ahead : Addr
  fd_stands_ahead : FuncData
  F_stands_ahead : Fun K "stands_ahead" "stands_ahead" s_stands_ahead A_stands_ahead fd_stands_ahead
  g_stands_ahead : mg "stands_ahead" = some (.ref A_stands_ahead)
  b_stands_ahead : Binds K fd_stands_ahead ["beads", "at"] []
  A_breaks_step : Addr
  fd_breaks_step : FuncData
  F_breaks_step : Fun K "breaks_step" "breaks_step" s_breaks_step A_breaks_step fd_breaks_step
  g_breaks_step : mg "breaks_step" = some (.ref A_breaks_step)
  b_breaks_step : Binds K fd_breaks_step ["beads", "at", "rule"] []
  A_partner_of : Addr
  fd_partner_of : FuncData
  F_partner_of : Fun K "partner_of" "partner_of" s_partner_of A_partner_of fd_partner_of
  g_partner_of : mg "partner_of" = some (.ref A_partner_of)
  b_partner_of : Binds K fd_partner_of ["beads", "at"] []
  A_same_look : Addr
  fd_same_look : FuncData
  F_same_look : Fun K "same_look" "same_look" s_same_look A_same_look fd_same_look
  g_same_look : mg "same_look" = some (.ref A_same_look)
  b_same_look : Binds K fd_same_look ["bead", "other"] []
  A_reason_at : Addr
  fd_reason_at : FuncData
  F_reason_at : Fun K "reason_at" "reason_at" s_reason_at A_reason_at fd_reason_at
  g_reason_at : mg "reason_at" = some (.ref A_reason_at)
  b_reason_at : Binds K fd_reason_at ["beads", "at", "rule"] []
  A_barred : Addr
  fd_barred : FuncData
  F_barred : Fun K "barred" "barred" s_barred A_barred fd_barred
  g_barred : mg "barred" = some (.ref A_barred)
  b_barred : Binds K fd_barred ["beads", "rule"] []
  A_String_init : Addr
  fd_String_init : FuncData
  F_String_init : Fun K "__init__" "String.__init__" s_String_init A_String_init fd_String_init
  mk_String : Mk K C_String A_String_init
  b_String_init : Binds K fd_String_init ["self", "beads", "rule"] []
  A_String_beads : Addr
  fd_String_beads : FuncData
  F_String_beads : Fun K "beads" "String.beads" s_String_beads A_String_beads fd_String_beads
  m_String_beads : Meth K C_String "beads" A_String_beads
  b_String_beads : Binds K fd_String_beads ["self"] []
  A_String_turned : Addr
  fd_String_turned : FuncData
  F_String_turned : Fun K "turned" "String.turned" s_String_turned A_String_turned fd_String_turned
  m_String_turned : Meth K C_String "turned" A_String_turned
  b_String_turned : Binds K fd_String_turned ["self"] []
  A_String_len : Addr
  fd_String_len : FuncData
  F_String_len : Fun K "__len__" "String.__len__" s_String_len A_String_len fd_String_len
  m_String_len : Meth K C_String "__len__" A_String_len
  b_String_len : Binds K fd_String_len ["self"] []
  A_String_eq : Addr
  fd_String_eq : FuncData
  F_String_eq : Fun K "__eq__" "String.__eq__" s_String_eq A_String_eq fd_String_eq
  m_String_eq : Meth K C_String "__eq__" A_String_eq
  b_String_eq : Binds K fd_String_eq ["self", "other"] []
  A_String_repr : Addr
  fd_String_repr : FuncData
  F_String_repr : Fun K "__repr__" "String.__repr__" s_String_repr A_String_repr fd_String_repr
  m_String_repr : Meth K C_String "__repr__" A_String_repr
  b_String_repr : Binds K fd_String_repr ["self"] []
  A_String_str : Addr
  fd_String_str : FuncData
  F_String_str : Fun K "__str__" "String.__str__" s_String_str A_String_str fd_String_str
  m_String_str : Meth K C_String "__str__" A_String_str
  b_String_str : Binds K fd_String_str ["self"] []
  A_is_measure : Addr
  fd_is_measure : FuncData
  F_is_measure : Fun K "is_measure" "is_measure" s_is_measure A_is_measure fd_is_measure
  g_is_measure : mg "is_measure" = some (.ref A_is_measure)
  b_is_measure : Binds K fd_is_measure ["thing"] []
  A_Bead_init : Addr
  fd_Bead_init : FuncData
  F_Bead_init : FunD K "__init__" "Bead.__init__" (defArgs s_Bead_init) (defBody s_Bead_init) (defScope s_Bead_init) [.str "round", .bl false] [] A_Bead_init fd_Bead_init
  mk_Bead : Mk K C_Bead A_Bead_init
  b_Bead_init : Binds K fd_Bead_init ["self", "number", "across", "weight", "shade", "form", "drilled"] []
  A_Bead_row : Addr
  fd_Bead_row : FuncData
  F_Bead_row : Fun K "row" "Bead.row" s_Bead_row A_Bead_row fd_Bead_row
  m_Bead_row : Meth K C_Bead "row" A_Bead_row
  b_Bead_row : Binds K fd_Bead_row ["self"] []
  A_Bead_key : Addr
  fd_Bead_key : FuncData
  F_Bead_key : Fun K "key" "Bead.key" s_Bead_key A_Bead_key fd_Bead_key
  m_Bead_key : Meth K C_Bead "key" A_Bead_key
  b_Bead_key : Binds K fd_Bead_key ["self"] []
  A_Bead_eq : Addr
  fd_Bead_eq : FuncData
  F_Bead_eq : Fun K "__eq__" "Bead.__eq__" s_Bead_eq A_Bead_eq fd_Bead_eq
  m_Bead_eq : Meth K C_Bead "__eq__" A_Bead_eq
  b_Bead_eq : Binds K fd_Bead_eq ["self", "other"] []
  A_Bead_repr : Addr
  fd_Bead_repr : FuncData
  F_Bead_repr : Fun K "__repr__" "Bead.__repr__" s_Bead_repr A_Bead_repr fd_Bead_repr
  m_Bead_repr : Meth K C_Bead "__repr__" A_Bead_repr
  b_Bead_repr : Binds K fd_Bead_repr ["self"] []
  A_Bead_str : Addr
  fd_Bead_str : FuncData
  F_Bead_str : Fun K "__str__" "Bead.__str__" s_Bead_str A_Bead_str fd_Bead_str
  m_Bead_str : Meth K C_Bead "__str__" A_Bead_str
  b_Bead_str : Binds K fd_Bead_str ["self"] []
  A_bead_of : Addr
  fd_bead_of : FuncData
  F_bead_of : Fun K "bead_of" "bead_of" s_bead_of A_bead_of fd_bead_of
  g_bead_of : mg "bead_of" = some (.ref A_bead_of)
  b_bead_of : Binds K fd_bead_of ["row"] []
  A_in_order : Addr
  fd_in_order : FuncData
  F_in_order : Fun K "in_order" "in_order" s_in_order A_in_order fd_in_order
  g_in_order : mg "in_order" = some (.ref A_in_order)
  b_in_order : Binds K fd_in_order ["beads"] []
  A_unlike : Addr
  fd_unlike : FuncData
  F_unlike : Fun K "unlike" "unlike" s_unlike A_unlike fd_unlike
  g_unlike : mg "unlike" = some (.ref A_unlike)
  b_unlike : Binds K fd_unlike ["beads"] []
  A_how_many : Addr
  fd_how_many : FuncData
  F_how_many : Fun K "how_many" "how_many" s_how_many A_how_many fd_how_many
  g_how_many : mg "how_many" = some (.ref A_how_many)
  b_how_many : Binds K fd_how_many ["beads", "bead"] []
  A_are_shades : Addr
  fd_are_shades : FuncData
  F_are_shades : Fun K "are_shades" "are_shades" s_are_shades A_are_shades fd_are_shades
  g_are_shades : mg "are_shades" = some (.ref A_are_shades)
  b_are_shades : Binds K fd_are_shades ["thing"] []
  A_Lot_init : Addr
  fd_Lot_init : FuncData
  F_Lot_init : FunD K "__init__" "Lot.__init__" (defArgs s_Lot_init) (defBody s_Lot_init) (defScope s_Lot_init) [.int 1, .int 1000000, .non] [] A_Lot_init fd_Lot_init
  mk_Lot : Mk K C_Lot A_Lot_init
  b_Lot_init : Binds K fd_Lot_init ["self", "name", "room", "least", "most", "shades"] []
  A_Lot_len : Addr
  fd_Lot_len : FuncData
  F_Lot_len : Fun K "__len__" "Lot.__len__" s_Lot_len A_Lot_len fd_Lot_len
  m_Lot_len : Meth K C_Lot "__len__" A_Lot_len
  b_Lot_len : Binds K fd_Lot_len ["self"] []
  A_Lot_eq : Addr
  fd_Lot_eq : FuncData
  F_Lot_eq : Fun K "__eq__" "Lot.__eq__" s_Lot_eq A_Lot_eq fd_Lot_eq
  m_Lot_eq : Meth K C_Lot "__eq__" A_Lot_eq
  b_Lot_eq : Binds K fd_Lot_eq ["self", "other"] []
  A_Lot_str : Addr
  fd_Lot_str : FuncData
  F_Lot_str : Fun K "__str__" "Lot.__str__" s_Lot_str A_Lot_str fd_Lot_str
  m_Lot_str : Meth K C_Lot "__str__" A_Lot_str
  b_Lot_str : Binds K fd_Lot_str ["self"] []
  A_common_part : Addr
  fd_common_part : FuncData
  F_common_part : Fun K "common_part" "common_part" s_common_part A_common_part fd_common_part
  g_common_part : mg "common_part" = some (.ref A_common_part)
  b_common_part : Binds K fd_common_part ["one", "other"] []
  A_Share_init : Addr
  fd_Share_init : FuncData
  F_Share_init : FunD K "__init__" "Share.__init__" (defArgs s_Share_init) (defBody s_Share_init) (defScope s_Share_init) [.int 1] [] A_Share_init fd_Share_init
  mk_Share : Mk K C_Share A_Share_init
  b_Share_init : Binds K fd_Share_init ["self", "num", "over"] []
  A_Share_eq : Addr
  fd_Share_eq : FuncData
  F_Share_eq : Fun K "__eq__" "Share.__eq__" s_Share_eq A_Share_eq fd_Share_eq
  m_Share_eq : Meth K C_Share "__eq__" A_Share_eq
  b_Share_eq : Binds K fd_Share_eq ["self", "other"] []
  A_Share_repr : Addr
  fd_Share_repr : FuncData
  F_Share_repr : Fun K "__repr__" "Share.__repr__" s_Share_repr A_Share_repr fd_Share_repr
  m_Share_repr : Meth K C_Share "__repr__" A_Share_repr
  b_Share_repr : Binds K fd_Share_repr ["self"] []
  A_draws : Addr
  fd_draws : FuncData
  F_draws : Fun K "_law_draws" "_law_draws" s_draws A_draws fd_draws
  g_draws : mg "_law_draws" = some (.ref A_draws)
  b_draws : Binds K fd_draws ["_law_cell"] []
  A_next : Addr
  fd_next : FuncData
  F_next : Fun K "_law_next" "_law_next" s_next A_next fd_next
  g_next : mg "_law_next" = some (.ref A_next)
  b_next : Binds K fd_next ["_law_draws_here", "_law_size"] []
  A_words : Addr
  fd_words : FuncData
  F_words : Fun K "_law_words" "_law_words" s_words A_words fd_words
  g_words : mg "_law_words" = some (.ref A_words)
  b_words : Binds K fd_words ["_law_draws_here", "_law_many"] []
  A_row : Addr
  fd_row : FuncData
  F_row : Fun K "_law_row" "_law_row" s_row A_row fd_row
  g_row : mg "_law_row" = some (.ref A_row)
  b_row : Binds K fd_row ["_law_draws_here", "_law_mark", "_law_words_here", "_law_wide"] []
  A_rows : Addr
  fd_rows : FuncData
  F_rows : Fun K "_law_rows" "_law_rows" s_rows A_rows fd_rows
  g_rows : mg "_law_rows" = some (.ref A_rows)
  b_rows : Binds K fd_rows ["_law_draws_here", "_law_words_here"] []
  A_made : Addr
  fd_made : FuncData
  F_made : Fun K "_law_made" "_law_made" s_made A_made fd_made
  g_made : mg "_law_made" = some (.ref A_made)
  b_made : Binds K fd_made ["_law_row_here", "_law_way"] []
  A_shown : Addr
  fd_shown : FuncData
  F_shown : Fun K "_law_shown" "_law_shown" s_shown A_shown fd_shown
  g_shown : mg "_law_shown" = some (.ref A_shown)
  b_shown : Binds K fd_shown ["_law_row_here"] []
  A_beads : Addr
  fd_beads : FuncData
  F_beads : Fun K "_law_beads" "_law_beads" s_beads A_beads fd_beads
  g_beads : mg "_law_beads" = some (.ref A_beads)
  b_beads : Binds K fd_beads ["_law_rows_here", "_law_beads_here"] []
  A_strings : Addr
  fd_strings : FuncData
  F_strings : Fun K "_law_strings" "_law_strings" s_strings A_strings fd_strings
  g_strings : mg "_law_strings" = some (.ref A_strings)
  b_strings : Binds K fd_strings ["_law_draws_here", "_law_rows_here", "_law_beads_here"] []
  A_others : Addr
  fd_others : FuncData
  F_others : Fun K "_law_others" "_law_others" s_others A_others fd_others
  g_others : mg "_law_others" = some (.ref A_others)
  b_others : Binds K fd_others ["_law_draws_here", "_law_words_here"] []
  cc_in_order : Addr
  PP_in_order : Addr
  cd_in_order : fd_in_order.code = .ref cc_in_order
  cc_beads : Addr
  PP_beads : Addr
  cd_beads : fd_beads.code = .ref cc_beads
  its_kb_1 : List Value
  kb_1 : KBn K fd_Bead_init ["self", "number", "across", "weight", "shade", "form", "drilled"] 1 ["drilled", "form", "shade", "weight", "across", "number"] (fun us ws => kw [(0, 0), (2, 5), (2, 4), (2, 3), (2, 2), (2, 1), (2, 0)] us its_kb_1 ws) (fun vs zs => kw [(0, 0), (2, 5), (2, 4), (2, 3), (2, 2), (2, 1), (2, 0)] vs [.str "round", .bl false] zs)
  its_kb_2 : List Value
  kb_2 : KBn K fd_Bead_init ["self", "number", "across", "weight", "shade", "form", "drilled"] 6 ["drilled"] (fun us ws => kw [(0, 0), (0, 1), (0, 2), (0, 3), (0, 4), (0, 5), (2, 0)] us its_kb_2 ws) (fun vs zs => kw [(0, 0), (0, 1), (0, 2), (0, 3), (0, 4), (0, 5), (2, 0)] vs [.str "round", .bl false] zs)
  its_kb_3 : List Value
  kb_3 : KBn K fd_Rule_init ["self", "least", "most", "match", "shades"] 1 ["most", "match", "shades"] (fun us ws => kw [(0, 0), (1, 0), (2, 0), (2, 1), (2, 2)] us its_kb_3 ws) (fun vs zs => kw [(0, 0), (1, 0), (2, 0), (2, 1), (2, 2)] vs [.int 0, .int 10, .int 0, .bl true] zs)
  its_kb_4 : List Value
  kb_4 : KBn K fd_Rule_init ["self", "least", "most", "match", "shades"] 3 ["match"] (fun us ws => kw [(0, 0), (0, 1), (0, 2), (2, 0), (1, 3)] us its_kb_4 ws) (fun vs zs => kw [(0, 0), (0, 1), (0, 2), (2, 0), (1, 3)] vs [.int 0, .int 10, .int 0, .bl true] zs)
  its_kb_5 : List Value
  kb_5 : KBn K fd_Share_init ["self", "num", "over"] 1 ["over", "num"] (fun us ws => kw [(0, 0), (2, 1), (2, 0)] us its_kb_5 ws) (fun vs zs => kw [(0, 0), (2, 1), (2, 0)] vs [.int 1] zs)
  its_kb_6 : List Value
  kb_6 : KBn K fd_Lot_init ["self", "name", "room", "least", "most", "shades"] 3 ["shades"] (fun us ws => kw [(0, 0), (0, 1), (0, 2), (1, 0), (1, 1), (2, 0)] us its_kb_6 ws) (fun vs zs => kw [(0, 0), (0, 1), (0, 2), (1, 0), (1, 1), (2, 0)] vs [.int 1, .int 1000000, .non] zs)
  its_kb_7 : List Value
  kb_7 : KBn K fd_Lot_init ["self", "name", "room", "least", "most", "shades"] 2 ["shades", "room"] (fun us ws => kw [(0, 0), (0, 1), (2, 1), (1, 0), (1, 1), (2, 0)] us its_kb_7 ws) (fun vs zs => kw [(0, 0), (0, 1), (2, 1), (1, 0), (1, 1), (2, 0)] vs [.int 1, .int 1000000, .non] zs)
  its_kb_8 : List Value
  kb_8 : KBn K fd_Rule_init ["self", "least", "most", "match", "shades"] 1 ["shades", "match", "most", "least"] (fun us ws => kw [(0, 0), (2, 3), (2, 2), (2, 1), (2, 0)] us its_kb_8 ws) (fun vs zs => kw [(0, 0), (2, 3), (2, 2), (2, 1), (2, 0)] vs [.int 0, .int 10, .int 0, .bl true] zs)
  ds4_Bead : List Value
  hd4_Bead : Vals [.str "round", .bl false] ds4_Bead
  bd4_Bead : Binds K fd_Bead_init ["self", "number", "across", "weight", "shade", "form", "drilled"] ds4_Bead
  ds3_Rule : List Value
  hd3_Rule : Vals [.bl true] ds3_Rule
  bd3_Rule : Binds K fd_Rule_init ["self", "least", "most", "match", "shades"] ds3_Rule
  ic_Bead : ICls K C_Bead
  i_Bead : PySem.W.kitOne K (.ref C_Bead) (.ref C_Bead) = some true
  hm_Bead : PySem.W.mroIn K C_Bead (.type "object") = some true
  hne_Bead : PySem.W.findIn K (.ref C_Bead) "__ne__" = some (some (.builtin "object.__ne__"))
  ic_Rule : ICls K C_Rule
  i_Rule : PySem.W.kitOne K (.ref C_Rule) (.ref C_Rule) = some true
  hm_Rule : PySem.W.mroIn K C_Rule (.type "object") = some true
  hne_Rule : PySem.W.findIn K (.ref C_Rule) "__ne__" = some (some (.builtin "object.__ne__"))
  ic_String : ICls K C_String
  i_String : PySem.W.kitOne K (.ref C_String) (.ref C_String) = some true
  hm_String : PySem.W.mroIn K C_String (.type "object") = some true
  hne_String : PySem.W.findIn K (.ref C_String) "__ne__" = some (some (.builtin "object.__ne__"))
  ic_Lot : ICls K C_Lot
  i_Lot : PySem.W.kitOne K (.ref C_Lot) (.ref C_Lot) = some true
  hm_Lot : PySem.W.mroIn K C_Lot (.type "object") = some true
  hne_Lot : PySem.W.findIn K (.ref C_Lot) "__ne__" = some (some (.builtin "object.__ne__"))
  ic_Share : ICls K C_Share
  i_Share : PySem.W.kitOne K (.ref C_Share) (.ref C_Share) = some true
  hm_Share : PySem.W.mroIn K C_Share (.type "object") = some true
  hne_Share : PySem.W.findIn K (.ref C_Share) "__ne__" = some (some (.builtin "object.__ne__"))
  sn_int : PySem.W.subIn K (.ref C_Bead) (.type "int") = some false
  nf_int : PySem.W.notFirst K C_Bead (.type "int") = true
  no_int : PySem.W.kitOne K (.type "int") (.ref C_Bead) = some false
  sn_str : PySem.W.subIn K (.ref C_Bead) (.type "str") = some false
  nf_str : PySem.W.notFirst K C_Bead (.type "str") = true
  no_str : PySem.W.kitOne K (.type "str") (.ref C_Bead) = some false
  sn_bool : PySem.W.subIn K (.ref C_Bead) (.type "bool") = some false
  nf_bool : PySem.W.notFirst K C_Bead (.type "bool") = true
  no_bool : PySem.W.kitOne K (.type "bool") (.ref C_Bead) = some false
  sn_NoneType : PySem.W.subIn K (.ref C_Bead) (.type "NoneType") = some false
  nf_NoneType : PySem.W.notFirst K C_Bead (.type "NoneType") = true
  no_NoneType : PySem.W.kitOne K (.type "NoneType") (.ref C_Bead) = some false
  sn_list : PySem.W.subIn K (.ref C_Bead) (.type "list") = some false
  nf_list : PySem.W.notFirst K C_Bead (.type "list") = true
  no_list : PySem.W.kitOne K (.type "list") (.ref C_Bead) = some false
  sn_tuple : PySem.W.subIn K (.ref C_Bead) (.type "tuple") = some false
  nf_tuple : PySem.W.notFirst K C_Bead (.type "tuple") = true
  no_tuple : PySem.W.kitOne K (.type "tuple") (.ref C_Bead) = some false
  snL_int : PySem.W.subIn K (.ref C_Lot) (.type "int") = some false
  nfL_int : PySem.W.notFirst K C_Lot (.type "int") = true
  noL_int : PySem.W.kitOne K (.type "int") (.ref C_Lot) = some false
  snL_str : PySem.W.subIn K (.ref C_Lot) (.type "str") = some false
  nfL_str : PySem.W.notFirst K C_Lot (.type "str") = true
  noL_str : PySem.W.kitOne K (.type "str") (.ref C_Lot) = some false
  snL_bool : PySem.W.subIn K (.ref C_Lot) (.type "bool") = some false
  nfL_bool : PySem.W.notFirst K C_Lot (.type "bool") = true
  noL_bool : PySem.W.kitOne K (.type "bool") (.ref C_Lot) = some false
  snL_NoneType : PySem.W.subIn K (.ref C_Lot) (.type "NoneType") = some false
  nfL_NoneType : PySem.W.notFirst K C_Lot (.type "NoneType") = true
  noL_NoneType : PySem.W.kitOne K (.type "NoneType") (.ref C_Lot) = some false
  snL_list : PySem.W.subIn K (.ref C_Lot) (.type "list") = some false
  nfL_list : PySem.W.notFirst K C_Lot (.type "list") = true
  noL_list : PySem.W.kitOne K (.type "list") (.ref C_Lot) = some false
  snL_tuple : PySem.W.subIn K (.ref C_Lot) (.type "tuple") = some false
  nfL_tuple : PySem.W.notFirst K C_Lot (.type "tuple") = true
  noL_tuple : PySem.W.kitOne K (.type "tuple") (.ref C_Lot) = some false
  snH_int : PySem.W.subIn K (.ref C_Share) (.type "int") = some false
  nfH_int : PySem.W.notFirst K C_Share (.type "int") = true
  noH_int : PySem.W.kitOne K (.type "int") (.ref C_Share) = some false
  snH_str : PySem.W.subIn K (.ref C_Share) (.type "str") = some false
  nfH_str : PySem.W.notFirst K C_Share (.type "str") = true
  noH_str : PySem.W.kitOne K (.type "str") (.ref C_Share) = some false
  snH_bool : PySem.W.subIn K (.ref C_Share) (.type "bool") = some false
  nfH_bool : PySem.W.notFirst K C_Share (.type "bool") = true
  noH_bool : PySem.W.kitOne K (.type "bool") (.ref C_Share) = some false
  snH_NoneType : PySem.W.subIn K (.ref C_Share) (.type "NoneType") = some false
  nfH_NoneType : PySem.W.notFirst K C_Share (.type "NoneType") = true
  noH_NoneType : PySem.W.kitOne K (.type "NoneType") (.ref C_Share) = some false
  snH_list : PySem.W.subIn K (.ref C_Share) (.type "list") = some false
  nfH_list : PySem.W.notFirst K C_Share (.type "list") = true
  noH_list : PySem.W.kitOne K (.type "list") (.ref C_Share) = some false
  snH_tuple : PySem.W.subIn K (.ref C_Share) (.type "tuple") = some false
  nfH_tuple : PySem.W.notFirst K C_Share (.type "tuple") = true
  noH_tuple : PySem.W.kitOne K (.type "tuple") (.ref C_Share) = some false
  snS_int : PySem.W.subIn K (.ref C_String) (.type "int") = some false
  nfS_int : PySem.W.notFirst K C_String (.type "int") = true
  noS_int : PySem.W.kitOne K (.type "int") (.ref C_String) = some false
  snS_str : PySem.W.subIn K (.ref C_String) (.type "str") = some false
  nfS_str : PySem.W.notFirst K C_String (.type "str") = true
  noS_str : PySem.W.kitOne K (.type "str") (.ref C_String) = some false
  snS_bool : PySem.W.subIn K (.ref C_String) (.type "bool") = some false
  nfS_bool : PySem.W.notFirst K C_String (.type "bool") = true
  noS_bool : PySem.W.kitOne K (.type "bool") (.ref C_String) = some false
  snS_NoneType : PySem.W.subIn K (.ref C_String) (.type "NoneType") = some false
  nfS_NoneType : PySem.W.notFirst K C_String (.type "NoneType") = true
  noS_NoneType : PySem.W.kitOne K (.type "NoneType") (.ref C_String) = some false
  snS_list : PySem.W.subIn K (.ref C_String) (.type "list") = some false
  nfS_list : PySem.W.notFirst K C_String (.type "list") = true
  noS_list : PySem.W.kitOne K (.type "list") (.ref C_String) = some false
  snS_tuple : PySem.W.subIn K (.ref C_String) (.type "tuple") = some false
  nfS_tuple : PySem.W.notFirst K C_String (.type "tuple") = true
  noS_tuple : PySem.W.kitOne K (.type "tuple") (.ref C_String) = some false
  no_LR : PySem.W.kitOne K (.ref C_Rule) (.ref C_Lot) = some false
  nf_LR : PySem.W.notFirst K C_Lot (.ref C_Rule) = true
  bb_Bead : PySem.W.findIn K (.ref C_Bead) "__bool__" = some none
  bb_String : PySem.W.findIn K (.ref C_String) "__bool__" = some none
  bb_Lot : PySem.W.findIn K (.ref C_Lot) "__bool__" = some none
  bl_Bead : PySem.W.findIn K (.ref C_Bead) "__len__" = some none
  pp_ne : PP_in_order ≠ PP_beads
  t_LONGEST_NAME : Tok
  g_LONGEST_NAME : mg "LONGEST_NAME" = some (.int 8 t_LONGEST_NAME)
  t_GREATEST_NUMBER : Tok
  g_GREATEST_NUMBER : mg "GREATEST_NUMBER" = some (.int 1000000000 t_GREATEST_NUMBER)
  t_GROUP_FIGURES : Tok
  g_GROUP_FIGURES : mg "GROUP_FIGURES" = some (.int 60 t_GROUP_FIGURES)
  t_GROUP : Tok
  g_GROUP : mg "GROUP" = some (.int 1000000000000000000000000000000000000000000000000000000000000 t_GROUP)
  t_GREATEST_MEASURE : Tok
  g_GREATEST_MEASURE : mg "GREATEST_MEASURE" = some (.int 1000000 t_GREATEST_MEASURE)
  t_ROW_LENGTH : Tok
  g_ROW_LENGTH : mg "ROW_LENGTH" = some (.int 6 t_ROW_LENGTH)
  t_MOST_ROOM : Tok
  g_MOST_ROOM : mg "MOST_ROOM" = some (.int 20 t_MOST_ROOM)
  z_bool : mg "bool" = none
  z_isinstance : mg "isinstance" = none
  z_int : mg "int" = none
  z_len : mg "len" = none
  z_str : mg "str" = none
  z_all : mg "all" = none
  z_abs : mg "abs" = none
  z_divmod : mg "divmod" = none
  z_any : mg "any" = none
  z_enumerate : mg "enumerate" = none
  z_tuple : mg "tuple" = none
  z_list : mg "list" = none
  z_sorted : mg "sorted" = none
  z_set : mg "set" = none
  z_range : mg "range" = none
  z_max : mg "max" = none
  z_zip : mg "zip" = none
  z_repr : mg "repr" = none
structure TBs {K : PySem.W.Frag} {mg : Str → Option Value} (T : Tx K mg) (base : Heap) : Prop where
  t_in_order : LamX.TabB base mg T.cc_in_order T.PP_in_order
  t_beads : LamX.TabB base mg T.cc_beads T.PP_beads
def lamT {K : PySem.W.Frag} {mg : Str → Option Value} (T : Tx K mg) : List (Addr × Str) := [(T.PP_in_order, ("in_order" : Str) ++ ".<locals>." ++ "<lambda>"), (T.PP_beads, ("_law_beads" : Str) ++ ".<locals>." ++ "<lambda>")]
section
variable {P : Program} {w : World} {K : PySem.W.Frag} {mg : Str → Option Value} {base : Heap}
def whl (v : V) (lo hi : Int) : Bool := match v with
  | .int i => decide (lo ≤ i) && decide (i ≤ hi)
  | _ => false
def nm (v : V) : Bool := match v with
  | .str z => decide (1 ≤ z.length) && decide (z.length ≤ 8) && z.cps.toList.all lower
  | _ => false
def spIsInt (K : PySem.W.Frag) : Sp := fun vs H Q _ => ∃ v, vs = [v] ∧ Th K H v ∧ Q (.bl (isI v)) H
def spIsWhole (K : PySem.W.Frag) : Sp := fun vs H Q _ => ∃ v lo hi, vs = [v, .int lo, .int hi] ∧ Th K H v ∧ Q (.bl (whl v lo hi)) H
def spIsNumber (K : PySem.W.Frag) : Sp := fun vs H Q _ => ∃ v, vs = [v] ∧ Th K H v ∧ Q (.bl (whl v 1 1000000000)) H
def spIsName (K : PySem.W.Frag) : Sp := fun vs H Q _ => ∃ v, vs = [v] ∧ Th K H v ∧ (∀ z, v = .str z → z.length ≤ 100000) ∧ ∀ H', Same H H' → Q (.bl (nm v)) H'
theorem ok_is_int (T : Tx K mg) : FnOk P w K mg base CX0 1 T.A_is_int T.fd_is_int ["thing"] (spIsInt K) := by
  refine T.F_is_int.ok sc_is_int (fun vs H Q E h => ?_) (fun cdv A outer s H vs Q E hr h => ?_)
  · obtain ⟨v, rfl, th, q⟩ := h
    rfl
  obtain ⟨v, rfl, th, q⟩ := h
  refine ⟨_, (pss_one (ps_ret (pe_and (pe_callB call_isi (by rfl) T.z_isinstance (by decide +kernel) (pa_cons (pv 0) (pa_cons (pe_bltn (v := .ty "int") (by rfl) T.z_int (by decide +kernel) rfl) pa_nil))) (pe_one (pe_not (pe_callB call_isi (by rfl) T.z_isinstance (by decide +kernel) (pa_cons (pv 0) (pa_cons (pe_bltn (v := .ty "bool") (by rfl) T.z_bool (by decide +kernel) rfl) pa_nil)))))))), ?_⟩
  obtain ⟨t1, ty1, k1⟩ := isi_int th
  obtain ⟨t2, ty2, k2⟩ := isi_bool th
  refine ⟨_, rfl, v, _, t1, _, _, rfl, .ty _, ty1, k1, _, rfl, ?_⟩
  refine ite2 (fun e => ?_) (fun e => ?_)
  · refine ⟨_, rfl, v, _, t2, _, _, rfl, .ty _, ty2, k2, _, rfl, ?_⟩
    have : (!isB v) = isI v := by cases v <;> simp_all [isI, isB]
    rw [this]
    exact q
  · have : isI v = false := by cases v <;> simp_all [isI, isB]
    rw [this] at q
    exact q
theorem ok_is_whole (T : Tx K mg) : FnOk P w K mg base CX0 2 T.A_is_whole T.fd_is_whole ["thing", "least", "most"] (spIsWhole K) := by
  refine T.F_is_whole.ok sc_is_whole (fun vs H Q E h => ?_) (fun cdv A outer s H vs Q E hr h => ?_)
  · obtain ⟨v, lo, hi, rfl, th, q⟩ := h
    rfl
  obtain ⟨v, lo, hi, rfl, th, q⟩ := h
  refine ⟨_, (pss_one (ps_ret (pe_and (pe_call (ok_is_int T) (hr.mono (by decide)) (by rfl) T.g_is_int T.F_is_int.kp T.b_is_int .nil pass0 (pa_cons (pv 0) pa_nil)) (pe_one (pe_chain op_le op_le (pv 1) (pv 0) (pv 2)))))), ?_⟩
  refine ⟨_, rfl, v, rfl, th, _, rfl, ?_⟩
  cases v with
  | int i =>
    refine iteT ?_
    refine ⟨_, rfl, _, rfl, _, _, rfl, rfl, _, rfl, ?_⟩
    refine ite2 (fun e => ?_) (fun e => ?_)
    · refine ⟨_, rfl, _, _, rfl, rfl, ?_⟩
      have q : Q (.bl (decide (lo ≤ i) && decide (i ≤ hi))) H := q
      rw [e] at q
      exact q
    · have q : Q (.bl (decide (lo ≤ i) && decide (i ≤ hi))) H := q
      rw [Bool.not_eq_true] at e
      rw [e] at q
      exact q
  | _ => exact iteF q
theorem ok_is_number (T : Tx K mg) : FnOk P w K mg base CX0 3 T.A_is_number T.fd_is_number ["thing"] (spIsNumber K) := by
  refine T.F_is_number.ok sc_is_number (fun vs H Q E h => ?_) (fun cdv A outer s H vs Q E hr h => ?_)
  · obtain ⟨v, rfl, th, q⟩ := h
    rfl
  obtain ⟨v, rfl, th, q⟩ := h
  refine ⟨_, (pss_one (ps_ret (pe_call (ok_is_whole T) (hr.mono (by decide)) (by rfl) T.g_is_whole T.F_is_whole.kp T.b_is_whole .nil pass0 (pa_cons (pv 0) (pa_cons pe_int (pa_cons (pe_glob (v := .int 1000000000) (by rfl) T.g_GREATEST_NUMBER ⟨_, rfl⟩) pa_nil)))))), ?_⟩
  exact ⟨_, rfl, v, 1, 1000000000, rfl, th, q⟩
theorem nm_no {v : V} (h : isS v = false) : nm v = false := by cases v <;> simp_all [nm, isS]
theorem ok_is_name (T : Tx K mg) : FnOk P w K mg base CX0 1 T.A_is_name T.fd_is_name ["thing"] (spIsName K) := by
  refine T.F_is_name.ok sc_is_name (fun vs H Q E h => ?_) (fun cdv A outer s H vs Q E hr h => ?_)
  · obtain ⟨v, rfl, th, hz, q⟩ := h
    rfl
  obtain ⟨v, rfl, th, hz, q⟩ := h
  refine ⟨_, (pss_cons (ps_if (PW.pt (pw_or (pt_not (pt_val (pe_callB call_isi (by rfl) T.z_isinstance (by decide +kernel) (pa_cons (pv 0) (pa_cons (pe_bltn (v := .ty "str") (by rfl) T.z_str (by decide +kernel) rfl) pa_nil))))) (pw_or1 (pt_not (pt_chain op_le op_le pe_int (pe_callB call_len_str (by rfl) T.z_len PySem.boot_len (pa_cons (pv 0) pa_nil)) (pe_glob (v := .int 8) (by rfl) T.g_LONGEST_NAME ⟨_, rfl⟩)))))) (pss_one (ps_ret pe_bl)) pss_nil)
      (pss_one (ps_ret (pe_callB (cr_all rfl) (by rfl) T.z_all (by decide +kernel) (pa_cons (pe_lc (own := [("sign", 1)]) (g := gName 1) (tt := tYes) rfl sc_is_name.nd (pi_str (pv 0)) (blkOk_by (N := ["thing", "sign"]) (sc := defScope s_is_name) (by decide +kernel)) (fun _ _ _ _ _ => (pg_name (i := 1) sc_is_name.nd rfl (Or.inl rfl))) (fun _ _ _ _ _ => pts_nil) (fun _ _ _ _ _ => (pe_chain op_le_str op_le_str pe_str (pv 1) pe_str))) pa_nil))))), ?_⟩
  obtain ⟨t1, ty1, k1⟩ := isi_str th
  refine ⟨_, rfl, v, _, t1, _, _, rfl, .ty _, ty1, k1, _, rfl, ?_⟩
  by_cases hs : isS v = true
  · obtain ⟨z, rfl⟩ : ∃ z, v = .str z := by
      cases v with
      | str z => exact ⟨z, rfl⟩
      | _ => cases hs
    have hz := hz z rfl
    have hzl : z.length ≤ sizeLine := Nat.le_trans hz (by decide)
    have nmE : nm (.str z) = (decide (1 ≤ z.length) && decide (z.length ≤ 8) && z.cps.toList.all lower) := rfl
    rw [hs]
    refine iteF ?_
    refine ⟨_, rfl, z, rfl, hzl, _, _, rfl, rfl, _, rfl, ?_⟩
    by_cases h1 : 1 ≤ z.length
    · rw [decide_eq_true (show (1 : Int) ≤ (z.length : Int) by omega)]
      refine iteT ⟨_, _, rfl, rfl, _, rfl, ?_⟩
      by_cases h2 : z.length ≤ 8
      · rw [decide_eq_true (show (z.length : Int) ≤ 8 by omega)]
        refine iteF ?_
        refine ⟨_, rfl, z, rfl, fun D hD => lc_all hD hz lower ?_ ?_⟩
        · intro c H2 R C s2 r
          refine ⟨rfl, yesT ?_⟩
          refine ⟨_, rfl, _, _, rfl, rfl, _, rfl, ?_⟩
          rw [ge_a]
          refine ite2 (fun e => ?_) (fun e => ?_)
          · refine ⟨_, _, rfl, rfl, ?_⟩
            rw [le_z]
            have : lower c = decide (c ≤ 122) := by unfold lower; rw [e, Bool.true_and]
            rw [← this]
            exact r
          · rw [Bool.not_eq_true] at e
            have : lower c = false := by unfold lower; rw [e, Bool.false_and]
            rw [← this]
            exact r
        · intro H' s1 e1
          refine ⟨D, z.cps.toList.map lower, rfl, SqL.of e1, ?_⟩
          have q := q H' s1
          have : nm (.str z) = (z.cps.toList.map lower).all id := by
            rw [nmE, decide_eq_true h1, decide_eq_true h2, Bool.true_and, Bool.true_and, List.all_map]
            rfl
          rw [this] at q
          exact q
      · rw [decide_eq_false (show ¬ (z.length : Int) ≤ 8 by omega)]
        refine iteT ?_
        have q := q H (Same.refl H)
        rw [nmE, decide_eq_false h2, Bool.and_false, Bool.false_and] at q
        exact q
    · rw [decide_eq_false (show ¬ (1 : Int) ≤ (z.length : Int) by omega)]
      refine iteF ⟨_, rfl, ?_⟩
      refine iteT ?_
      have q := q H (Same.refl H)
      rw [nmE, decide_eq_false h1, Bool.false_and, Bool.false_and] at q
      exact q
  · rw [Bool.not_eq_true] at hs
    rw [hs]
    refine iteT (iteT ?_)
    have q := q H (Same.refl H)
    rw [nm_no hs] at q
    exact q
end
end KB
namespace KB
open PySem PySem.Spec PyProof.Rows L2 KA
section
variable {P : Program} {w : World} {K : PySem.W.Frag} {mg : Str → Option Value} {base : Heap}
def spFromN (K : PySem.W.Frag) : Sp := fun vs H Q _ => ∃ v, vs = [v] ∧ Th K H v ∧ Q (.bl (match v with | .int i => decide (0 ≤ i) | _ => false)) H
theorem ok_is_from_nought (T : Tx K mg) : FnOk P w K mg base CX0 2 T.A_is_from_nought T.fd_is_from_nought ["thing"] (spFromN K) := by
  refine T.F_is_from_nought.ok sc_is_from_nought (fun vs H Q E h => ?_) (fun cdv A outer s H vs Q E hr h => ?_)
  · obtain ⟨v, rfl, th, q⟩ := h
    rfl
  obtain ⟨v, rfl, th, q⟩ := h
  refine ⟨_, (pss_one (ps_ret (pe_and (pe_call (ok_is_int T) (hr.mono (by decide)) (by rfl) T.g_is_int T.F_is_int.kp T.b_is_int .nil pass0 (pa_cons (pv 0) pa_nil)) (pe_one (pe_cmpR op_ge (pv 0) pe_int (nomark _)))))), ?_⟩
  refine ⟨_, rfl, v, rfl, th, _, rfl, ?_⟩
  cases v with
  | int i => exact iteT ⟨_, rfl, _, _, rfl, rfl, q⟩
  | _ => exact iteF q
def spMeasure (K : PySem.W.Frag) : Sp := fun vs H Q _ => ∃ v, vs = [v] ∧ Th K H v ∧ Q (.bl (whl v 1 1000000)) H
theorem ok_is_measure (T : Tx K mg) : FnOk P w K mg base CX0 3 T.A_is_measure T.fd_is_measure ["thing"] (spMeasure K) := by
  refine T.F_is_measure.ok sc_is_measure (fun vs H Q E h => ?_) (fun cdv A outer s H vs Q E hr h => ?_)
  · obtain ⟨v, rfl, th, q⟩ := h
    rfl
  obtain ⟨v, rfl, th, q⟩ := h
  refine ⟨_, (pss_one (ps_ret (pe_call (ok_is_whole T) (hr.mono (by decide)) (by rfl) T.g_is_whole T.F_is_whole.kp T.b_is_whole .nil pass0 (pa_cons (pv 0) (pa_cons pe_int (pa_cons (pe_glob (v := .int 1000000) (by rfl) T.g_GREATEST_MEASURE ⟨_, rfl⟩) pa_nil)))))), ?_⟩
  exact ⟨_, rfl, v, 1, 1000000, rfl, th, q⟩
/-- a bead, a rule, as data -/
structure Rw where
  num : Int
  ac : Int
  we : Int
  sh : Str
  fo : Str
  dr : Bool
structure Rl where
  lo : Int
  hi : Int
  far : Int
  shd : Bool
def GoodRw (r : Rw) : Prop := whl (.int r.num) 1 1000000000 = true ∧ whl (.int r.ac) 1 1000000 = true ∧ whl (.int r.we) 1 1000000 = true ∧ nm (.str r.sh) = true ∧ nm (.str r.fo) = true
def GoodRl (u : Rl) : Prop := 0 ≤ u.lo ∧ u.lo ≤ u.hi ∧ 0 ≤ u.far
theorem short_name {z : Str} (h : nm (.str z) = true) : z.length ≤ 100000 := by
  have nmE : nm (.str z) = (decide (1 ≤ z.length) && decide (z.length ≤ 8) && z.cps.toList.all lower) := rfl
  rw [nmE] at h
  simp only [Bool.and_eq_true, decide_eq_true_eq] at h
  omega
def bf (r : Rw) : List (Str × V) := putF "drilled" (.bl r.dr) (putF "form" (.str r.fo) (putF "shade" (.str r.sh) (putF "weight" (.int r.we) (putF "across" (.int r.ac) (putF "number" (.int r.num) [])))))
theorem bf_number (r : Rw) : (bf r).lookup ("number" : Str) = some (.int r.num) := by
  unfold bf
  rw [lookup_putF, if_neg (by decide +kernel), lookup_putF, if_neg (by decide +kernel), lookup_putF, if_neg (by decide +kernel), lookup_putF, if_neg (by decide +kernel), lookup_putF, if_neg (by decide +kernel), lookup_putF, if_pos rfl]
theorem bf_across (r : Rw) : (bf r).lookup ("across" : Str) = some (.int r.ac) := by
  unfold bf
  rw [lookup_putF, if_neg (by decide +kernel), lookup_putF, if_neg (by decide +kernel), lookup_putF, if_neg (by decide +kernel), lookup_putF, if_neg (by decide +kernel), lookup_putF, if_pos rfl]
theorem bf_weight (r : Rw) : (bf r).lookup ("weight" : Str) = some (.int r.we) := by
  unfold bf
  rw [lookup_putF, if_neg (by decide +kernel), lookup_putF, if_neg (by decide +kernel), lookup_putF, if_neg (by decide +kernel), lookup_putF, if_pos rfl]
theorem bf_shade (r : Rw) : (bf r).lookup ("shade" : Str) = some (.str r.sh) := by
  unfold bf
  rw [lookup_putF, if_neg (by decide +kernel), lookup_putF, if_neg (by decide +kernel), lookup_putF, if_pos rfl]
theorem bf_form (r : Rw) : (bf r).lookup ("form" : Str) = some (.str r.fo) := by
  unfold bf
  rw [lookup_putF, if_neg (by decide +kernel), lookup_putF, if_pos rfl]
theorem bf_drilled (r : Rw) : (bf r).lookup ("drilled" : Str) = some (.bl r.dr) := by
  unfold bf
  rw [lookup_putF, if_pos rfl]
theorem bf_no (r : Rw) {m : Str} (h1 : ¬ m = "drilled") (h2 : ¬ m = "form") (h3 : ¬ m = "shade") (h4 : ¬ m = "weight") (h5 : ¬ m = "across") (h6 : ¬ m = "number") : (bf r).lookup m = none := by
  unfold bf
  rw [lookup_putF, if_neg h1, lookup_putF, if_neg h2, lookup_putF, if_neg h3, lookup_putF, if_neg h4, lookup_putF, if_neg h5, lookup_putF, if_neg h6]
  rfl
def uf (u : Rl) : List (Str × V) := putF "shades" (.bl u.shd) (putF "match" (.int u.far) (putF "most" (.int u.hi) (putF "least" (.int u.lo) [])))
theorem uf_least (u : Rl) : (uf u).lookup ("least" : Str) = some (.int u.lo) := by
  unfold uf
  rw [lookup_putF, if_neg (by decide +kernel), lookup_putF, if_neg (by decide +kernel), lookup_putF, if_neg (by decide +kernel), lookup_putF, if_pos rfl]
theorem uf_most (u : Rl) : (uf u).lookup ("most" : Str) = some (.int u.hi) := by
  unfold uf
  rw [lookup_putF, if_neg (by decide +kernel), lookup_putF, if_neg (by decide +kernel), lookup_putF, if_pos rfl]
theorem uf_match (u : Rl) : (uf u).lookup ("match" : Str) = some (.int u.far) := by
  unfold uf
  rw [lookup_putF, if_neg (by decide +kernel), lookup_putF, if_pos rfl]
theorem uf_shades (u : Rl) : (uf u).lookup ("shades" : Str) = some (.bl u.shd) := by
  unfold uf
  rw [lookup_putF, if_pos rfl]
theorem few {fs : List (Str × V)} {f : Str} {v : V} {n : Nat} (h : fs.length ≤ n) : (putF f v fs).length ≤ n + 1 := Nat.le_trans (length_putF f v fs) (by omega)
theorem few0 : ([] : List (Str × V)).length ≤ 0 := Nat.le_refl _
def BeadAt (C : Addr) (H : Hp) (p : Addr) (r : Rw) : Prop := ∃ dx, H p = some (.ins C dx (bf r))
def RuleAt (C : Addr) (H : Hp) (p : Addr) (u : Rl) : Prop := ∃ dx, H p = some (.ins C dx (uf u))
def spBead (C : Addr) : Sp := fun vs H Q _ => ∃ (p dx : Addr) (r : Rw), vs = [.ref p, .int r.num, .int r.ac, .int r.we, .str r.sh, .str r.fo, .bl r.dr] ∧ H p = some (.ins C dx []) ∧ GoodRw r ∧
  ∀ H' : Hp, BeadAt C H' p r → (∀ b o, H b = some o → b ≠ p → H' b = some o) → Q .non H'
theorem ok_Bead_init (T : Tx K mg) : FnOk P w K mg base CX0 4 T.A_Bead_init T.fd_Bead_init ["self", "number", "across", "weight", "shade", "form", "drilled"] (spBead T.C_Bead) := by
  refine okD T.F_Bead_init sc_Bead_init (fun vs H Q E h => ?_) (fun cdv A outer s H vs Q E hr h => ?_)
  · obtain ⟨p, dx, r, rfl, hp, ⟨g1, g2, g3, g4, g5⟩, q⟩ := h
    rfl
  obtain ⟨p, dx, r, rfl, hp, ⟨g1, g2, g3, g4, g5⟩, q⟩ := h
  refine ⟨_, (pss_cons (ps_if (pt_not (pt_val (pe_call (ok_is_number T) (hr.mono (by decide)) (by rfl) T.g_is_number T.F_is_number.kp T.b_is_number .nil pass0 (pa_cons (pv 1) pa_nil)))) (pss_one ps_never) pss_nil)
      (pss_cons (ps_if (PW.pt (pw_or (pt_not (pt_val (pe_call (ok_is_measure T) (hr.mono (by decide)) (by rfl) T.g_is_measure T.F_is_measure.kp T.b_is_measure .nil pass0 (pa_cons (pv 2) pa_nil)))) (pw_or1 (pt_not (pt_val (pe_call (ok_is_measure T) (hr.mono (by decide)) (by rfl) T.g_is_measure T.F_is_measure.kp T.b_is_measure .nil pass0 (pa_cons (pv 3) pa_nil))))))) (pss_one ps_never) pss_nil)
      (pss_cons (ps_if (PW.pt (pw_or (pt_not (pt_val (pe_call (ok_is_name T) (hr.mono (by decide)) (by rfl) T.g_is_name T.F_is_name.kp T.b_is_name .nil pass0 (pa_cons (pv 4) pa_nil)))) (pw_or1 (pt_not (pt_val (pe_call (ok_is_name T) (hr.mono (by decide)) (by rfl) T.g_is_name T.F_is_name.kp T.b_is_name .nil pass0 (pa_cons (pv 5) pa_nil))))))) (pss_one ps_never) pss_nil)
      (pss_cons (ps_if (pt_not (pt_val (pe_callB call_isi (by rfl) T.z_isinstance (by decide +kernel) (pa_cons (pv 6) (pa_cons (pe_bltn (v := .ty "bool") (by rfl) T.z_bool (by decide +kernel) rfl) pa_nil))))) (pss_one ps_never) pss_nil)
      (pss_cons (ps_fld (pv 0) (pv 1) rfl)
      (pss_cons (ps_fld (pv 0) (pv 2) rfl)
      (pss_cons (ps_fld (pv 0) (pv 3) rfl)
      (pss_cons (ps_fld (pv 0) (pv 4) rfl)
      (pss_cons (ps_fld (pv 0) (pv 5) rfl)
      (pss_one (ps_fld (pv 0) (pv 6) rfl))))))))))), ?_⟩
  refine ⟨_, rfl, _, rfl, .int _, _, rfl, ?_⟩
  rw [g1]
  refine iteF ⟨_, rfl, _, rfl, .int _, _, rfl, ?_⟩
  rw [g2]
  refine iteF ⟨_, rfl, _, rfl, .int _, _, rfl, ?_⟩
  rw [g3]
  refine iteF ⟨_, rfl, _, rfl, .str _, (fun z hz => by injection hz with hz; rw [← hz]; exact short_name g4), fun H1 s1 => ⟨_, rfl, ?_⟩⟩
  rw [g4]
  refine iteF ⟨_, rfl, _, rfl, .str _, (fun z hz => by injection hz with hz; rw [← hz]; exact short_name g5), fun H2 s2 => ⟨_, rfl, ?_⟩⟩
  rw [g5]
  refine iteF ⟨_, rfl, _, _, _, _, _, rfl, .ty _, .base (.bl _), kit_ty (r := true) (by decide +kernel), _, rfl, ?_⟩
  refine iteF ?_
  have h2 := s2 _ _ (s1 _ _ hp)
  refine ⟨_, rfl, _, rfl, p, _, dx, _, rfl, h2, T.cl_Bead, T.n_Bead_number, by decide, ?_⟩
  refine ⟨_, rfl, _, rfl, p, _, dx, _, rfl, upd_same, T.cl_Bead, T.n_Bead_across, Nat.lt_of_le_of_lt (few few0) (by decide), ?_⟩
  refine ⟨_, rfl, _, rfl, p, _, dx, _, rfl, upd_same, T.cl_Bead, T.n_Bead_weight, Nat.lt_of_le_of_lt (few (few few0)) (by decide), ?_⟩
  refine ⟨_, rfl, _, rfl, p, _, dx, _, rfl, upd_same, T.cl_Bead, T.n_Bead_shade, Nat.lt_of_le_of_lt (few (few (few few0))) (by decide), ?_⟩
  refine ⟨_, rfl, _, rfl, p, _, dx, _, rfl, upd_same, T.cl_Bead, T.n_Bead_form, Nat.lt_of_le_of_lt (few (few (few (few few0)))) (by decide), ?_⟩
  refine ⟨_, rfl, _, rfl, p, _, dx, _, rfl, upd_same, T.cl_Bead, T.n_Bead_drilled, Nat.lt_of_le_of_lt (few (few (few (few (few few0))))) (by decide), ?_⟩
  refine q _ ⟨dx, upd_same⟩ fun b o e hb => ?_
  rw [upd_ne hb, upd_ne hb, upd_ne hb, upd_ne hb, upd_ne hb, upd_ne hb]
  exact s2 _ _ (s1 _ _ e)
def rowVals (r : Rw) : List V := [.int r.num, .int r.ac, .int r.we, .str r.sh, .str r.fo, .bl r.dr]
def spRow (C : Addr) : Sp := fun vs H Q _ => ∃ (p : Addr) (r : Rw), vs = [.ref p] ∧ BeadAt C H p r ∧ ∀ t, H t = none → Q (.ref t) (upd H t (.tup (rowVals r)))
theorem ok_Bead_row (T : Tx K mg) : FnOk P w K mg base CX0 1 T.A_Bead_row T.fd_Bead_row ["self"] (spRow T.C_Bead) := by
  refine T.F_Bead_row.ok sc_Bead_row (fun vs H Q E h => ?_) (fun cdv A outer s H vs Q E hr h => ?_)
  · obtain ⟨p, r, rfl, ⟨dx, hp⟩, q⟩ := h
    rfl
  obtain ⟨p, r, rfl, ⟨dx, hp⟩, q⟩ := h
  refine ⟨_, (pss_one (ps_ret (pe_tup (pa_cons (pe_fld (pv 0) rfl) (pa_cons (pe_fld (pv 0) rfl) (pa_cons (pe_fld (pv 0) rfl) (pa_cons (pe_fld (pv 0) rfl) (pa_cons (pe_fld (pv 0) rfl) (pa_cons (pe_fld (pv 0) rfl) pa_nil))))))))), ?_⟩
  refine ⟨_, rfl, p, _, dx, _, _, rfl, hp, T.cl_Bead, T.n_Bead_number, bf_number r, ?_⟩
  refine ⟨_, rfl, p, _, dx, _, _, rfl, hp, T.cl_Bead, T.n_Bead_across, bf_across r, ?_⟩
  refine ⟨_, rfl, p, _, dx, _, _, rfl, hp, T.cl_Bead, T.n_Bead_weight, bf_weight r, ?_⟩
  refine ⟨_, rfl, p, _, dx, _, _, rfl, hp, T.cl_Bead, T.n_Bead_shade, bf_shade r, ?_⟩
  refine ⟨_, rfl, p, _, dx, _, _, rfl, hp, T.cl_Bead, T.n_Bead_form, bf_form r, ?_⟩
  refine ⟨_, rfl, p, _, dx, _, _, rfl, hp, T.cl_Bead, T.n_Bead_drilled, bf_drilled r, ?_⟩
  exact ⟨(by show 6 ≤ sizeLine; decide), fun t ht => q t ht⟩
def spRule (C : Addr) : Sp := fun vs H Q _ => ∃ (p dx : Addr) (u : Rl), vs = [.ref p, .int u.lo, .int u.hi, .int u.far, .bl u.shd] ∧ H p = some (.ins C dx []) ∧ GoodRl u ∧
  ∀ H' : Hp, RuleAt C H' p u → (∀ b o, H b = some o → b ≠ p → H' b = some o) → Q .non H'
theorem ok_Rule_init (T : Tx K mg) : FnOk P w K mg base CX0 3 T.A_Rule_init T.fd_Rule_init ["self", "least", "most", "match", "shades"] (spRule T.C_Rule) := by
  refine okD T.F_Rule_init sc_Rule_init (fun vs H Q E h => ?_) (fun cdv A outer s H vs Q E hr h => ?_)
  · obtain ⟨p, dx, u, rfl, hp, ⟨g1, g2, g3⟩, q⟩ := h
    rfl
  obtain ⟨p, dx, u, rfl, hp, ⟨g1, g2, g3⟩, q⟩ := h
  refine ⟨_, (pss_cons (ps_if (PW.pt (pw_or (pt_not (pt_val (pe_call (ok_is_from_nought T) (hr.mono (by decide)) (by rfl) T.g_is_from_nought T.F_is_from_nought.kp T.b_is_from_nought .nil pass0 (pa_cons (pv 1) pa_nil)))) (pw_or (pt_not (pt_val (pe_call (ok_is_from_nought T) (hr.mono (by decide)) (by rfl) T.g_is_from_nought T.F_is_from_nought.kp T.b_is_from_nought .nil pass0 (pa_cons (pv 2) pa_nil)))) (pw_or1 (pt_not (pt_val (pe_call (ok_is_from_nought T) (hr.mono (by decide)) (by rfl) T.g_is_from_nought T.F_is_from_nought.kp T.b_is_from_nought .nil pass0 (pa_cons (pv 3) pa_nil)))))))) (pss_one ps_never) pss_nil)
      (pss_cons (ps_if (pt_cmpR op_lt (pv 2) (pv 1) (nomark _)) (pss_one ps_never) pss_nil)
      (pss_cons (ps_if (pt_not (pt_val (pe_callB call_isi (by rfl) T.z_isinstance (by decide +kernel) (pa_cons (pv 4) (pa_cons (pe_bltn (v := .ty "bool") (by rfl) T.z_bool (by decide +kernel) rfl) pa_nil))))) (pss_one ps_never) pss_nil)
      (pss_cons (ps_fld (pv 0) (pv 1) rfl)
      (pss_cons (ps_fld (pv 0) (pv 2) rfl)
      (pss_cons (ps_fld (pv 0) (pv 3) rfl)
      (pss_one (ps_fld (pv 0) (pv 4) rfl)))))))), ?_⟩
  refine ⟨_, rfl, _, rfl, .int _, _, rfl, ?_⟩
  show if (!decide (0 ≤ u.lo)) = true then _ else _
  rw [decide_eq_true g1]
  refine iteF ⟨_, rfl, _, rfl, .int _, _, rfl, ?_⟩
  show if (!decide (0 ≤ u.hi)) = true then _ else _
  rw [decide_eq_true (show 0 ≤ u.hi by omega)]
  refine iteF ⟨_, rfl, _, rfl, .int _, _, rfl, ?_⟩
  show if (!decide (0 ≤ u.far)) = true then _ else _
  rw [decide_eq_true g3]
  refine iteF ⟨_, rfl, _, rfl, _, _, rfl, rfl, _, rfl, ?_⟩
  rw [decide_eq_false (show ¬ u.hi < u.lo by omega)]
  refine iteF ⟨_, rfl, _, _, _, _, _, rfl, .ty _, .base (.bl _), kit_ty (r := true) (by decide +kernel), _, rfl, ?_⟩
  refine iteF ?_
  refine ⟨_, rfl, _, rfl, p, _, dx, _, rfl, hp, T.cl_Rule, T.n_Rule_least, by decide, ?_⟩
  refine ⟨_, rfl, _, rfl, p, _, dx, _, rfl, upd_same, T.cl_Rule, T.n_Rule_most, Nat.lt_of_le_of_lt (few few0) (by decide), ?_⟩
  refine ⟨_, rfl, _, rfl, p, _, dx, _, rfl, upd_same, T.cl_Rule, T.n_Rule_match, Nat.lt_of_le_of_lt (few (few few0)) (by decide), ?_⟩
  refine ⟨_, rfl, _, rfl, p, _, dx, _, rfl, upd_same, T.cl_Rule, T.n_Rule_shades, Nat.lt_of_le_of_lt (few (few (few few0))) (by decide), ?_⟩
  refine q _ ⟨dx, upd_same⟩ fun b o e hb => ?_
  rw [upd_ne hb, upd_ne hb, upd_ne hb, upd_ne hb]
  exact e
/-- all but the numbers is alike -/
def likeRw (r p : Rw) : Bool := decide (r.ac = p.ac) && (decide (r.we = p.we) && (decide (r.sh = p.sh) && (decide (r.fo = p.fo) && decide (r.dr = p.dr))))
theorem like_refl (r : Rw) : likeRw r r = true := by
  unfold likeRw
  simp
theorem dec_int (a b : Int) : decide (V.int a = V.int b) = decide (a = b) := by
  rw [decide_eq_decide]
  exact ⟨fun e => by injection e, fun e => by rw [e]⟩
theorem dec_str6 (a b : Str) : decide (V.str a = V.str b) = decide (a = b) := by
  rw [decide_eq_decide]
  exact ⟨fun e => by injection e, fun e => by rw [e]⟩
theorem dec_bl6 (a b : Bool) : decide (V.bl a = V.bl b) = decide (a = b) := by
  rw [decide_eq_decide]
  exact ⟨fun e => by injection e, fun e => by rw [e]⟩
def six6 : List String := ["int", "str", "bool", "NoneType", "list", "tuple"]
theorem no6 (T : Tx K mg) {t : String} (h : t ∈ six6) : PySem.W.kitOne K (.type t) (.ref T.C_Bead) = some false := by
  unfold six6 at h
  simp only [List.mem_cons, List.not_mem_nil, or_false] at h
  rcases h with rfl | rfl | rfl | rfl | rfl | rfl
  · exact T.no_int
  · exact T.no_str
  · exact T.no_bool
  · exact T.no_NoneType
  · exact T.no_list
  · exact T.no_tuple
theorem nf6 (T : Tx K mg) {t : String} (h : t ∈ six6) : PySem.W.notFirst K T.C_Bead (.type t) = true := by
  unfold six6 at h
  simp only [List.mem_cons, List.not_mem_nil, or_false] at h
  rcases h with rfl | rfl | rfl | rfl | rfl | rfl
  · exact T.nf_int
  · exact T.nf_str
  · exact T.nf_bool
  · exact T.nf_NoneType
  · exact T.nf_list
  · exact T.nf_tuple
theorem sn6 (T : Tx K mg) : ∀ t, t ∈ six6 → PySem.W.subIn K (.ref T.C_Bead) (.type t) = some false := fun t h => by
  unfold six6 at h
  simp only [List.mem_cons, List.not_mem_nil, or_false] at h
  rcases h with rfl | rfl | rfl | rfl | rfl | rfl
  · exact T.sn_int
  · exact T.sn_str
  · exact T.sn_bool
  · exact T.sn_NoneType
  · exact T.sn_list
  · exact T.sn_tuple
def RB (K : PySem.W.Frag) (C : Addr) : Addr → V → Bool → Hp → Prop := fun a y b H => ∃ r, BeadAt C H a r ∧ ((∃ p r', y = .ref p ∧ BeadAt C H p r' ∧ b = likeRw r r') ∨ (∃ t, t ∈ six6 ∧ TyX K H y (.type t) ∧ b = false))
theorem ok_Bead_eq (T : Tx K mg) : FnOk P w K mg base CX0 1 T.A_Bead_eq T.fd_Bead_eq ["self", "other"] (spEqO (RB K T.C_Bead)) := by
  refine T.F_Bead_eq.ok sc_Bead_eq (fun vs H Q E h => ?_) (fun cdv A outer s H vs Q E hr h => ?_)
  · obtain ⟨p, y, b, rfl, ⟨r, ⟨dx, hp⟩, hy⟩, q⟩ := h
    rfl
  obtain ⟨p, y, b, rfl, ⟨r, ⟨dx, hp⟩, hy⟩, q⟩ := h
  refine ⟨_, (pss_one (ps_ret (pe_and (pe_callB call_isi (by rfl) T.z_isinstance (by decide +kernel) (pa_cons (pv 1) (pa_cons (pe_glob (v := .ref T.C_Bead) (by rfl) T.g_Bead rfl) pa_nil))) (pe_and (pe_cmpR op_eq (pe_fld (pv 0) rfl) (pe_fld (pv 1) rfl) (nomark _)) (pe_and (pe_cmpR op_eq (pe_fld (pv 0) rfl) (pe_fld (pv 1) rfl) (nomark _)) (pe_and (pe_cmpR op_eq (pe_fld (pv 0) rfl) (pe_fld (pv 1) rfl) (nomark _)) (pe_and (pe_cmpR op_eq (pe_fld (pv 0) rfl) (pe_fld (pv 1) rfl) (nomark _)) (pe_one (pe_cmpR op_eq (pe_fld (pv 0) rfl) (pe_fld (pv 1) rfl) (nomark _)))))))))), ?_⟩
  have q := q H Ext.rfl'
  rcases hy with ⟨p', r', rfl, ⟨dx', hp'⟩, rfl⟩ | ⟨t, ht, ty, rfl⟩
  · refine ⟨_, rfl, .ref p', .ref T.C_Bead, .ref T.C_Bead, .ref T.C_Bead, true, rfl, .own _, T.ic_Bead.ty T.cl_Bead hp', T.i_Bead, _, rfl, iteT ?_⟩
    have e : likeRw r r' = (decide (r.ac = r'.ac) && (decide (r.we = r'.we) && (decide (r.sh = r'.sh) && (decide (r.fo = r'.fo) && decide (r.dr = r'.dr))))) := rfl
    refine ⟨_, rfl, p, _, dx, _, _, rfl, hp, T.cl_Bead, T.n_Bead_across, bf_across r, _, rfl, p', _, dx', _, _, rfl, hp', T.cl_Bead, T.n_Bead_across, bf_across r', rfl, _, rfl, ?_⟩
    rw [dec_int]
    refine ite2 (fun h1 => ?_) (fun h1 => ?_)
    · rw [h1, Bool.true_and] at e
      refine ⟨_, rfl, p, _, dx, _, _, rfl, hp, T.cl_Bead, T.n_Bead_weight, bf_weight r, _, rfl, p', _, dx', _, _, rfl, hp', T.cl_Bead, T.n_Bead_weight, bf_weight r', rfl, _, rfl, ?_⟩
      rw [dec_int]
      refine ite2 (fun h2 => ?_) (fun h2 => ?_)
      · rw [h2, Bool.true_and] at e
        refine ⟨_, rfl, p, _, dx, _, _, rfl, hp, T.cl_Bead, T.n_Bead_shade, bf_shade r, _, rfl, p', _, dx', _, _, rfl, hp', T.cl_Bead, T.n_Bead_shade, bf_shade r', rfl, _, rfl, ?_⟩
        rw [dec_str6]
        refine ite2 (fun h3 => ?_) (fun h3 => ?_)
        · rw [h3, Bool.true_and] at e
          refine ⟨_, rfl, p, _, dx, _, _, rfl, hp, T.cl_Bead, T.n_Bead_form, bf_form r, _, rfl, p', _, dx', _, _, rfl, hp', T.cl_Bead, T.n_Bead_form, bf_form r', rfl, _, rfl, ?_⟩
          rw [dec_str6]
          refine ite2 (fun h4 => ?_) (fun h4 => ?_)
          · rw [h4, Bool.true_and] at e
            refine ⟨_, rfl, p, _, dx, _, _, rfl, hp, T.cl_Bead, T.n_Bead_drilled, bf_drilled r, _, rfl, p', _, dx', _, _, rfl, hp', T.cl_Bead, T.n_Bead_drilled, bf_drilled r', rfl, ?_⟩
            rw [dec_bl6, ← e]
            exact q
          · rw [Bool.not_eq_true] at h4
            rw [h4] at e
            rw [e] at q
            exact q
        · rw [Bool.not_eq_true] at h3
          rw [h3] at e
          rw [e] at q
          exact q
      · rw [Bool.not_eq_true] at h2
        rw [h2] at e
        rw [e] at q
        exact q
    · rw [Bool.not_eq_true] at h1
      rw [h1] at e
      rw [e] at q
      exact q
  · exact ⟨_, rfl, y, .ref T.C_Bead, .type t, .ref T.C_Bead, false, rfl, .own _, ty, no6 T ht, _, rfl, iteF q⟩
theorem rb_mon {C : Addr} : ∀ a y b H H', Ext H H' → RB K C a y b H → RB K C a y b H' := fun a y b H H' e h => by
  obtain ⟨r, ⟨dx, ha⟩, hy⟩ := h
  refine ⟨r, ⟨dx, e _ _ ha⟩, ?_⟩
  rcases hy with ⟨p, r', h1, ⟨dy, h2⟩, h3⟩ | ⟨t, ht, ty, hb⟩
  · exact .inl ⟨p, r', h1, ⟨dy, e _ _ h2⟩, h3⟩
  · exact .inr ⟨t, ht, tyx_same e ty, hb⟩
def DOwn (K : PySem.W.Frag) (C : Addr) : BEq2 := BOwn K C (RB K C)
def DAll (K : PySem.W.Frag) (C : Addr) : BEq2 := fun x y b H => BOwn K C (RB K C) x y b H ∨ BFlip K C (RB K C) x y b H
theorem monB_own6 {C : Addr} : MonB (DOwn K C) := monB_own rb_mon
theorem eqB_own6 {X : Cx} (T : Tx X.K X.mg) : EqB X 1 (DOwn X.K T.C_Bead) :=
  eqB_own (E := E0) (ok_Bead_eq (P := X.prog) (w := X.w) (base := X.base) T) T.m_Bead_eq.at_ T.m_Bead_eq.fn T.b_Bead_eq pass0 T.sn_NoneType
theorem eqB_own6K {X : Cx} (T : Tx K mg) (hK : X.K = K) (hm : X.mg = mg) : EqB X 1 (DOwn K T.C_Bead) := by
  subst hK
  subst hm
  exact eqB_own6 T
theorem rcB_all {X : Cx} (T : Tx X.K X.mg) : RcB X 1 false (DAll X.K T.C_Bead) :=
  (rcB_own (E := E0) (ok_Bead_eq (P := X.prog) (w := X.w) (base := X.base) T) T.m_Bead_eq.at_ T.m_Bead_eq.fn T.b_Bead_eq pass0 T.sn_NoneType).or
    (rcB_flip (E := E0) (ok_Bead_eq (P := X.prog) (w := X.w) (base := X.base) T) T.m_Bead_eq.at_ T.m_Bead_eq.fn T.b_Bead_eq pass0 (sn6 T))
theorem rcB_all_ne {X : Cx} (T : Tx X.K X.mg) : RcB X 2 true (BOwn1 X.K T.C_Bead (RB X.K T.C_Bead)) :=
  rcB_ownNe (E := E0) (ok_Bead_eq (P := X.prog) (w := X.w) (base := X.base) T) T.m_Bead_eq.at_ T.m_Bead_eq.fn T.b_Bead_eq pass0 T.hm_Bead T.hne_Bead
theorem rcB_allK {X : Cx} (T : Tx K mg) (hK : X.K = K) (hm : X.mg = mg) : RcB X 1 false (DAll K T.C_Bead) := by
  subst hK
  subst hm
  exact rcB_all T
theorem rcB_tupK {X : Cx} {ne : Bool} {D : BEq2} {n : Nat} (hK : X.K = K) (hD : MonB D) (h : EqB X n D) : RcB X (n + 1) ne (BTup K D) := by
  subst hK
  exact rcB_tup ne hD h
/-! ### how a bead is shown -/
theorem lower_print {c : Nat} (h : lower c = true) (q : Nat) (hq : q = 39) : Builtin.Str.reprChar q c = [c] := by
  have all : (List.range 128).all (fun c => !lower c || (Builtin.Str.reprChar 39 c == [c])) = true := by decide +kernel
  have hl : c < 128 := by
    have := lower_lt h
    omega
  have := List.all_eq_true.mp all c (List.mem_range.mpr hl)
  rw [h] at this
  rw [hq]
  simpa using this
theorem repr_fold (q : Nat) (hq : q = 39) : ∀ (l : List Nat) (acc : Array Nat), (∀ c ∈ l, lower c = true) → (l.foldl (fun out c => out ++ (Builtin.Str.reprChar q c).toArray) acc).toList = acc.toList ++ l
  | [], acc, _ => by simp
  | c :: r, acc, h => by
    rw [List.foldl_cons, repr_fold q hq r _ (fun d hd => h d (List.mem_cons_of_mem _ hd)), lower_print (h c (List.mem_cons_self ..)) q hq]
    simp
theorem nm_low {z : Str} (h : nm (.str z) = true) : z.length ≤ 8 ∧ ∀ c ∈ z.cps.toList, lower c = true := by
  have nmE : nm (.str z) = (decide (1 ≤ z.length) && decide (z.length ≤ 8) && z.cps.toList.all lower) := rfl
  rw [nmE] at h
  simp only [Bool.and_eq_true, decide_eq_true_eq] at h
  exact ⟨h.1.2, fun c hc => List.all_eq_true.mp h.2 c hc⟩
theorem repr_name {z : Str} (h : nm (.str z) = true) : TL.tl (PySem.reprText z) = 39 :: (TL.tl z ++ [39]) := by
  obtain ⟨_, h⟩ := nm_low h
  have hq : PySem.reprQuote z = 39 := by
    unfold PySem.reprQuote
    have : z.cps.contains 39 = false := by
      rw [Bool.eq_false_iff]
      intro hc
      have := h 39 (by simpa using hc)
      exact absurd this (by decide)
    rw [this]
    rfl
  unfold PySem.reprText
  show (Array.push _ _).toList = _
  rw [Array.toList_push, ← Array.foldl_toList, repr_fold _ hq _ _ h, hq]
  rfl
def spShow (C : Addr) (f : Rw → List Nat) : Sp := fun vs H Q _ => ∃ (p : Addr) (r : Rw), vs = [.ref p] ∧ BeadAt C H p r ∧ GoodRw r ∧ ∀ (H' : Hp) (z : Str), TL.tl z = f r → z.length ≤ 1000 → Same H H' → Q (.str z) H'
def nL (i : Int) : List Nat := TL.tl (Str.ofString (toString i))
def strL (r : Rw) : List Nat := nL r.num ++ (TL.tl " " ++ (nL r.ac ++ (TL.tl "/" ++ (nL r.we ++ (TL.tl " " ++ (TL.tl r.sh ++ (TL.tl " " ++ (TL.tl r.fo ++ (if r.dr then TL.tl " drilled" else [])))))))))
def reprL (r : Rw) : List Nat := TL.tl "Bead(" ++ (nL r.num ++ (TL.tl ", " ++ (nL r.ac ++ (TL.tl ", " ++ (nL r.we ++ (TL.tl ", " ++ ([39] ++ (TL.tl r.sh ++ ([39] ++ ((if r.fo = "round" then [] else TL.tl ", form=" ++ ([39] ++ (TL.tl r.fo ++ [39]))) ++ ((if r.dr then TL.tl ", drilled=True" else []) ++ [41])))))))))))
theorem app_le {x y : Str} {m n : Nat} (hx : x.length ≤ m) (hy : y.length ≤ n) : (x ++ y).length ≤ m + n := by
  rw [Str.length_append]
  omega
theorem fit {x : Str} {m : Nat} (h : x.length ≤ m) (hm : m ≤ 100000 := by decide) : x.length ≤ sizeLine := sz _ (Nat.le_trans h hm)
theorem num_le {n : Int} (h0 : 0 ≤ n) (h1 : n ≤ 1000000000) : (Str.ofString (toString n)).length ≤ 59 := toString_length_le h0 (by decide) (by
  have e : (10 : Int) ^ 59 = 100000000000000000000000000000000000000000000000000000000000 := by decide
  rw [e]
  omega)
theorem num_log {n : Int} (h0 : 1 ≤ n) (h1 : n ≤ 1000000000) : n.natAbs.log2 < 1920 := by
  exact Nat.lt_of_lt_of_le (PySem.Flt.log2_lt_of (k := 200) (by omega) (by
      have e2 : (2 : Nat) ^ 200 = 1606938044258990275541962092341162602522202993782792835301376 := by decide
      rw [e2]
      omega)) (by decide)
theorem whl_of {i lo hi : Int} (h : whl (.int i) lo hi = true) : lo ≤ i ∧ i ≤ hi := by
  have e : whl (.int i) lo hi = (decide (lo ≤ i) && decide (i ≤ hi)) := rfl
  rw [e] at h
  simpa using h
theorem c_emp : Str.empty.length ≤ 0 := by decide +kernel
theorem emp_app (x : Str) : TL.tl (Str.empty ++ x) = TL.tl x := by
  rw [TL.tl_append]
  rfl
theorem ok_Bead_str (T : Tx K mg) : FnOk P w K mg base CX0 1 T.A_Bead_str T.fd_Bead_str ["self"] (spShow T.C_Bead strL) := by
  refine T.F_Bead_str.ok sc_Bead_str (fun vs H Q E h => ?_) (fun cdv A outer s H vs Q E hr h => ?_)
  · obtain ⟨p, r, rfl, ⟨dx, hp⟩, ⟨g1, g2, g3, g4, g5⟩, q⟩ := h
    rfl
  obtain ⟨p, r, rfl, ⟨dx, hp⟩, ⟨g1, g2, g3, g4, g5⟩, q⟩ := h
  refine ⟨_, (pss_cons (ps_if (pt_val (pe_fld (pv 0) rfl)) (pss_one (ps_ret (pe_joined (PJ.cons (pe_fmtB (pe_fld (pv 0) rfl)) (PJ.cons pe_str (PJ.cons (pe_fmtB (pe_fld (pv 0) rfl)) (PJ.cons pe_str (PJ.cons (pe_fmtB (pe_fld (pv 0) rfl)) (PJ.cons pe_str (PJ.cons (pe_fmtB (pe_fld (pv 0) rfl)) (PJ.cons pe_str (PJ.cons (pe_fmtB (pe_fld (pv 0) rfl)) (PJ.cons pe_str PJ.nil))))))))))))) pss_nil)
      (pss_one (ps_ret (pe_joined (PJ.cons (pe_fmtB (pe_fld (pv 0) rfl)) (PJ.cons pe_str (PJ.cons (pe_fmtB (pe_fld (pv 0) rfl)) (PJ.cons pe_str (PJ.cons (pe_fmtB (pe_fld (pv 0) rfl)) (PJ.cons pe_str (PJ.cons (pe_fmtB (pe_fld (pv 0) rfl)) (PJ.cons pe_str (PJ.cons (pe_fmtB (pe_fld (pv 0) rfl)) PJ.nil))))))))))))), ?_⟩
  obtain ⟨a1, a2⟩ := whl_of g1
  obtain ⟨a3, a4⟩ := whl_of g2
  obtain ⟨a5, a6⟩ := whl_of g3
  have l1 := num_le (n := r.num) (by omega) a2
  have l2 := num_le (n := r.ac) (by omega) (by omega)
  have l3 := num_le (n := r.we) (by omega) (by omega)
  have l4 := (nm_low g4).1
  have l5 := (nm_low g5).1
  have b1 : (" " : Str).length ≤ 1 := by decide +kernel
  have b2 : ("/" : Str).length ≤ 1 := by decide +kernel
  have b3 : (" drilled" : Str).length ≤ 8 := by decide +kernel
  have c1 := app_le c_emp l1
  have c2 := app_le c1 b1
  have c3 := app_le c2 l2
  have c4 := app_le c3 b2
  have c5 := app_le c4 l3
  have c6 := app_le c5 b1
  have c7 := app_le c6 l4
  have c8 := app_le c7 b1
  have c9 := app_le c8 l5
  have c10 := app_le c9 b3
  refine ⟨_, rfl, p, _, dx, _, _, rfl, hp, T.cl_Bead, T.n_Bead_drilled, bf_drilled r, _, rfl, ?_⟩
  refine ite2 (fun e => ?_) (fun e => ?_)
  · refine ⟨_, rfl, p, _, dx, _, _, rfl, hp, T.cl_Bead, T.n_Bead_number, bf_number r, .inr (.inl ⟨_, rfl, num_log a1 a2, _, rfl, fit c1, _, rfl, fit c2, ?_⟩)⟩
    refine ⟨_, rfl, p, _, dx, _, _, rfl, hp, T.cl_Bead, T.n_Bead_across, bf_across r, .inr (.inl ⟨_, rfl, num_log a3 (by omega), _, rfl, fit c3, _, rfl, fit c4, ?_⟩)⟩
    refine ⟨_, rfl, p, _, dx, _, _, rfl, hp, T.cl_Bead, T.n_Bead_weight, bf_weight r, .inr (.inl ⟨_, rfl, num_log a5 (by omega), _, rfl, fit c5, _, rfl, fit c6, ?_⟩)⟩
    refine ⟨_, rfl, p, _, dx, _, _, rfl, hp, T.cl_Bead, T.n_Bead_shade, bf_shade r, .inl ⟨_, rfl, fit l4, _, rfl, fit c7, _, rfl, fit c8, ?_⟩⟩
    refine ⟨_, rfl, p, _, dx, _, _, rfl, hp, T.cl_Bead, T.n_Bead_form, bf_form r, .inl ⟨_, rfl, fit l5, _, rfl, fit c9, _, rfl, fit c10, ?_⟩⟩
    refine q _ _ ?_ (Nat.le_trans c10 (by decide)) (fun _ _ h => h)
    unfold strL nL
    rw [e, if_pos rfl]
    simp only [TL.tl_append, List.append_assoc]
    rfl
  · refine ⟨_, rfl, p, _, dx, _, _, rfl, hp, T.cl_Bead, T.n_Bead_number, bf_number r, .inr (.inl ⟨_, rfl, num_log a1 a2, _, rfl, fit c1, _, rfl, fit c2, ?_⟩)⟩
    refine ⟨_, rfl, p, _, dx, _, _, rfl, hp, T.cl_Bead, T.n_Bead_across, bf_across r, .inr (.inl ⟨_, rfl, num_log a3 (by omega), _, rfl, fit c3, _, rfl, fit c4, ?_⟩)⟩
    refine ⟨_, rfl, p, _, dx, _, _, rfl, hp, T.cl_Bead, T.n_Bead_weight, bf_weight r, .inr (.inl ⟨_, rfl, num_log a5 (by omega), _, rfl, fit c5, _, rfl, fit c6, ?_⟩)⟩
    refine ⟨_, rfl, p, _, dx, _, _, rfl, hp, T.cl_Bead, T.n_Bead_shade, bf_shade r, .inl ⟨_, rfl, fit l4, _, rfl, fit c7, _, rfl, fit c8, ?_⟩⟩
    refine ⟨_, rfl, p, _, dx, _, _, rfl, hp, T.cl_Bead, T.n_Bead_form, bf_form r, .inl ⟨_, rfl, fit l5, _, rfl, fit c9, ?_⟩⟩
    refine q _ _ ?_ (Nat.le_trans c9 (by decide)) (fun _ _ h => h)
    unfold strL nL
    rw [if_neg e]
    simp only [TL.tl_append, List.append_assoc, List.append_nil]
    rfl
theorem repr_le {z : Str} (h : nm (.str z) = true) : (PySem.reprText z).length ≤ 10 := by
  rw [TL.len_tl, repr_name h, List.length_cons, List.length_append, ← TL.len_tl]
  have := (nm_low h).1
  show z.length + 1 + 1 ≤ 10
  omega
theorem dec_ne (a b : Str) : (!decide (V.str a = V.str b)) = !decide (a = b) := by rw [dec_str6]
theorem join_le {xs : List Str} {m : Nat} (h : xs.length ≤ 3) (hx : ∀ x ∈ xs, x.length ≤ m) : (xs.map (·.length)).sum + xs.length * (", " : Str).length ≤ 3 * m + 6 := by
  have e : (", " : Str).length = 2 := by decide +kernel
  rw [e]
  match xs, h with
  | [], _ => simp
  | [a], _ =>
    have := hx a (by simp)
    simp
    omega
  | [a, b], _ =>
    have := hx a (by simp)
    have := hx b (by simp)
    simp
    omega
  | [a, b, c], _ =>
    have := hx a (by simp)
    have := hx b (by simp)
    have := hx c (by simp)
    simp
    omega
theorem jn_le {xs : List Str} {m : Nat} (h : (xs.map (·.length)).sum + xs.length * (", " : Str).length ≤ m) : (Txt.join ", " xs).length ≤ m := by
  refine Nat.le_trans ?_ h
  rw [TL.len_tl, TL.join_eq, TL.tl_join]
  generalize hL : (", " : Str).length = k
  have hk : (TL.tl (", " : Str)).length = k := by rw [← TL.len_tl]; exact hL
  clear h hL
  induction xs with
  | nil => exact Nat.zero_le _
  | cons a r ih =>
    cases r with
    | nil =>
      simp only [List.map_cons, List.map_nil, TL.joinL, List.sum_cons, List.sum_nil, List.length_cons, List.length_nil]
      rw [← TL.len_tl]
      omega
    | cons b r =>
      have e : TL.joinL (TL.tl ", ") ((a :: b :: r).map TL.tl) = TL.tl a ++ (TL.tl ", " ++ TL.joinL (TL.tl ", ") ((b :: r).map TL.tl)) := rfl
      have e2 : ((a :: b :: r).map (·.length)).sum = a.length + ((b :: r).map (·.length)).sum := List.sum_cons
      have e3 : (a :: b :: r).length * k = (b :: r).length * k + k := by rw [List.length_cons, Nat.add_mul, Nat.one_mul]
      rw [e, List.length_append, List.length_append, hk, e2, e3, ← TL.len_tl]
      omega
theorem ok_Bead_repr (T : Tx K mg) : FnOk P w K mg base CX0 1 T.A_Bead_repr T.fd_Bead_repr ["self"] (spShow T.C_Bead reprL) := by
  refine T.F_Bead_repr.ok sc_Bead_repr (fun vs H Q E h => ?_) (fun cdv A outer s H vs Q E hr h => ?_)
  · obtain ⟨p, r, rfl, ⟨dx, hp⟩, ⟨g1, g2, g3, g4, g5⟩, q⟩ := h
    rfl
  obtain ⟨p, r, rfl, ⟨dx, hp⟩, ⟨g1, g2, g3, g4, g5⟩, q⟩ := h
  refine ⟨_, (pss_cons (ps_set (i := 1) sc_Bead_repr.nd rfl (Or.inl rfl) (pe_lst (pa_cons (pe_joined (PJ.cons (pe_fmtB (pe_fld (pv 0) rfl)) (PJ.cons pe_str (PJ.cons (pe_fmtB (pe_fld (pv 0) rfl)) (PJ.cons pe_str (PJ.cons (pe_fmtB (pe_fld (pv 0) rfl)) (PJ.cons pe_str (PJ.cons (pe_fmtR (pe_fld (pv 0) rfl)) PJ.nil)))))))) pa_nil)))
      (pss_cons (ps_if (pt_cmpR op_ne (pe_fld (pv 0) rfl) pe_str (nomark _)) (pss_one (ps_expr (pe_bm PySem.F.plainAttrs_list PySem.F.slot_list_append PySem.F.type_list_append mt_append (pv 1) (pa_cons (pe_joined (PJ.cons pe_str (PJ.cons (pe_fmtR (pe_fld (pv 0) rfl)) PJ.nil))) pa_nil)))) pss_nil)
      (pss_cons (ps_if (pt_val (pe_fld (pv 0) rfl)) (pss_one (ps_expr (pe_bm PySem.F.plainAttrs_list PySem.F.slot_list_append PySem.F.type_list_append mt_append (pv 1) (pa_cons pe_str pa_nil)))) pss_nil)
      (pss_one (ps_ret (pe_joined (PJ.cons pe_str (PJ.cons (pe_fmtB (pe_bm PySem.F.plainAttrs_str PySem.F.slot_str_join PySem.F.type_str_join mt_join pe_str (pa_cons (pv 1) pa_nil))) (PJ.cons pe_str PJ.nil))))))))), ?_⟩
  obtain ⟨a1, a2⟩ := whl_of g1
  obtain ⟨a3, a4⟩ := whl_of g2
  obtain ⟨a5, a6⟩ := whl_of g3
  have l1 := num_le (n := r.num) (by omega) a2
  have l2 := num_le (n := r.ac) (by omega) (by omega)
  have l3 := num_le (n := r.we) (by omega) (by omega)
  have l4 := repr_le g4
  have l5 := repr_le g5
  have b1 : (", " : Str).length ≤ 2 := by decide +kernel
  have b2 : ("form=" : Str).length ≤ 5 := by decide +kernel
  have c1 := app_le c_emp l1
  have c2 := app_le c1 b1
  have c3 := app_le c2 l2
  have c4 := app_le c3 b1
  have c5 := app_le c4 l3
  have c6 := app_le c5 b1
  have c7 := app_le c6 l4
  refine ⟨_, rfl, p, _, dx, _, _, rfl, hp, T.cl_Bead, T.n_Bead_number, bf_number r, .inr (.inl ⟨_, rfl, num_log a1 a2, _, rfl, fit c1, _, rfl, fit c2, ?_⟩)⟩
  refine ⟨_, rfl, p, _, dx, _, _, rfl, hp, T.cl_Bead, T.n_Bead_across, bf_across r, .inr (.inl ⟨_, rfl, num_log a3 (by omega), _, rfl, fit c3, _, rfl, fit c4, ?_⟩)⟩
  refine ⟨_, rfl, p, _, dx, _, _, rfl, hp, T.cl_Bead, T.n_Bead_weight, bf_weight r, .inr (.inl ⟨_, rfl, num_log a5 (by omega), _, rfl, fit c5, _, rfl, fit c6, ?_⟩)⟩
  refine ⟨_, rfl, p, _, dx, _, _, rfl, hp, T.cl_Bead, T.n_Bead_shade, bf_shade r, .inl ⟨_, rfl, fit l4, _, rfl, fit c7, ?_⟩⟩
  refine ⟨(by show 1 ≤ sizeLine; decide), fun l hl => ?_⟩
  have c8 := app_le (app_le c_emp b2) l5
  have b3 : ("drilled=True" : Str).length ≤ 12 := by decide +kernel
  have d1 := app_le c_emp (show ("Bead(" : Str).length ≤ 5 by decide +kernel)
  have bb : (")" : Str).length ≤ 1 := by decide +kernel
  have e0 : (upd H l (.lst [V.str (Str.empty ++ Str.ofString (toString r.num) ++ ", " ++ Str.ofString (toString r.ac) ++ ", " ++ Str.ofString (toString r.we) ++ ", " ++ PySem.reprText r.sh)])) p = some (.ins T.C_Bead dx (bf r)) := by rw [upd_ne (ne_of_none hp hl)]; exact hp
  have t0 : TL.tl (Str.empty ++ Str.ofString (toString r.num) ++ ", " ++ Str.ofString (toString r.ac) ++ ", " ++ Str.ofString (toString r.we) ++ ", " ++ PySem.reprText r.sh) = nL r.num ++ (TL.tl ", " ++ (nL r.ac ++ (TL.tl ", " ++ (nL r.we ++ (TL.tl ", " ++ ([39] ++ (TL.tl r.sh ++ [39]))))))) := by
    unfold nL
    simp only [TL.tl_append, List.append_assoc, repr_name g4]
    rfl
  have t1 : TL.tl (Str.empty ++ "form=" ++ PySem.reprText r.fo) = TL.tl "form=" ++ ([39] ++ (TL.tl r.fo ++ [39])) := by
    simp only [TL.tl_append, List.append_assoc, repr_name g5]
    rfl
  generalize Str.empty ++ Str.ofString (toString r.num) ++ ", " ++ Str.ofString (toString r.ac) ++ ", " ++ Str.ofString (toString r.we) ++ ", " ++ PySem.reprText r.sh = S0 at c7 e0 t0 ⊢
  generalize hS1 : Str.empty ++ "form=" ++ PySem.reprText r.fo = S1 at c8 t1
  have sl := same_upd hl (o := .lst [V.str S0])
  refine ⟨_, rfl, p, _, dx, _, _, rfl, e0, T.cl_Bead, T.n_Bead_form, bf_form r, rfl, _, rfl, ?_⟩
  rw [show decide (V.str r.fo = V.str "round") = decide (r.fo = "round") from dec_str6 _ _]
  have fe : (if r.fo = "round" then ([] : List Nat) else TL.tl ", form=" ++ ([39] ++ (TL.tl r.fo ++ [39]))) = if decide (r.fo = "round") then [] else TL.tl ", form=" ++ ([39] ++ (TL.tl r.fo ++ [39])) := by
    by_cases h : r.fo = "round"
    · rw [if_pos h, if_pos (decide_eq_true h)]
    · rw [if_neg h, if_neg (by simpa using h)]
  have tf : TL.tl (", form=" : Str) = TL.tl ", " ++ TL.tl "form=" := by decide +kernel
  have td : TL.tl (", drilled=True" : Str) = TL.tl ", " ++ TL.tl "drilled=True" := by decide +kernel
  unfold reprL at q
  rw [fe, tf, td] at q
  generalize decide (r.fo = "round") = rd at q ⊢
  cases rd with
  | true =>
    refine iteF ⟨_, rfl, p, _, dx, _, _, rfl, e0, T.cl_Bead, T.n_Bead_drilled, bf_drilled r, _, rfl, ite2 (fun e => ?_) (fun e => ?_)⟩
    · rw [e] at q
      refine ⟨_, rfl, .inl ⟨rfl, _, SqL.of upd_same⟩, l, _, _, rfl, rfl, upd_same, (by show 1 < sizeLine; decide), ?_⟩
      have jl := join_le (xs := [S0, "drilled=True"]) (m := 300) (by simp) (fun x hx => by
        simp only [List.mem_cons, List.not_mem_nil, or_false] at hx
        rcases hx with rfl | rfl
        · exact Nat.le_trans c7 (by decide)
        · exact Nat.le_trans b3 (by decide))
      have jt := jn_le jl
      refine ⟨_, rfl, fit d1, rfl, _, rfl, _, l, [S0, "drilled=True"], rfl, rfl, .inl (SqL.of upd_same), Nat.le_trans jl (by decide), .inl ⟨_, rfl, fit jt, _, rfl, fit (app_le d1 jt), _, rfl, fit (app_le (app_le d1 jt) bb), ?_⟩⟩
      refine q _ _ ?_ (Nat.le_trans (app_le (app_le d1 jt) bb) (by decide)) (fun b o h => by have nb := ne_of_none h hl; simp only [upd_ne nb]; exact h)
      rw [TL.tl_append, TL.tl_append, TL.join_eq, TL.tl_join]
      simp only [List.map_cons, List.map_nil, TL.joinL, t0, t1, List.append_assoc, if_true, if_false, Bool.false_eq_true, List.nil_append, List.append_nil, emp_app]
      rfl
    · rw [Bool.not_eq_true] at e
      rw [e] at q
      have jl := join_le (xs := [S0]) (m := 300) (by simp) (fun x hx => by
        simp only [List.mem_cons, List.not_mem_nil, or_false] at hx
        rcases hx with rfl
        · exact Nat.le_trans c7 (by decide))
      have jt := jn_le jl
      refine ⟨_, rfl, fit d1, rfl, _, rfl, _, l, [S0], rfl, rfl, .inl (SqL.of upd_same), Nat.le_trans jl (by decide), .inl ⟨_, rfl, fit jt, _, rfl, fit (app_le d1 jt), _, rfl, fit (app_le (app_le d1 jt) bb), ?_⟩⟩
      refine q _ _ ?_ (Nat.le_trans (app_le (app_le d1 jt) bb) (by decide)) (fun b o h => by have nb := ne_of_none h hl; simp only [upd_ne nb]; exact h)
      rw [TL.tl_append, TL.tl_append, TL.join_eq, TL.tl_join]
      simp only [List.map_cons, List.map_nil, TL.joinL, t0, t1, List.append_assoc, if_true, if_false, Bool.false_eq_true, List.nil_append, List.append_nil, emp_app]
      rfl
  | false =>
    refine iteT ⟨_, rfl, .inl ⟨rfl, _, SqL.of upd_same⟩, _, rfl, fit (app_le c_emp b2), _, rfl, p, _, dx, _, _, rfl, e0, T.cl_Bead, T.n_Bead_form, bf_form r, .inl ⟨_, rfl, fit l5, _, rfl, (by rw [hS1]; exact fit c8), l, _, _, rfl, rfl, upd_same, (by show 1 < sizeLine; decide), ?_⟩⟩
    rw [hS1]
    have e1 : (upd (upd H l (.lst [V.str S0])) l (.lst ([V.str S0] ++ [V.str S1]))) p = some (.ins T.C_Bead dx (bf r)) := by rw [upd_ne (ne_of_none hp hl)]; exact e0
    refine ⟨_, rfl, p, _, dx, _, _, rfl, e1, T.cl_Bead, T.n_Bead_drilled, bf_drilled r, _, rfl, ite2 (fun e => ?_) (fun e => ?_)⟩
    · rw [e] at q
      refine ⟨_, rfl, .inl ⟨rfl, _, SqL.of upd_same⟩, l, _, _, rfl, rfl, upd_same, (by show 2 < sizeLine; decide), ?_⟩
      have jl := join_le (xs := [S0, S1, "drilled=True"]) (m := 300) (by simp) (fun x hx => by
        simp only [List.mem_cons, List.not_mem_nil, or_false] at hx
        rcases hx with rfl | rfl | rfl
        · exact Nat.le_trans c7 (by decide)
        · exact Nat.le_trans c8 (by decide)
        · exact Nat.le_trans b3 (by decide))
      have jt := jn_le jl
      refine ⟨_, rfl, fit d1, rfl, _, rfl, _, l, [S0, S1, "drilled=True"], rfl, rfl, .inl (SqL.of upd_same), Nat.le_trans jl (by decide), .inl ⟨_, rfl, fit jt, _, rfl, fit (app_le d1 jt), _, rfl, fit (app_le (app_le d1 jt) bb), ?_⟩⟩
      refine q _ _ ?_ (Nat.le_trans (app_le (app_le d1 jt) bb) (by decide)) (fun b o h => by have nb := ne_of_none h hl; simp only [upd_ne nb]; exact h)
      rw [TL.tl_append, TL.tl_append, TL.join_eq, TL.tl_join]
      simp only [List.map_cons, List.map_nil, TL.joinL, t0, t1, List.append_assoc, if_true, if_false, Bool.false_eq_true, List.nil_append, List.append_nil, emp_app]
      rfl
    · rw [Bool.not_eq_true] at e
      rw [e] at q
      have jl := join_le (xs := [S0, S1]) (m := 300) (by simp) (fun x hx => by
        simp only [List.mem_cons, List.not_mem_nil, or_false] at hx
        rcases hx with rfl | rfl
        · exact Nat.le_trans c7 (by decide)
        · exact Nat.le_trans c8 (by decide))
      have jt := jn_le jl
      refine ⟨_, rfl, fit d1, rfl, _, rfl, _, l, [S0, S1], rfl, rfl, .inl (SqL.of upd_same), Nat.le_trans jl (by decide), .inl ⟨_, rfl, fit jt, _, rfl, fit (app_le d1 jt), _, rfl, fit (app_le (app_le d1 jt) bb), ?_⟩⟩
      refine q _ _ ?_ (Nat.le_trans (app_le (app_le d1 jt) bb) (by decide)) (fun b o h => by have nb := ne_of_none h hl; simp only [upd_ne nb]; exact h)
      rw [TL.tl_append, TL.tl_append, TL.join_eq, TL.tl_join]
      simp only [List.map_cons, List.map_nil, TL.joinL, t0, t1, List.append_assoc, if_true, if_false, Bool.false_eq_true, List.nil_append, List.append_nil, emp_app]
      rfl
end
end KB
namespace KB
open PySem PySem.Spec PyProof.Rows L2 KA
section
variable {P : Program} {w : World} {K : PySem.W.Frag} {mg : Str → Option Value} {base : Heap}
/-- a place of a row of beads -/
def BV (C : Addr) (H : Hp) (v : V) (o : Option Rw) : Prop := (v = .non ∧ o = none) ∨ ∃ p r, v = .ref p ∧ o = some r ∧ BeadAt C H p r
structure Bds (C : Addr) (H : Hp) (vs : List V) (rs : List (Option Rw)) : Prop where
  len : vs.length = rs.length
  at_ : ∀ (i : Nat) (v : V), vs[i]? = some v → ∃ o, rs[i]? = some o ∧ BV C H v o
theorem BV.same {C : Addr} {H H' : Hp} {v : V} {o : Option Rw} (s : NL H H') (h : BV C H v o) : BV C H' v o := by
  rcases h with h | ⟨p, r, h1, h2, dx, h3⟩
  · exact .inl h
  · exact .inr ⟨p, r, h1, h2, dx, s _ _ (fun _ z => by cases z) h3⟩
theorem Bds.same {C : Addr} {H H' : Hp} {vs : List V} {rs : List (Option Rw)} (s : NL H H') (h : Bds C H vs rs) : Bds C H' vs rs :=
  ⟨h.len, fun i v hv => by
    obtain ⟨o, h1, h2⟩ := h.at_ i v hv
    exact ⟨o, h1, h2.same s⟩⟩
theorem Bds.get {C : Addr} {H : Hp} {vs : List V} {rs : List (Option Rw)} (h : Bds C H vs rs) {i : Nat} {o : Option Rw} (ho : rs[i]? = some o) : ∃ v, vs[i]? = some v ∧ BV C H v o := by
  have hi : i < vs.length := by
    rw [h.len]
    exact (List.getElem?_eq_some_iff.mp ho).1
  obtain ⟨o', h1, h2⟩ := h.at_ i _ (List.getElem?_eq_getElem hi)
  have : o = o' := Option.some.inj (ho.symm.trans h1)
  subst this
  exact ⟨_, List.getElem?_eq_getElem hi, h2⟩
theorem Bds.bead {C : Addr} {H : Hp} {vs : List V} {rs : List (Option Rw)} (h : Bds C H vs rs) {i : Nat} {r : Rw} (ho : rs[i]? = some (some r)) : ∃ p dx, vs[i]? = some (.ref p) ∧ H p = some (.ins C dx (bf r)) := by
  obtain ⟨v, hv, h | ⟨p, r', h1, h2, dx, h3⟩⟩ := h.get ho
  · cases h.2
  · subst h1
    have : r = r' := Option.some.inj h2
    subst this
    exact ⟨p, dx, hv, h3⟩
/-! what is asked of a row, as functions -/
def isNum (n : Int) (o : Option Rw) : Bool := match o with
  | some r => decide (r.num = n)
  | none => false
def twice (rs : List (Option Rw)) (i : Nat) (n : Int) : Bool := (rs.take i).any (isNum n)
def stepBad (u : Rl) (d : Int) : Bool := decide (d < u.lo) || decide (u.hi < d)
def stepBars (rs : List (Option Rw)) (u : Rl) (i : Nat) (r : Rw) : Bool := if i = 0 ∨ 2 * i = rs.length then false else match rs[i - 1]? with
  | some (some q) => stepBad u (if rs.length < 2 * i then -(r.ac - q.ac) else r.ac - q.ac)
  | _ => false
def partner (rs : List (Option Rw)) (i : Nat) : Option Rw := if 2 * i < rs.length then none else match rs[rs.length - 1 - i]? with
  | some (some q) => some q
  | _ => none
def look (r p : Rw) : Bool := decide (r.sh = p.sh) && (decide (r.fo = p.fo) && decide (r.dr = p.dr))
def apart (a b : Int) : Int := if a - b < 0 then -(a - b) else a - b
def reason (rs : List (Option Rw)) (u : Rl) (i : Nat) (r : Rw) : V := if twice rs i r.num = true then .str "twice" else if stepBars rs u i r = true then .str "step" else match partner rs i with
  | none => .non
  | some p => if u.far < apart r.ac p.ac then .str "match" else if (u.shd && !look r p) = true then .str "shade" else .non
def barFrom (rs : List (Option Rw)) (u : Rl) : Nat → Nat → Option (Nat × V)
  | 0, _ => none
  | k + 1, i => match rs[i]? with
    | some (some r) => if reason rs u i r = .non then barFrom rs u k (i + 1) else some (i, reason rs u i r)
    | _ => barFrom rs u k (i + 1)
def bar (rs : List (Option Rw)) (u : Rl) : Option (Nat × V) := barFrom rs u rs.length 0
theorem fld_number {K : PySem.W.Frag} {C : Addr} {H : Hp} {p dx : Addr} {r : Rw} (h : H p = some (.ins C dx (bf r))) : True := trivial
def spStands (K : PySem.W.Frag) (C : Addr) : Sp := fun vs H Q _ => ∃ (b : Addr) (i : Nat) (xs : List V) (rs : List (Option Rw)) (r : Rw), vs = [.ref b, .int i] ∧ SqL K H b xs ∧ Bds C H xs rs ∧ rs[i]? = some (some r) ∧ rs.length ≤ 1000 ∧
  ∀ H', Same H H' → Q (.bl (twice rs i r.num)) H'
theorem ok_stands_ahead (T : Tx K mg) : FnOk P w K mg base CX0 1 T.A_stands_ahead T.fd_stands_ahead ["beads", "at"] (spStands K T.C_Bead) := by
  refine T.F_stands_ahead.ok sc_stands_ahead (fun vs H Q E h => ?_) (fun cdv A outer s H vs Q E hr h => ?_)
  · obtain ⟨b, i, xs, rs, r, rfl, hS, hB, hi, hl, q⟩ := h
    rfl
  obtain ⟨b, i, xs, rs, r, rfl, hS, hB, hi, hl, q⟩ := h
  refine ⟨_, (pss_cons (ps_set (i := 2) sc_stands_ahead.nd rfl (Or.inr rfl) (pe_fld (pe_ix ix_list (pv 0) (pv 1) (fun _ _ => rfl)) rfl))
      (pss_one (ps_ret (pe_callB (cr_any rfl) (by rfl) T.z_any (by decide +kernel) (pa_cons (pe_lc (own := [("bead", 3)]) (g := gName 3) (tt := tYes) rfl sc_stands_ahead.nd (pi_list (pe_slice sl_list (pv 0) po_none (po_some (pv 1)))) (blkOk_by (N := ["beads", "at", "number", "bead"]) (sc := defScope s_stands_ahead) (by decide +kernel)) (fun _ _ _ _ _ => (pg_name (i := 3) sc_stands_ahead.nd rfl (Or.inl rfl))) (fun _ _ _ _ _ => pts_nil) (fun _ _ _ _ _ => (pe_and (pe_cmpR op_notN (pv 3) pe_non (nomark _)) (pe_one (pe_cmpR op_eq (pe_fldK (K' := K) rfl (pv 3) rfl) (pv 2) (nomark _)))))) pa_nil))))), ?_⟩
  obtain ⟨p, dx, hp, hH⟩ := hB.bead hi
  refine ⟨_, rfl, _, rfl, b, xs, _, _, rfl, rfl, hS, atI_nat hp, p, _, dx, _, _, rfl, hH, T.cl_Bead, T.n_Bead_number, bf_number r, ?_⟩
  refine ⟨_, rfl, _, rfl, _, rfl, b, xs, rfl, hS, fun c hc => ?_⟩
  have s1 : Same H (upd H c (.lst (cutV xs none (some (i : Int))))) := same_upd hc
  refine ⟨c, rfl, ⟨_, SqL.of upd_same⟩, fun D hD => ?_⟩
  have hcut := cut_to xs i
  have hlen : (cutV xs none (some (i : Int))).length ≤ 10000 := by
    rw [hcut, List.length_take, hB.len]
    omega
  refine lc_vals (K := K) (a := c) hD (SqL.of upd_same) hlen (fun j => .bl (isNum r.num (rs.getD j none))) ?_ ?_
  · intro j x H2 R C hx s2 hR
    rw [hcut] at hx
    have hji : j < i := by
      have := (List.getElem?_eq_some_iff.mp hx).1
      rw [List.length_take] at this
      omega
    rw [List.getElem?_take_of_lt hji] at hx
    obtain ⟨o, ho, hv⟩ := hB.at_ j x hx
    have hv := hv.same (NL.of (s1.trans s2))
    have eo : rs.getD j none = o := by rw [List.getD_eq_getElem?_getD, ho]; rfl
    rw [eo] at hR
    refine ⟨rfl, yesT ⟨_, rfl, rfl, _, rfl, ?_⟩⟩
    rcases hv with ⟨rfl, rfl⟩ | ⟨p', r', rfl, rfl, dx', h'⟩
    · exact iteF hR
    · refine iteT ⟨_, rfl, p', _, dx', _, _, rfl, h', T.cl_Bead, T.n_Bead_number, bf_number r', _, rfl, rfl, ?_⟩
      have : decide (V.int r'.num = V.int r.num) = isNum r.num (some r') := by
        show _ = decide (r'.num = r.num)
        rw [decide_eq_decide]
        exact ⟨fun e => by injection e, fun e => by rw [e]⟩
      rw [this]
      exact hR
  · intro H' s' e'
    refine ⟨D, (List.range (cutV xs none (some (i : Int))).length).map (fun j => isNum r.num (rs.getD j none)), rfl, SqL.of (by rw [e', List.map_map]; rfl), ?_⟩
    have : ((List.range (cutV xs none (some (i : Int))).length).map (fun j => isNum r.num (rs.getD j none))).any id = twice rs i r.num := by
      unfold twice
      have : rs.take i = (List.range (cutV xs none (some (i : Int))).length).map (fun j => rs.getD j none) := by
        rw [hcut, List.length_take, hB.len]
        refine List.ext_getElem? fun j => ?_
        rw [List.getElem?_map]
        by_cases h : j < min i rs.length
        · rw [List.getElem?_range h, List.getElem?_take_of_lt (by omega)]
          show _ = some (rs.getD j none)
          rw [List.getD_eq_getElem?_getD, List.getElem?_eq_getElem (show j < rs.length by omega)]
          rfl
        · rw [List.getElem?_eq_none (by rw [List.length_take]; omega), List.getElem?_eq_none (by rw [List.length_range]; omega)]
          rfl
      rw [this, List.any_map, List.any_map]
      rfl
    rw [this]
    exact q H' (s1.trans s')
def spSteps (K : PySem.W.Frag) (C D : Addr) : Sp := fun vs H Q _ => ∃ (b m : Addr) (i : Nat) (xs : List V) (rs : List (Option Rw)) (r : Rw) (u : Rl), vs = [.ref b, .int i, .ref m] ∧ SqL K H b xs ∧ Bds C H xs rs ∧ RuleAt D H m u ∧ rs[i]? = some (some r) ∧ rs.length ≤ 1000 ∧
  Q (.bl (stepBars rs u i r)) H
theorem ok_breaks_step (T : Tx K mg) : FnOk P w K mg base CX0 1 T.A_breaks_step T.fd_breaks_step ["beads", "at", "rule"] (spSteps K T.C_Bead T.C_Rule) := by
  refine T.F_breaks_step.ok sc_breaks_step (fun vs H Q E h => ?_) (fun cdv A outer s H vs Q E hr h => ?_)
  · obtain ⟨b, m, i, xs, rs, r, u, rfl, hS, hB, ⟨dm, hm⟩, hi, hl, q⟩ := h
    rfl
  obtain ⟨b, m, i, xs, rs, r, u, rfl, hS, hB, ⟨dm, hm⟩, hi, hl, q⟩ := h
  refine ⟨_, (pss_cons (ps_if (PW.pt (pw_or (pt_cmpR op_eq (pv 1) pe_int (nomark _)) (pw_or (pt_cmpR op_eq (pe_op op_mul pe_int (pv 1)) (pe_callB call_len_seq (by rfl) T.z_len PySem.boot_len (pa_cons (pv 0) pa_nil)) (nomark _)) (pw_or1 (pt_cmpR op_isN (pe_ix ix_list (pv 0) (pe_op op_sub (pv 1) pe_int) (fun _ _ => rfl)) pe_non (nomark _)))))) (pss_one (ps_ret pe_bl)) pss_nil)
      (pss_cons (ps_set (i := 3) sc_breaks_step.nd rfl (Or.inl rfl) (pe_op op_sub (pe_fld (pe_ix ix_list (pv 0) (pv 1) (fun _ _ => rfl)) rfl) (pe_fld (pe_ix ix_list (pv 0) (pe_op op_sub (pv 1) pe_int) (fun _ _ => rfl)) rfl)))
      (pss_cons (ps_if (pt_cmpR op_gt (pe_op op_mul pe_int (pv 1)) (pe_callB call_len_seq (by rfl) T.z_len PySem.boot_len (pa_cons (pv 0) pa_nil)) (nomark _)) (pss_one (ps_set (i := 3) sc_breaks_step.nd rfl (Or.inl rfl) (pe_un un_neg (pv 3)))) pss_nil)
      (pss_one (ps_ret (pe_or (pe_cmpR op_lt (pv 3) (pe_fld (pv 2) rfl) (nomark _)) (pe_one (pe_cmpR op_gt (pv 3) (pe_fld (pv 2) rfl) (nomark _))))))))), ?_⟩
  obtain ⟨p, dx, hp, hH⟩ := hB.bead hi
  have hil : i < rs.length := (List.getElem?_eq_some_iff.mp hi).1
  have eL := hB.len
  refine ⟨_, rfl, rfl, _, rfl, ?_⟩
  by_cases h0 : i = 0
  · subst h0
    refine iteT (iteT ?_)
    have : stepBars rs u 0 r = false := by
      unfold stepBars
      rw [if_pos (Or.inl rfl)]
    rw [this] at q
    exact q
  · rw [decide_eq_false (show ¬ V.int (i : Int) = V.int 0 from fun e => h0 (by injection e with e; omega))]
    refine iteF ⟨_, rfl, _, _, rfl, rfl, .inl ⟨by decide, by decide⟩, _, rfl, b, xs, rfl, .inl hS, rfl, _, rfl, ?_⟩
    by_cases h1 : 2 * i = rs.length
    · rw [decide_eq_true (show V.int (2 * (i : Int)) = V.int (xs.length : Int) by congr 1; omega)]
      refine iteT (iteT ?_)
      have : stepBars rs u i r = false := by
        unfold stepBars
        rw [if_pos (Or.inr h1)]
      rw [this] at q
      exact q
    · rw [decide_eq_false (show ¬ V.int (2 * (i : Int)) = V.int (xs.length : Int) from fun e => h1 (by injection e with e; omega))]
      obtain ⟨o, ho⟩ : ∃ o, rs[i - 1]? = some o := ⟨_, List.getElem?_eq_getElem (by omega)⟩
      obtain ⟨v, hv, hbv⟩ := hB.get ho
      have hat : atI xs ((i : Int) - 1) = some v := at_of (j := i - 1) (by omega) hv
      refine iteF ⟨_, rfl, _, rfl, _, _, rfl, rfl, b, xs, _, v, rfl, rfl, hS, hat, rfl, _, rfl, ?_⟩
      have hS0 : ∀ x, x = stepBars rs u i r → Q (.bl x) H := fun x e => by rw [e]; exact q
      rcases hbv with ⟨rfl, rfl⟩ | ⟨p', r', rfl, rfl, dx', h'⟩
      · refine iteT ?_
        refine hS0 _ ?_
        unfold stepBars
        rw [if_neg (by omega), ho]
      · refine iteF ?_
        refine ⟨_, rfl, _, rfl, b, xs, _, _, rfl, rfl, hS, atI_nat hp, p, _, dx, _, _, rfl, hH, T.cl_Bead, T.n_Bead_across, bf_across r, ?_⟩
        refine ⟨_, rfl, _, rfl, _, _, rfl, rfl, b, xs, _, _, rfl, rfl, hS, hat, p', _, dx', _, _, rfl, h', T.cl_Bead, T.n_Bead_across, bf_across r', _, _, rfl, rfl, ?_⟩
        have eS : stepBars rs u i r = stepBad u (if rs.length < 2 * i then -(r.ac - r'.ac) else r.ac - r'.ac) := by
          unfold stepBars
          rw [if_neg (by omega), ho]
        refine ⟨_, rfl, _, _, rfl, rfl, .inl ⟨by decide, by decide⟩, _, rfl, b, xs, rfl, .inl hS, _, _, rfl, rfl, _, rfl, ?_⟩
        by_cases h2 : rs.length < 2 * i
        · rw [decide_eq_true (show (xs.length : Int) < 2 * (i : Int) by omega)]
          rw [if_pos h2] at eS
          refine iteT ⟨_, rfl, _, rfl, ?_⟩
          refine ⟨_, rfl, _, rfl, m, _, dm, _, _, rfl, hm, T.cl_Rule, T.n_Rule_least, uf_least u, _, _, rfl, rfl, _, rfl, ?_⟩
          by_cases h3 : -(r.ac - r'.ac) < u.lo
          · rw [decide_eq_true h3]
            refine iteT (hS0 _ ?_)
            rw [eS]
            unfold stepBad
            rw [decide_eq_true h3, Bool.true_or]
          · rw [decide_eq_false h3]
            refine iteF ⟨_, rfl, _, rfl, m, _, dm, _, _, rfl, hm, T.cl_Rule, T.n_Rule_most, uf_most u, _, _, rfl, rfl, hS0 _ ?_⟩
            rw [eS]
            unfold stepBad
            rw [decide_eq_false h3, Bool.false_or]
        · rw [decide_eq_false (show ¬ (xs.length : Int) < 2 * (i : Int) by omega)]
          rw [if_neg h2] at eS
          refine iteF ?_
          refine ⟨_, rfl, _, rfl, m, _, dm, _, _, rfl, hm, T.cl_Rule, T.n_Rule_least, uf_least u, _, _, rfl, rfl, _, rfl, ?_⟩
          by_cases h3 : (r.ac - r'.ac) < u.lo
          · rw [decide_eq_true h3]
            refine iteT (hS0 _ ?_)
            rw [eS]
            unfold stepBad
            rw [decide_eq_true h3, Bool.true_or]
          · rw [decide_eq_false h3]
            refine iteF ⟨_, rfl, _, rfl, m, _, dm, _, _, rfl, hm, T.cl_Rule, T.n_Rule_most, uf_most u, _, _, rfl, rfl, hS0 _ ?_⟩
            rw [eS]
            unfold stepBad
            rw [decide_eq_false h3, Bool.false_or]
def PV (C : Addr) (H : Hp) (v : V) (o : Option Rw) : Prop := BV C H v o
def spPartner (K : PySem.W.Frag) (C : Addr) : Sp := fun vs H Q _ => ∃ (b : Addr) (i : Nat) (xs : List V) (rs : List (Option Rw)), vs = [.ref b, .int i] ∧ SqL K H b xs ∧ Bds C H xs rs ∧ i < rs.length ∧ rs.length ≤ 1000 ∧
  ∀ v, BV C H v (partner rs i) → Q v H
theorem ok_partner_of (T : Tx K mg) : FnOk P w K mg base CX0 1 T.A_partner_of T.fd_partner_of ["beads", "at"] (spPartner K T.C_Bead) := by
  refine T.F_partner_of.ok sc_partner_of (fun vs H Q E h => ?_) (fun cdv A outer s H vs Q E hr h => ?_)
  · obtain ⟨b, i, xs, rs, rfl, hS, hB, hi, hl, q⟩ := h
    rfl
  obtain ⟨b, i, xs, rs, rfl, hS, hB, hi, hl, q⟩ := h
  refine ⟨_, (pss_cons (ps_if (pt_cmpR op_lt (pe_op op_mul pe_int (pv 1)) (pe_callB call_len_seq (by rfl) T.z_len PySem.boot_len (pa_cons (pv 0) pa_nil)) (nomark _)) (pss_one (ps_ret pe_non)) pss_nil)
      (pss_one (ps_ret (pe_ix ix_list (pv 0) (pe_op op_sub (pe_op op_sub (pe_callB call_len_seq (by rfl) T.z_len PySem.boot_len (pa_cons (pv 0) pa_nil)) pe_int) (pv 1)) (fun _ _ => rfl))))), ?_⟩
  have eL := hB.len
  refine ⟨_, rfl, _, _, rfl, rfl, .inl ⟨by decide, by decide⟩, _, rfl, b, xs, rfl, .inl hS, _, _, rfl, rfl, _, rfl, ?_⟩
  by_cases h : 2 * i < rs.length
  · rw [decide_eq_true (show 2 * (i : Int) < (xs.length : Int) by omega)]
    refine iteT (q _ (.inl ⟨rfl, ?_⟩))
    unfold partner
    rw [if_pos h]
  · rw [decide_eq_false (show ¬ 2 * (i : Int) < (xs.length : Int) by omega)]
    obtain ⟨o, ho⟩ : ∃ o, rs[rs.length - 1 - i]? = some o := ⟨_, List.getElem?_eq_getElem (by omega)⟩
    obtain ⟨v, hv, hbv⟩ := hB.get ho
    refine iteF ⟨_, rfl, _, rfl, b, xs, rfl, .inl hS, _, _, rfl, rfl, _, rfl, _, _, rfl, rfl, b, xs, _, v, rfl, rfl, hS, at_of (j := rs.length - 1 - i) (by omega) hv, q v ?_⟩
    have : partner rs i = o := by
      unfold partner
      rw [if_neg h, ho]
      cases o <;> rfl
    rw [this]
    exact hbv
def spLook (C : Addr) : Sp := fun vs H Q _ => ∃ (p p' : Addr) (r r' : Rw), vs = [.ref p, .ref p'] ∧ BeadAt C H p r ∧ BeadAt C H p' r' ∧ Q (.bl (look r r')) H
theorem dec_str (a b : Str) : decide (V.str a = V.str b) = decide (a = b) := by
  rw [decide_eq_decide]
  exact ⟨fun e => by injection e, fun e => by rw [e]⟩
theorem dec_bl (a b : Bool) : decide (V.bl a = V.bl b) = decide (a = b) := by
  rw [decide_eq_decide]
  exact ⟨fun e => by injection e, fun e => by rw [e]⟩
theorem ok_same_look (T : Tx K mg) : FnOk P w K mg base CX0 1 T.A_same_look T.fd_same_look ["bead", "other"] (spLook T.C_Bead) := by
  refine T.F_same_look.ok sc_same_look (fun vs H Q E h => ?_) (fun cdv A outer s H vs Q E hr h => ?_)
  · obtain ⟨p, p', r, r', rfl, ⟨dx, hp⟩, ⟨dx', hp'⟩, q⟩ := h
    rfl
  obtain ⟨p, p', r, r', rfl, ⟨dx, hp⟩, ⟨dx', hp'⟩, q⟩ := h
  refine ⟨_, (pss_one (ps_ret (pe_and (pe_cmpR op_eq (pe_fld (pv 0) rfl) (pe_fld (pv 1) rfl) (nomark _)) (pe_and (pe_cmpR op_eq (pe_fld (pv 0) rfl) (pe_fld (pv 1) rfl) (nomark _)) (pe_one (pe_cmpR op_eq (pe_fld (pv 0) rfl) (pe_fld (pv 1) rfl) (nomark _))))))), ?_⟩
  refine ⟨_, rfl, p, _, dx, _, _, rfl, hp, T.cl_Bead, T.n_Bead_shade, bf_shade r, _, rfl, p', _, dx', _, _, rfl, hp', T.cl_Bead, T.n_Bead_shade, bf_shade r', rfl, _, rfl, ?_⟩
  rw [dec_str]
  have e : look r r' = (decide (r.sh = r'.sh) && (decide (r.fo = r'.fo) && decide (r.dr = r'.dr))) := rfl
  by_cases h1 : r.sh = r'.sh
  · rw [decide_eq_true h1, Bool.true_and] at e
    rw [decide_eq_true h1]
    refine iteT ⟨_, rfl, p, _, dx, _, _, rfl, hp, T.cl_Bead, T.n_Bead_form, bf_form r, _, rfl, p', _, dx', _, _, rfl, hp', T.cl_Bead, T.n_Bead_form, bf_form r', rfl, _, rfl, ?_⟩
    rw [dec_str]
    by_cases h2 : r.fo = r'.fo
    · rw [decide_eq_true h2, Bool.true_and] at e
      rw [decide_eq_true h2]
      refine iteT ⟨_, rfl, p, _, dx, _, _, rfl, hp, T.cl_Bead, T.n_Bead_drilled, bf_drilled r, _, rfl, p', _, dx', _, _, rfl, hp', T.cl_Bead, T.n_Bead_drilled, bf_drilled r', rfl, ?_⟩
      rw [dec_bl, ← e]
      exact q
    · rw [decide_eq_false h2] at e ⊢
      rw [e] at q
      exact iteF q
  · rw [decide_eq_false h1] at e ⊢
    rw [e] at q
    exact iteF q
def spReason (K : PySem.W.Frag) (C D : Addr) : Sp := fun vs H Q _ => ∃ (b m : Addr) (i : Nat) (xs : List V) (rs : List (Option Rw)) (r : Rw) (u : Rl), vs = [.ref b, .int i, .ref m] ∧ SqL K H b xs ∧ Bds C H xs rs ∧ RuleAt D H m u ∧ rs[i]? = some (some r) ∧ rs.length ≤ 1000 ∧
  ∀ H', Same H H' → Q (reason rs u i r) H'
theorem ok_reason_at (T : Tx K mg) : FnOk P w K mg base CX0 2 T.A_reason_at T.fd_reason_at ["beads", "at", "rule"] (spReason K T.C_Bead T.C_Rule) := by
  refine T.F_reason_at.ok sc_reason_at (fun vs H Q E h => ?_) (fun cdv A outer s H vs Q E hr h => ?_)
  · obtain ⟨b, m, i, xs, rs, r, u, rfl, hS, hB, ⟨dm, hm⟩, hi, hl, q⟩ := h
    rfl
  obtain ⟨b, m, i, xs, rs, r, u, rfl, hS, hB, ⟨dm, hm⟩, hi, hl, q⟩ := h
  refine ⟨_, (pss_cons (ps_if (pt_val (pe_call (ok_stands_ahead T) (hr.mono (by decide)) (by rfl) T.g_stands_ahead T.F_stands_ahead.kp T.b_stands_ahead .nil pass0 (pa_cons (pv 0) (pa_cons (pv 1) pa_nil)))) (pss_one (ps_ret pe_str)) pss_nil)
      (pss_cons (ps_if (pt_val (pe_call (ok_breaks_step T) (hr.mono (by decide)) (by rfl) T.g_breaks_step T.F_breaks_step.kp T.b_breaks_step .nil pass0 (pa_cons (pv 0) (pa_cons (pv 1) (pa_cons (pv 2) pa_nil))))) (pss_one (ps_ret pe_str)) pss_nil)
      (pss_cons (ps_set (i := 3) sc_reason_at.nd rfl (Or.inl rfl) (pe_ix ix_list (pv 0) (pv 1) (fun _ _ => rfl)))
      (pss_cons (ps_set (i := 4) sc_reason_at.nd rfl (Or.inl rfl) (pe_call (ok_partner_of T) (hr.mono (by decide)) (by rfl) T.g_partner_of T.F_partner_of.kp T.b_partner_of .nil pass0 (pa_cons (pv 0) (pa_cons (pv 1) pa_nil))))
      (pss_cons (ps_if (pt_cmpR op_isN (pv 4) pe_non (nomark _)) (pss_one (ps_ret pe_non)) pss_nil)
      (pss_cons (ps_if (pt_cmpR op_gt (pe_callB call_abs (by rfl) T.z_abs (by decide +kernel) (pa_cons (pe_op op_sub (pe_fld (pv 3) rfl) (pe_fld (pv 4) rfl)) pa_nil)) (pe_fld (pv 2) rfl) (nomark _)) (pss_one (ps_ret pe_str)) pss_nil)
      (pss_cons (ps_if (PW.pt (pw_and (pt_val (pe_fld (pv 2) rfl)) (pw_and1 (pt_not (pt_val (pe_call (ok_same_look T) (hr.mono (by decide)) (by rfl) T.g_same_look T.F_same_look.kp T.b_same_look .nil pass0 (pa_cons (pv 3) (pa_cons (pv 4) pa_nil)))))))) (pss_one (ps_ret pe_str)) pss_nil)
      (pss_one (ps_ret pe_non))))))))), ?_⟩
  obtain ⟨p, dx, hp, hH⟩ := hB.bead hi
  have hil : i < rs.length := (List.getElem?_eq_some_iff.mp hi).1
  refine ⟨_, rfl, _, rfl, b, i, xs, rs, r, rfl, hS, hB, hi, hl, fun H1 s1 => ⟨_, rfl, ?_⟩⟩
  have hS1 := s1.seq hS
  have hB1 := hB.same (NL.of s1)
  have hm1 := s1 _ _ hm
  have q := q H1 s1
  unfold reason at q
  by_cases h1 : twice rs i r.num = true
  · rw [h1]
    rw [if_pos h1] at q
    exact iteT q
  · rw [if_neg h1] at q
    rw [Bool.not_eq_true] at h1
    rw [h1]
    refine iteF ⟨_, rfl, _, rfl, _, rfl, b, m, i, xs, rs, r, u, rfl, hS1, hB1, ⟨dm, hm1⟩, hi, hl, _, rfl, ?_⟩
    by_cases h2 : stepBars rs u i r = true
    · rw [h2]
      rw [if_pos h2] at q
      exact iteT q
    · rw [if_neg h2] at q
      rw [Bool.not_eq_true] at h2
      rw [h2]
      refine iteF ⟨_, rfl, _, rfl, b, xs, _, _, rfl, rfl, hS1, atI_nat hp, ?_⟩
      refine ⟨_, rfl, _, rfl, b, i, xs, rs, rfl, hS1, hB1, hil, hl, fun v hv => ?_⟩
      refine ⟨_, rfl, rfl, _, rfl, ?_⟩
      rcases hv with ⟨rfl, e⟩ | ⟨p', r', rfl, e, dx', h'⟩
      · rw [e] at q
        exact iteT q
      · rw [e] at q
        have q : Q (if u.far < apart r.ac r'.ac then .str "match" else if (u.shd && !look r r') = true then .str "shade" else .non) H1 := q
        refine iteF ?_
        have hH1 := s1 _ _ hH
        refine ⟨_, rfl, p, _, dx, _, _, rfl, hH1, T.cl_Bead, T.n_Bead_across, bf_across r, _, rfl, p', _, dx', _, _, rfl, h', T.cl_Bead, T.n_Bead_across, bf_across r', _, _, rfl, rfl, _, rfl, ?_⟩
        refine ⟨_, rfl, m, _, dm, _, _, rfl, hm1, T.cl_Rule, T.n_Rule_match, uf_match u, _, _, rfl, rfl, _, rfl, ?_⟩
        show if decide (u.far < apart r.ac r'.ac) = true then _ else _
        by_cases h3 : u.far < apart r.ac r'.ac
        · rw [decide_eq_true h3]
          rw [if_pos h3] at q
          exact iteT q
        · rw [decide_eq_false h3]
          rw [if_neg h3] at q
          refine iteF ⟨_, rfl, m, _, dm, _, _, rfl, hm1, T.cl_Rule, T.n_Rule_shades, uf_shades u, _, rfl, ?_⟩
          by_cases h4 : u.shd = true
          · rw [h4, Bool.true_and] at q
            rw [h4]
            refine iteT ⟨_, rfl, _, rfl, p, p', r, r', rfl, ⟨dx, hH1⟩, ⟨dx', h'⟩, _, rfl, ?_⟩
            by_cases h5 : (!look r r') = true
            · rw [if_pos h5] at q
              rw [h5]
              exact iteT q
            · rw [if_neg h5] at q
              rw [Bool.not_eq_true] at h5
              rw [h5]
              exact iteF q
          · rw [Bool.not_eq_true] at h4
            rw [h4] at q ⊢
            exact iteF (iteF q)
/-- what barred tells -/
def OutV (H : Hp) (o : Option (Nat × V)) (v : V) : Prop := match o with
  | none => v = .non
  | some (i, x) => ∃ t, v = .ref t ∧ H t = some (.tup [.int i, x])
def spBarred (K : PySem.W.Frag) (C D : Addr) : Sp := fun vs H Q _ => ∃ (b m : Addr) (xs : List V) (rs : List (Option Rw)) (u : Rl), vs = [.ref b, .ref m] ∧ SqL K H b xs ∧ Bds C H xs rs ∧ RuleAt D H m u ∧ rs.length ≤ 1000 ∧
  ∀ H' v, Same H H' → OutV H' (bar rs u) v → Q v H'
theorem barFrom_gap {rs : List (Option Rw)} {u : Rl} {k i : Nat} (h : rs[i]? = some none) : barFrom rs u (k + 1) i = barFrom rs u k (i + 1) := by
  show (match rs[i]? with | some (some r) => _ | _ => _) = _
  rw [h]
theorem barFrom_ok {rs : List (Option Rw)} {u : Rl} {k i : Nat} {r : Rw} (h : rs[i]? = some (some r)) (e : reason rs u i r = .non) : barFrom rs u (k + 1) i = barFrom rs u k (i + 1) := by
  show (match rs[i]? with | some (some r) => _ | _ => _) = _
  rw [h]
  exact if_pos e
theorem barFrom_bad {rs : List (Option Rw)} {u : Rl} {k i : Nat} {r : Rw} (h : rs[i]? = some (some r)) (e : ¬ reason rs u i r = .non) : barFrom rs u (k + 1) i = some (i, reason rs u i r) := by
  show (match rs[i]? with | some (some r) => _ | _ => _) = _
  rw [h]
  exact if_neg e
theorem ok_barred (T : Tx K mg) : FnOk P w K mg base CX0 3 T.A_barred T.fd_barred ["beads", "rule"] (spBarred K T.C_Bead T.C_Rule) := by
  refine T.F_barred.ok sc_barred (fun vs H Q E h => ?_) (fun cdv A outer s H vs Q E hr h => ?_)
  · obtain ⟨b, m, xs, rs, u, rfl, hS, hB, hM, hl, q⟩ := h
    rfl
  obtain ⟨b, m, xs, rs, u, rfl, hS, hB, hM, hl, q⟩ := h
  refine ⟨_, (pss_cons (ps_for PassesOwn.never rfl (pi_enum (by rfl) T.z_enumerate (pa_cons (pv 0) pa_nil)) (pg_tup (by rfl) (pgs_cons (pg_name (i := 2) sc_barred.nd rfl (Or.inl rfl)) (pgs_cons (pg_name (i := 3) sc_barred.nd rfl (Or.inl rfl)) pgs_nil)))
        (pss_one (ps_if (pt_cmpR op_notN (pv 3) pe_non (nomark _)) (pss_cons (ps_set (i := 4) sc_barred.nd rfl (Or.inl rfl) (pe_call (ok_reason_at T) (hr.mono (by decide)) (by rfl) T.g_reason_at T.F_reason_at.kp T.b_reason_at .nil pass0 (pa_cons (pv 0) (pa_cons (pv 2) (pa_cons (pv 1) pa_nil)))))
      (pss_one (ps_if (pt_cmpR op_notN (pv 4) pe_non (nomark _)) (pss_one (ps_ret (pe_tup (pa_cons (pv 2) (pa_cons (pv 4) pa_nil))))) pss_nil))) pss_nil)))
      (pss_one (ps_ret pe_non))), ?_⟩
  have eL := hB.len
  refine ⟨_, rfl, b, xs, rfl, hS, for_it (walk_enum (K := K) (a := b) (xs := xs)) (fun i σ H' => ∃ w2 w3 w4, σ = [some (.ref b), some (.ref m), w2, w3, w4] ∧ Same H H' ∧ bar rs u = barFrom rs u (rs.length - i) i) ⟨_, _, _, rfl, Same.refl H, rfl⟩ (fun i σ H' _ h => ?_) ?_ ?_⟩
  · obtain ⟨_, _, _, _, s, _⟩ := h
    exact s.seq hS
  · rintro i x σ H1 H2 hi ⟨w2, w3, w4, rfl, s1, hbar⟩ ⟨t, x1, x2, rfl, nt, rfl, e1, e2⟩
    obtain rfl : V.int (i : Nat) = x1 := Option.some.inj e1
    obtain ⟨o, ho, hv⟩ := hB.at_ i x2 e2
    have st : Same H1 (upd H1 t (.tup [.int (i : Nat), x2])) := same_upd nt
    have s2 := s1.trans st
    have hv := hv.same (NL.of s2)
    obtain ⟨k, hk⟩ : ∃ k, rs.length - i = k + 1 := ⟨rs.length - i - 1, by omega⟩
    have hk' : rs.length - (i + 1) = k := by omega
    rw [hk] at hbar
    refine ⟨t, _, rfl, .inl (.inl upd_same), rfl, _, [x2], rfl, x2, [], rfl, rfl, ?_⟩
    refine ⟨_, rfl, rfl, _, rfl, ?_⟩
    rcases hv with ⟨rfl, rfl⟩ | ⟨p, r, rfl, rfl, hp⟩
    · refine iteF ⟨_, _, _, rfl, s2, ?_⟩
      rw [hbar, hk', barFrom_gap ho]
    · refine iteT ⟨_, rfl, _, rfl, _, rfl, b, m, i, xs, rs, r, u, rfl, s2.seq hS, hB.same (NL.of s2), ?_, ho, hl, fun H3 s3 => ?_⟩
      · obtain ⟨dm, hm⟩ := hM
        exact ⟨dm, s2 _ _ hm⟩
      · refine ⟨_, rfl, rfl, _, rfl, ?_⟩
        by_cases h : reason rs u i r = .non
        · rw [decide_eq_true h]
          refine iteF ⟨_, _, _, rfl, s2.trans s3, ?_⟩
          rw [hbar, hk', barFrom_ok ho h]
        · rw [decide_eq_false h]
          refine iteT ⟨_, rfl, _, rfl, (by show 2 ≤ sizeLine; decide), fun t2 ht2 => ?_⟩
          refine q _ _ ((s2.trans s3).trans (same_upd ht2)) ?_
          rw [hbar, barFrom_bad ho h]
          exact ⟨t2, rfl, upd_same⟩
  · rintro σ H1 ⟨w2, w3, w4, rfl, s1, hbar⟩
    refine q _ _ s1 ?_
    rw [hbar, show rs.length - xs.length = 0 by omega]
    rfl
end
end KB
namespace KB
open PySem PySem.Spec PyProof.Rows L2 KA
section
variable {P : Program} {w : World} {K : PySem.W.Frag} {mg : Str → Option Value} {base : Heap}
def PM : Int → Prop := fun b => 0 ≤ b ∧ b < 2147483647
def spDraws : Sp := fun vs H Q _ => ∃ (n : Int), vs = [.int n] ∧ ∀ (d : Addr) (H' : Hp), H d = none → Same H H' → Dr PM d 0 H' → Q (.ref d) H'
theorem at2 {a b : V} {i : Int} (h0 : 0 ≤ i) (h1 : i < 2) : ∃ v, atI [a, b] i = some v ∧ (v = a ∨ v = b) := by
  rcases (by omega : i = 0 ∨ i = 1) with rfl | rfl
  · exact ⟨a, rfl, .inl rfl⟩
  · exact ⟨b, rfl, .inr rfl⟩
theorem ok_draws (T : Tx K mg) : FnOk P w K mg base CX0 1 T.A_draws T.fd_draws ["_law_cell"] (spDraws) := by
  refine T.F_draws.ok sc_draws (fun vs H Q E h => ?_) (fun cdv A outer s H vs Q E hr h => ?_)
  · obtain ⟨n, rfl, q⟩ := h
    rfl
  obtain ⟨n, rfl, q⟩ := h
  refine ⟨_, (pss_one (ps_ret (pe_lst (pa_cons (pe_ix ix_list (pe_lst (pa_cons (pe_callB (call_max2 rfl) (by rfl) T.z_max (by decide +kernel) (pa_cons pe_int (pa_cons (pe_op op_fdiv (pv 0) pe_int) pa_nil))) (pa_cons pe_int pa_nil))) (pe_op op_mod (pv 0) pe_int) (fun _ _ => rfl)) (pa_cons (pe_op op_mod (pv 0) pe_int) (pa_cons pe_int pa_nil)))))), ?_⟩
  refine ⟨_, rfl, _, _, rfl, rfl, ⟨by decide, by decide⟩, _, _, rfl, (by show 2 ≤ sizeLine; decide), fun l hl => ?_⟩
  obtain ⟨v, hat, hv⟩ := at2 (a := V.int (if n / 2 > 0 then n / 2 else 0)) (b := V.int 0) (Int.emod_nonneg n (by decide : (2 : Int) ≠ 0)) (Int.emod_lt_of_pos n (by decide : (0 : Int) < 2))
  obtain ⟨x, rfl⟩ : ∃ x, v = V.int x := by
    rcases hv with rfl | rfl
    · exact ⟨_, rfl⟩
    · exact ⟨_, rfl⟩
  refine ⟨_, rfl, _, _, rfl, rfl, (by show (0 : Int) < 2; decide), l, _, _, _, rfl, rfl, SqL.of upd_same, hat, ?_⟩
  refine ⟨_, rfl, _, _, rfl, rfl, (by show (0 : Int) < 2147483647; decide), (by show 3 ≤ sizeLine; decide), fun d hd => ?_⟩
  have nd : H d = none := by
    by_cases e : d = l
    · rw [e]; exact hl
    · rw [upd_ne e] at hd; exact hd
  exact q d _ nd ((same_upd hl).trans (same_upd hd)) ⟨_, _, _, upd_same, ⟨Int.emod_nonneg _ (by decide), Int.emod_lt_of_pos _ (by decide)⟩, Int.le_refl _, Int.le_refl _⟩
def spOne : Sp := fun vs H Q _ => ∃ (d : Addr) (m : Int) (n : Nat), vs = [.ref d, .int m] ∧ 0 < m ∧ m.natAbs.log2 < 9000 ∧ Dr PM d n H ∧ n ≤ 1000000 ∧
  ∀ (H' : Hp) (r : Int), 0 ≤ r → r < m → But d H H' → Dr PM d (n + 1) H' → Q (.int r) H'
theorem ok_next (T : Tx K mg) : FnOk P w K mg base CX0 1 T.A_next T.fd_next ["_law_draws_here", "_law_size"] (spOne) := by
  refine T.F_next.ok sc_next (fun vs H Q E h => ?_) (fun cdv A outer s H vs Q E hr h => ?_)
  · obtain ⟨d, m, n, rfl, hm, hl, ⟨a, b, c, hd, ⟨hb0, hb1⟩, hc0, hc1⟩, hn, q⟩ := h
    rfl
  obtain ⟨d, m, n, rfl, hm, hl, ⟨a, b, c, hd, ⟨hb0, hb1⟩, hc0, hc1⟩, hn, q⟩ := h
  refine ⟨_, (pss_cons (ps_if (pt_cmpR op_gt (pe_ix ix_list (pv 0) pe_int (fun _ _ => rfl)) pe_int (nomark _)) (pss_cons (ps_set (i := 2) sc_next.nd rfl (Or.inl rfl) (pe_op op_mod (pe_ix ix_list (pv 0) pe_int (fun _ _ => rfl)) (pv 1)))
      (pss_cons (ps_asg (pe_op op_fdivW (pe_ix ix_list (pv 0) pe_int (fun _ _ => rfl)) (pv 1)) (pg_sub (pv 0) pe_int set_list))
      (pss_one (ps_ret (pv 2))))) pss_nil)
      (pss_cons (ps_asg (pe_op op_add (pe_ix ix_list (pv 0) pe_int (fun _ _ => rfl)) pe_int) (pg_sub (pv 0) pe_int set_list))
      (pss_cons (ps_set (i := 3) sc_next.nd rfl (Or.inl rfl) (pe_op op_mod (pe_op op_pow (pe_op op_add (pe_op op_add (pe_ix ix_list (pv 0) pe_int (fun _ _ => rfl)) (pe_op op_mul pe_int (pe_ix ix_list (pv 0) pe_int (fun _ _ => rfl)))) pe_int) pe_int) pe_int))
      (pss_cons (ps_set (i := 3) sc_next.nd rfl (Or.inl rfl) (pe_op op_mod (pe_op op_mul (pv 3) (pe_op op_add (pe_op op_add (pe_op op_fdiv (pv 3) pe_int) pe_int) (pe_ix ix_list (pv 0) pe_int (fun _ _ => rfl)))) pe_int))
      (pss_one (ps_ret (pe_op op_mod (pe_op op_mod (pe_op op_mul (pv 3) (pe_op op_add (pe_op op_fdiv (pv 3) pe_int) pe_int)) pe_int) (pv 1)))))))), ?_⟩
  refine ⟨_, rfl, d, _, _, _, rfl, rfl, SqL.of hd, atI_nat (j := 0) rfl, _, _, rfl, rfl, _, rfl, ite2 (fun e => ?_) (fun e => ?_)⟩
  · refine ⟨_, rfl, d, _, _, _, rfl, rfl, SqL.of hd, atI_nat (j := 0) rfl, _, rfl, _, _, rfl, rfl, hm, ?_⟩
    refine ⟨_, rfl, d, _, _, _, rfl, rfl, SqL.of hd, atI_nat (j := 0) rfl, _, rfl, _, _, rfl, rfl, ⟨hm, hl⟩, ?_⟩
    refine ⟨_, rfl, d, _, _, 0, rfl, rfl, hd, rfl, ?_⟩
    exact ⟨_, rfl, q _ _ (Int.emod_nonneg _ (by omega)) (Int.emod_lt_of_pos _ hm) But.at_ ⟨_, _, _, upd_same, ⟨hb0, hb1⟩, hc0, by omega⟩⟩
  · refine ⟨_, rfl, d, _, _, _, rfl, rfl, SqL.of hd, atI_nat (j := 2) rfl, _, _, rfl, rfl, ?_⟩
    refine ⟨_, rfl, d, _, _, 2, rfl, rfl, hd, rfl, ?_⟩
    have hd' : (upd H d (.lst [.int a, .int b, .int (c + 1)])) d = some (.lst [.int a, .int b, .int (c + 1)]) := upd_same
    refine ⟨_, rfl, d, _, _, _, rfl, rfl, SqL.of hd', atI_nat (j := 1) rfl, _, rfl, d, _, _, _, rfl, rfl, SqL.of hd', atI_nat (j := 2) rfl, _, _, rfl, rfl, .inl ⟨by decide, by decide⟩, _, _, rfl, rfl, _, _, rfl, rfl, _, _, rfl, rfl, ⟨by decide, by decide, ?_⟩, _, _, rfl, rfl, (by show (0 : Int) < 2147483647; decide), ?_⟩
    · have e64 : (2 : Nat) ^ 64 = 18446744073709551616 := by decide
      rw [e64]
      omega
    · generalize hx : (b + 7919 * (c + 1) + 1) ^ (5 : Int).toNat % 2147483647 = x
      have hx0 : 0 ≤ x := by rw [← hx]; exact Int.emod_nonneg _ (by decide)
      have hx1 : x < 2147483647 := by rw [← hx]; exact Int.emod_lt_of_pos _ (by decide)
      have e64 : (2 : Int) ^ 64 = 18446744073709551616 := by decide
      refine ⟨_, rfl, _, rfl, _, _, rfl, rfl, ⟨by decide, by decide⟩, _, _, rfl, rfl, _, rfl, d, _, _, _, rfl, rfl, SqL.of hd', atI_nat (j := 2) rfl, _, _, rfl, rfl, _, _, rfl, rfl, .inl ⟨?_, ?_⟩, _, _, rfl, rfl, (by show (0 : Int) < 2147483629; decide), ?_⟩
      · rw [e64]; omega
      · rw [e64]; omega
      · generalize hy : x * (x / 1009 + 69621 + (c + 1)) % 2147483629 = y
        have hy0 : 0 ≤ y := by rw [← hy]; exact Int.emod_nonneg _ (by decide)
        have hy1 : y < 2147483629 := by rw [← hy]; exact Int.emod_lt_of_pos _ (by decide)
        refine ⟨_, rfl, _, rfl, _, _, rfl, rfl, ⟨by decide, by decide⟩, _, _, rfl, rfl, _, _, rfl, rfl, .inl ⟨?_, ?_⟩, _, _, rfl, rfl, (by show (0 : Int) < 2147483399; decide), _, rfl, _, _, rfl, rfl, hm, ?_⟩
        · rw [e64]; omega
        · rw [e64]; omega
        · exact q _ _ (Int.emod_nonneg _ (by omega)) (Int.emod_lt_of_pos _ hm) But.at_ ⟨_, _, _, upd_same, ⟨hb0, hb1⟩, by omega, by omega⟩
def spRowL : Sp := fun vs H Q _ => ∃ (d wl : Addr) (n : Nat) (k ac : Int) (w0 w1 w2 w3 : Str), vs = [.ref d, .int k, .ref wl, .int ac] ∧ Dr PM d n H ∧ n ≤ 100000 ∧ wl ≠ d ∧ H wl = some (.lst [.str w0, .str w1, .str w2, .str w3]) ∧ nm (.str w0) = true ∧ nm (.str w1) = true ∧ nm (.str w2) = true ∧ nm (.str w3) = true ∧
  1 ≤ k ∧ k ≤ 1000000000 ∧ 1 ≤ ac ∧ ac ≤ 1000000 ∧ ∀ (H' : Hp) (t : Addr) (r : Rw), GoodRw r → H' t = some (.tup (rowVals r)) → But d H H' → Dr PM d (n + 6) H' → Q (.ref t) H'
theorem whl_mk {i lo hi : Int} (h1 : lo ≤ i) (h2 : i ≤ hi) : whl (.int i) lo hi = true := by
  have e : whl (.int i) lo hi = (decide (lo ≤ i) && decide (i ≤ hi)) := rfl
  rw [e, decide_eq_true h1, decide_eq_true h2]
  rfl
theorem nm_round : nm (.str "round") = true := by decide +kernel
theorem at3 {a b c : V} {i : Int} (h0 : 0 ≤ i) (h1 : i < 3) : ∃ v, atI [a, b, c] i = some v ∧ (v = a ∨ v = b ∨ v = c) := by
  rcases (by omega : i = 0 ∨ i = 1 ∨ i = 2) with rfl | rfl | rfl
  · exact ⟨a, rfl, .inl rfl⟩
  · exact ⟨b, rfl, .inr (.inl rfl)⟩
  · exact ⟨c, rfl, .inr (.inr rfl)⟩
theorem ok_row (T : Tx K mg) : FnOk P w K mg base CX0 2 T.A_row T.fd_row ["_law_draws_here", "_law_mark", "_law_words_here", "_law_wide"] (spRowL) := by
  refine T.F_row.ok sc_row (fun vs H Q E h => ?_) (fun cdv A outer s H vs Q E hr h => ?_)
  · obtain ⟨d, wl, n, k, ac, w0, w1, w2, w3, rfl, dr, hn, nwl, hw, g0, g1, g2, g3, k1, k2, a1, a2, q⟩ := h
    rfl
  obtain ⟨d, wl, n, k, ac, w0, w1, w2, w3, rfl, dr, hn, nwl, hw, g0, g1, g2, g3, k1, k2, a1, a2, q⟩ := h
  refine ⟨_, (pss_cons (ps_set (i := 4) sc_row.nd rfl (Or.inl rfl) (pe_ix ix_list (pe_lst (pa_cons (pe_op op_add pe_int (pe_call (ok_next T) (hr.mono (by decide)) (by rfl) T.g_next T.F_next.kp T.b_next .nil pass0 (pa_cons (pv 0) (pa_cons pe_int pa_nil)))) (pa_cons (pe_op op_sub (pe_op op_pow pe_int pe_int) (pe_call (ok_next T) (hr.mono (by decide)) (by rfl) T.g_next T.F_next.kp T.b_next .nil pass0 (pa_cons (pv 0) (pa_cons pe_int pa_nil)))) pa_nil))) (pe_op op_fdiv (pe_call (ok_next T) (hr.mono (by decide)) (by rfl) T.g_next T.F_next.kp T.b_next .nil pass0 (pa_cons (pv 0) (pa_cons pe_int pa_nil))) pe_int) (fun _ _ => rfl)))
      (pss_cons (ps_set (i := 5) sc_row.nd rfl (Or.inl rfl) (pe_ix ix_list (pe_lst (pa_cons (pe_ix ix_list (pv 2) pe_int (fun _ _ => rfl)) (pa_cons pe_str (pa_cons (pe_ix ix_list (pv 2) pe_int (fun _ _ => rfl)) pa_nil)))) (pe_call (ok_next T) (hr.mono (by decide)) (by rfl) T.g_next T.F_next.kp T.b_next .nil pass0 (pa_cons (pv 0) (pa_cons pe_int pa_nil))) (fun _ _ => rfl)))
      (pss_one (ps_ret (pe_tup (pa_cons (pv 1) (pa_cons (pv 3) (pa_cons (pv 4) (pa_cons (pe_ix ix_list (pv 2) (pe_call (ok_next T) (hr.mono (by decide)) (by rfl) T.g_next T.F_next.kp T.b_next .nil pass0 (pa_cons (pv 0) (pa_cons pe_int pa_nil))) (fun _ _ => rfl)) (pa_cons (pv 5) (pa_cons (pe_cmpR op_eq (pe_call (ok_next T) (hr.mono (by decide)) (by rfl) T.g_next T.F_next.kp T.b_next .nil pass0 (pa_cons (pv 0) (pa_cons pe_int pa_nil))) pe_int (nomark _)) pa_nil))))))))))), ?_⟩
  have e6 : (10 : Int) ^ (6 : Int).toNat = 1000000 := by decide
  refine ⟨_, rfl, d, 40, n, rfl, by decide, log_tiny (by decide) (by decide), dr, by omega, fun H1 r1 u1 c1 b1 dr1 => ⟨_, _, rfl, rfl, ?_⟩⟩
  refine ⟨_, _, rfl, rfl, ⟨by decide, by decide, by decide⟩, _, rfl, d, 9, n + 1, rfl, by decide, log_tiny (by decide) (by decide), dr1, by omega, fun H2 r2 u2 c2 b2 dr2 => ⟨_, _, rfl, rfl, ?_⟩⟩
  refine ⟨(by show 2 ≤ sizeLine; decide), fun l hl => ?_⟩
  have nl := dr2.ne hl
  refine ⟨_, rfl, d, 6, n + 2, rfl, by decide, log_tiny (by decide) (by decide), dr2.upd nl, by omega, fun H3 r3 u3 c3 b3 dr3 => ⟨_, _, rfl, rfl, ⟨by decide, by decide⟩, ?_⟩⟩
  obtain ⟨v, hat, hv⟩ := at2 (a := V.int (1 + r1)) (b := V.int (10 ^ (6 : Int).toNat - r2)) (i := r3 / 5) (by omega) (by omega)
  obtain ⟨we, rfl, we1, we2⟩ : ∃ we : Int, v = .int we ∧ 1 ≤ we ∧ we ≤ 1000000 := by
    rw [e6] at hv
    rcases hv with rfl | rfl
    · exact ⟨_, rfl, by omega, by omega⟩
    · exact ⟨_, rfl, by omega, by omega⟩
  have bt3 : But d H H3 := (b1.trans b2).trans ((But.new hl).trans b3)
  refine ⟨l, _, _, _, rfl, rfl, SqL.of (b3 _ _ nl upd_same), hat, ?_⟩
  have hw3 := bt3 _ _ nwl hw
  refine ⟨_, rfl, wl, _, _, _, rfl, rfl, SqL.of hw3, atI_nat (j := 2) rfl, _, rfl, wl, _, _, _, rfl, rfl, SqL.of hw3, atI_nat (j := 3) rfl, (by show 3 ≤ sizeLine; decide), fun l2 hl2 => ?_⟩
  have nl2 := dr3.ne hl2
  refine ⟨_, rfl, d, 3, n + 3, rfl, by decide, log_tiny (by decide) (by decide), dr3.upd nl2, by omega, fun H4 r4 u4 c4 b4 dr4 => ?_⟩
  obtain ⟨v2, hat2, hv2⟩ := at3 (a := V.str w2) (b := V.str "round") (c := V.str w3) (i := r4) u4 c4
  obtain ⟨fo, rfl, hfo⟩ : ∃ fo : Str, v2 = .str fo ∧ nm (.str fo) = true := by
    rcases hv2 with rfl | rfl | rfl
    · exact ⟨_, rfl, g2⟩
    · exact ⟨_, rfl, nm_round⟩
    · exact ⟨_, rfl, g3⟩
  have bt4 : But d H H4 := bt3.trans ((But.new hl2).trans b4)
  refine ⟨l2, _, _, _, rfl, rfl, SqL.of (b4 _ _ nl2 upd_same), hat2, ?_⟩
  refine ⟨_, rfl, _, rfl, _, rfl, _, rfl, _, rfl, d, 2, n + 4, rfl, by decide, log_tiny (by decide) (by decide), dr4, by omega, fun H5 r5 u5 c5 b5 dr5 => ?_⟩
  have bt5 : But d H H5 := bt4.trans b5
  have hw5 := bt5 _ _ nwl hw
  obtain ⟨sh, hat3, hsh⟩ : ∃ sh : Str, atI [V.str w0, .str w1, .str w2, .str w3] r5 = some (.str sh) ∧ nm (.str sh) = true := by
    rcases (by omega : r5 = 0 ∨ r5 = 1) with rfl | rfl
    · exact ⟨w0, rfl, g0⟩
    · exact ⟨w1, rfl, g1⟩
  refine ⟨wl, _, _, _, rfl, rfl, SqL.of hw5, hat3, ?_⟩
  refine ⟨_, rfl, _, rfl, d, 3, n + 5, rfl, by decide, log_tiny (by decide) (by decide), dr5, by omega, fun H6 r6 u6 c6 b6 dr6 => ⟨rfl, ?_⟩⟩
  refine ⟨(by show 6 ≤ sizeLine; decide), fun t ht => ?_⟩
  exact q _ t ⟨k, ac, we, sh, fo, _⟩ ⟨whl_mk k1 k2, whl_mk a1 a2, whl_mk we1 we2, hsh, hfo⟩ upd_same ((bt5.trans b6).trans (But.new ht)) (dr6.upd (dr6.ne ht))
theorem az_is {r : Int} (h0 : 0 ≤ r) (h1 : r < 26) : atI ("abcdefghijklmnopqrstuvwxyz" : Str).cps.toList r = some (97 + r.toNat) := by
  obtain ⟨j, rfl⟩ : ∃ j : Nat, r = (j : Int) := ⟨r.toNat, by omega⟩
  have e : ("abcdefghijklmnopqrstuvwxyz" : Str).cps.toList = (List.range 26).map (· + 97) := by decide +kernel
  refine atI_nat ?_
  rw [e, List.getElem?_map, List.getElem?_range (by omega)]
  show some (j + 97) = some (97 + j)
  rw [Nat.add_comm]
theorem low_of {j : Nat} (h : j < 26) : lower (97 + j) = true := by
  unfold lower
  rw [decide_eq_true (by omega), decide_eq_true (by omega)]
  rfl
def Stem (z : Str) : Prop := z.length ≤ 7 ∧ ∀ c ∈ z.cps.toList, lower c = true
def spWords : Sp := fun vs H Q _ => ∃ (d : Addr) (n : Nat), vs = [.ref d, .int 4] ∧ Dr PM d n H ∧ n ≤ 100000 ∧
  ∀ (H' : Hp) (p : Addr) (w0 w1 w2 w3 : Str), H p = none → H' p = some (.lst [.str w0, .str w1, .str w2, .str w3]) → nm (.str w0) = true → nm (.str w1) = true → nm (.str w2) = true → nm (.str w3) = true → w1 ≠ w2 → But d H H' → Dr PM d (n + 60) H' → Q (.ref p) H'
theorem nopart {σ : L2.St} {H : Hp} {R : Option Int → Hp → Prop} (h : R none H) : tNoPart σ H R := h
theorem cps_app (z : Str) (c : Nat) : (z ++ (⟨#[c]⟩ : Str)).cps.toList = z.cps.toList ++ [c] := by
  show (z.cps ++ #[c]).toList = _
  simp
theorem low_snoc {z : Str} {c : Nat} (h : ∀ c ∈ z.cps.toList, lower c = true) (hc : lower c = true) : ∀ x ∈ (z ++ (⟨#[c]⟩ : Str)).cps.toList, lower x = true := fun x hx => by
  rw [cps_app] at hx
  rcases List.mem_append.mp hx with h1 | h1
  · exact h x h1
  · rw [List.mem_singleton.mp h1]
    exact hc
theorem nm_snoc {z : Str} {c : Nat} (h : Stem z) (hc : lower c = true) : nm (.str (z ++ ⟨#[c]⟩)) = true := by
  have nmE : ∀ z : Str, nm (.str z) = (decide (1 ≤ z.length) && decide (z.length ≤ 8) && z.cps.toList.all lower) := fun _ => rfl
  have l : (z ++ (⟨#[c]⟩ : Str)).length = z.length + 1 := by
    rw [Str.length_append]
    rfl
  have := h.1
  rw [nmE, l, decide_eq_true (by omega), decide_eq_true (by omega), Bool.true_and, Bool.true_and, List.all_eq_true]
  exact low_snoc h.2 hc
theorem stem_cut {z : Str} (h : nm (.str z) = true) : Stem (cutS z none (some 7)) := by
  obtain ⟨h1, h2⟩ := nm_low h
  refine ⟨?_, fun c hc => h2 c ?_⟩
  · show (((z.cps.toList.drop (HT.sIx z.length 0 none)).take (HT.sIx z.length z.length (some 7) - HT.sIx z.length 0 none)).toArray).size ≤ 7
    have e : HT.sIx z.length z.length (some 7) ≤ 7 := by
      unfold HT.sIx
      simp
      omega
    rw [List.size_toArray, List.length_take]
    omega
  · exact List.mem_of_mem_drop (List.mem_of_mem_take hc)
theorem nil_ne1 {H : Hp} {f e : Addr} {z : Str} {ws : List Str} {R : VK} (hf : H f = some (.lst ((z :: ws).map V.str))) (he : H e = none) (q : ∀ H', Same H H' → R (.bl true) H') : rEqB true (BList BFlat) (.ref f) (.ref e) (upd H e (.lst [])) R := by
  refine ⟨false, ⟨f, e, _, [], fun _ => true, rfl, rfl, same_upd he _ _ hf, upd_same, fun h => ?_, ?_⟩, fun H' s => q H' ((same_upd he).trans s)⟩
  · rw [List.length_map, List.length_cons] at h
    simp at h
  · rw [decide_eq_false (show ¬ ((z :: ws).map V.str).length = ([] : List V).length by rw [List.length_map, List.length_cons]; simp)]
    rfl
theorem nil_ne0 {H : Hp} {f e : Addr} {R : VK} (hf : H f = some (.lst [])) (he : H e = none) (q : ∀ H', Same H H' → R (.bl false) H') : rEqB true (BList BFlat) (.ref f) (.ref e) (upd H e (.lst [])) R := by
  refine ⟨true, ⟨f, e, [], [], fun _ => true, rfl, rfl, same_upd he _ _ hf, upd_same, fun h => ?_, ?_⟩, fun H' s => q H' ((same_upd he).trans s)⟩
  · intro i x y h1
    simp at h1
  · rfl
/-- the words are names, each with its own last letter -/
def Wd (first : Int) (ws : List Str) : Prop := (∀ z ∈ ws, nm (.str z) = true) ∧ ∀ (k : Nat) (y : Str), ws[k]? = some y → ∃ st : Str, y = st ++ ⟨#[97 + ((first + 3 * (0 + (k : Int))) % 26).toNat]⟩
theorem wd_ne {first : Int} {w0 w1 w2 w3 : Str} (h : Wd first [w0, w1, w2, w3]) : w1 ≠ w2 := by
  obtain ⟨s1, e1⟩ := h.2 1 w1 rfl
  obtain ⟨s2, e2⟩ := h.2 2 w2 rfl
  intro e
  have l : ∀ (s : Str) (c : Nat), (TL.tl (s ++ (⟨#[c]⟩ : Str))).getLast? = some c := fun s c => by
    rw [TL.tl_append]
    show (TL.tl s ++ [c]).getLast? = some c
    simp
  have a1 := l s1 (97 + ((first + 3 * (0 + ((1 : Nat) : Int))) % 26).toNat)
  have a2 := l s2 (97 + ((first + 3 * (0 + ((2 : Nat) : Int))) % 26).toNat)
  rw [← e1] at a1
  rw [← e2] at a2
  rw [e, a2] at a1
  have := Option.some.inj a1
  omega
theorem ok_words (T : Tx K mg) : FnOk P w K mg base CX0 2 T.A_words T.fd_words ["_law_draws_here", "_law_many"] (spWords) := by
  refine T.F_words.ok sc_words (fun vs H Q E h => ?_) (fun cdv A outer s H vs Q E hr h => ?_)
  · obtain ⟨d, n, rfl, dr, hn, q⟩ := h
    rfl
  obtain ⟨d, n, rfl, dr, hn, q⟩ := h
  refine ⟨_, (pss_cons (ps_set (i := 2) sc_words.nd rfl (Or.inl rfl) (pe_lst pa_nil))
      (pss_cons (ps_set (i := 3) sc_words.nd rfl (Or.inl rfl) (pe_call (ok_next T) (hr.mono (by decide)) (by rfl) T.g_next T.F_next.kp T.b_next .nil pass0 (pa_cons (pv 0) (pa_cons pe_int pa_nil))))
      (pss_cons (ps_for PassesOwn.never rfl (pi_range1 (by rfl) T.z_range (pa_cons (pv 1) pa_nil)) (pg_name (i := 4) sc_words.nd rfl (Or.inl rfl))
        (pss_cons (ps_set (i := 5) sc_words.nd rfl (Or.inl rfl) pe_str)
      (pss_cutJ (ps_if (PW.pt (pw_and (pt_cmpR (op_neB (rcB_list true monB_flat eqB_flat) (hr.mono (by decide))) (pv 2) (pe_lst pa_nil) (nomark _)) (pw_and1 (pt_cmpR op_eq (pe_call (ok_next T) (hr.mono (by decide)) (by rfl) T.g_next T.F_next.kp T.b_next .nil pass0 (pa_cons (pv 0) (pa_cons pe_int pa_nil))) pe_int (nomark _))))) (pss_one (ps_set (i := 5) sc_words.nd rfl (Or.inl rfl) (pe_slice sl_str (pe_ix ix_list (pv 2) (pe_call (ok_next T) (hr.mono (by decide)) (by rfl) T.g_next T.F_next.kp T.b_next .nil pass0 (pa_cons (pv 0) (pa_cons (pe_callB call_len_seq (by rfl) T.z_len PySem.boot_len (pa_cons (pv 2) pa_nil)) pa_nil))) (fun _ _ => rfl)) po_none (po_some pe_int)))) (pss_one (ps_for PassesOwn.never rfl (pi_range1 (by rfl) T.z_range (pa_cons (pe_call (ok_next T) (hr.mono (by decide)) (by rfl) T.g_next T.F_next.kp T.b_next .nil pass0 (pa_cons (pv 0) (pa_cons pe_int pa_nil))) pa_nil)) (pg_name (i := 6) sc_words.nd rfl (Or.inl rfl))
        (pss_one (ps_set (i := 5) sc_words.nd rfl (Or.inl rfl) (pe_op op_add_str (pv 5) (pe_ix ix_str pe_str (pe_call (ok_next T) (hr.mono (by decide)) (by rfl) T.g_next T.F_next.kp T.b_next .nil pass0 (pa_cons (pv 0) (pa_cons pe_int pa_nil))) (fun _ _ => rfl))))))))
      (pss_one (ps_expr (pe_bm PySem.F.plainAttrs_list PySem.F.slot_list_append PySem.F.type_list_append mt_append (pv 2) (pa_cons (pe_op op_add_str (pv 5) (pe_ix ix_str pe_str (pe_op op_mod (pe_op op_add (pv 3) (pe_op op_mul pe_int (pv 4))) pe_int) (fun _ _ => rfl))) pa_nil)))))))
      (pss_one (ps_ret (pv 2)))))), ?_⟩
  refine ⟨Nat.zero_le _, fun f hf => ?_⟩
  have nf := dr.ne hf
  refine ⟨_, rfl, d, 26, n, rfl, by decide, log_tiny (by decide) (by decide), dr.upd nf, by omega, fun H1 first a1 c1 b1 dr1 => ?_⟩
  have bf1 : But d H H1 := (But.new hf).trans b1
  refine ⟨_, rfl, _, rfl, by decide, by decide, ?_⟩
  refine for_range (lo := 0) (n := 4) (fun i σ H' => ∃ (w4 w5 w6 : Option V) (ws : List Str), σ = [some (.ref d), some (.int 4), some (.ref f), some (.int first), w4, w5, w6] ∧ H' f = some (.lst (ws.map V.str)) ∧ ws.length = i ∧ Wd first ws ∧ But d H H' ∧ Dr PM d (n + 1 + 12 * i) H')
    ⟨_, _, _, [], rfl, b1 _ _ nf upd_same, rfl, ⟨fun _ h => (nomatch h), fun k y h => by simp at h⟩, bf1, dr1⟩ ?_ ?_
  · rintro i σ H2 hi ⟨w4, w5, w6, ws, rfl, ef, hl, hw, b2, dr2⟩
    refine ⟨fun σ' H' => ∃ (z : Str) (w6 : Option V), σ' = [some (.ref d), some (.int 4), some (.ref f), some (.int first), some (.int (0 + i)), some (.str z), w6] ∧ Stem z ∧ H' f = some (.lst (ws.map V.str)) ∧ But d H H' ∧ Dr PM d (n + 1 + 12 * i + 12) H', ?_, ?_⟩
    · refine ⟨_, rfl, Nat.zero_le _, fun e he => ?_⟩
      cases ws with
      | nil =>
        refine nil_ne0 ef he fun H3 s3 => ⟨_, rfl, iteF (iteF ?_)⟩
        refine ⟨_, rfl, d, 8, _, rfl, by decide, log_tiny (by decide) (by decide), (dr2.same s3), by omega, fun H6 r6 u6 c6 b6 dr6 => ?_⟩
        refine ⟨_, rfl, by omega, by omega, ?_⟩
        refine for_range (lo := 0) (n := r6.toNat) (fun j σ H' => ∃ (z : Str) (w6 : Option V), σ = [some (.ref d), some (.int 4), some (.ref f), some (.int first), some (.int (0 + i)), some (.str z), w6] ∧ z.length = j ∧ (∀ c ∈ z.cps.toList, lower c = true) ∧ H' f = some (.lst (([] : List Str).map V.str)) ∧ But d H H' ∧ Dr PM d (n + 1 + 12 * i + 2 + j) H') ⟨"", _, rfl, rfl, (fun _ h => nomatch h), b6 _ _ nf (s3 _ _ ef), (b2.trans (But.of s3)).trans b6, dr6.mono (by omega)⟩ ?_ ?_
        · rintro j σ H7 hj ⟨z, w6', rfl, hz, hc, ef7, b7, dr7⟩
          refine ⟨_, rfl, _, rfl, d, 26, _, rfl, by decide, log_tiny (by decide) (by decide), dr7, by omega, fun H8 r8 u8 c8 b8 dr8 => ?_⟩
          obtain ⟨c, hc8, hl8⟩ := az_at u8 c8
          refine ⟨_, _, c, rfl, rfl, (by decide +kernel), hc8, ?_⟩
          refine ⟨_, _, rfl, rfl, ?_, z ++ ⟨#[c]⟩, _, rfl, ?_, ?_, b8 _ _ nf ef7, b7.trans b8, dr8.mono (by omega)⟩
          · exact Nat.le_trans (show z.length + 1 ≤ 10 by omega) (by decide)
          · rw [Str.length_append, hz]
            rfl
          · exact low_snoc hc hl8
        · rintro σ H7 ⟨z, w6', rfl, hz, hc, ef7, b7, dr7⟩
          exact ⟨z, _, rfl, ⟨by omega, hc⟩, ef7, b7, dr7.mono (by omega)⟩
      | cons z0 wr =>
        refine nil_ne1 ef he fun H3 s3 => ⟨_, rfl, iteT ?_⟩
        have dr3 := dr2.same s3
        refine ⟨_, rfl, d, 4, _, rfl, by decide, log_tiny (by decide) (by decide), dr3, by omega, fun H4 r4 u4 c4 b4 dr4 => ⟨rfl, _, rfl, ite2 (fun e0 => ?_) (fun e0 => ?_)⟩⟩
        · have ef4 := b4 _ _ nf (s3 _ _ ef)
          have hlen : 0 < (((z0 :: wr).map V.str).length : Int) := by rw [List.length_map, List.length_cons]; omega
          refine ⟨_, rfl, _, rfl, _, rfl, f, _, rfl, .inl (SqL.of ef4), d, _, _, rfl, hlen, log_tiny hlen (by rw [List.length_map, hl]; omega), dr4, by omega, fun H5 r5 u5 c5 b5 dr5 => ?_⟩
          obtain ⟨j, rfl⟩ : ∃ j : Nat, r5 = (j : Int) := ⟨r5.toNat, by omega⟩
          have hj : j < (z0 :: wr).length := by rw [List.length_map] at c5; omega
          have hat : atI ((z0 :: wr).map V.str) (j : Int) = some (.str (z0 :: wr)[j]) := atI_nat (by rw [List.getElem?_map, List.getElem?_eq_getElem hj]; rfl)
          have hz := hw.1 _ (List.getElem_mem hj)
          refine ⟨f, _, _, _, rfl, rfl, SqL.of (b5 _ _ nf ef4), hat, nopart ?_⟩
          exact ⟨7, rfl, _, rfl, Nat.le_trans (short_name hz) (by decide), cutS (z0 :: wr)[j] none (some 7), _, rfl, stem_cut hz, b5 _ _ nf ef4, ((b2.trans (But.of s3)).trans b4).trans b5, dr5.mono (by omega)⟩
        · refine ⟨_, rfl, d, 8, _, rfl, by decide, log_tiny (by decide) (by decide), dr4, by omega, fun H6 r6 u6 c6 b6 dr6 => ?_⟩
          refine ⟨_, rfl, by omega, by omega, ?_⟩
          refine for_range (lo := 0) (n := r6.toNat) (fun j σ H' => ∃ (z : Str) (w6 : Option V), σ = [some (.ref d), some (.int 4), some (.ref f), some (.int first), some (.int (0 + i)), some (.str z), w6] ∧ z.length = j ∧ (∀ c ∈ z.cps.toList, lower c = true) ∧ H' f = some (.lst ((z0 :: wr).map V.str)) ∧ But d H H' ∧ Dr PM d (n + 1 + 12 * i + 2 + j) H') ⟨"", _, rfl, rfl, (fun _ h => nomatch h), b6 _ _ nf (b4 _ _ nf (s3 _ _ ef)), ((b2.trans (But.of s3)).trans b4).trans b6, dr6.mono (by omega)⟩ ?_ ?_
          · rintro j σ H7 hj ⟨z, w6', rfl, hz, hc, ef7, b7, dr7⟩
            refine ⟨_, rfl, _, rfl, d, 26, _, rfl, by decide, log_tiny (by decide) (by decide), dr7, by omega, fun H8 r8 u8 c8 b8 dr8 => ?_⟩
            obtain ⟨c, hc8, hl8⟩ := az_at u8 c8
            refine ⟨_, _, c, rfl, rfl, (by decide +kernel), hc8, ?_⟩
            refine ⟨_, _, rfl, rfl, ?_, z ++ ⟨#[c]⟩, _, rfl, ?_, ?_, b8 _ _ nf ef7, b7.trans b8, dr8.mono (by omega)⟩
            · exact Nat.le_trans (show z.length + 1 ≤ 10 by omega) (by decide)
            · rw [Str.length_append, hz]
              rfl
            · exact low_snoc hc hl8
          · rintro σ H7 ⟨z, w6', rfl, hz, hc, ef7, b7, dr7⟩
            exact ⟨z, _, rfl, ⟨by omega, hc⟩, ef7, b7, dr7.mono (by omega)⟩
    · rintro σ' H3 ⟨z, w6', rfl, hz, ef3, b3, dr3⟩
      refine ⟨_, rfl, .inl ⟨rfl, _, SqL.of ef3⟩, _, rfl, _, rfl, _, rfl, _, _, rfl, rfl, .inl ⟨?_, ?_⟩, _, _, rfl, rfl, _, _, rfl, rfl, (by show (0 : Int) < 26; decide), ?_⟩
      · decide
      · have e64 : (2 : Int) ^ 64 = 18446744073709551616 := by decide
        rw [e64]
        omega
      have m0 := Int.emod_nonneg (first + 3 * (0 + (i : Int))) (by decide : (26 : Int) ≠ 0)
      have m1 := Int.emod_lt_of_pos (first + 3 * (0 + (i : Int))) (by decide : (0 : Int) < 26)
      obtain ⟨c, hcc, hc8, hl8⟩ : ∃ c, c = 97 + ((first + 3 * (0 + (i : Int))) % 26).toNat ∧ atI ("abcdefghijklmnopqrstuvwxyz" : Str).cps.toList ((first + 3 * (0 + (i : Int))) % 26) = some c ∧ lower c = true := ⟨_, rfl, az_is m0 m1, low_of (by omega)⟩
      refine ⟨_, _, c, rfl, rfl, (by decide +kernel), hc8, _, _, rfl, rfl, Nat.le_trans (show z.length + 1 ≤ 10 by have := hz.1; omega) (by decide), ?_⟩
      refine ⟨f, _, _, rfl, rfl, ef3, Nat.lt_of_le_of_lt (by rw [List.length_map, hl]; omega : (ws.map V.str).length ≤ 4) (by decide), ?_⟩
      refine ⟨_, _, _, ws ++ [z ++ ⟨#[c]⟩], rfl, ?_, ?_, ?_, ?_, ?_⟩
      · rw [List.map_append]
        exact upd_same
      · rw [List.length_append, hl]
        rfl
      · refine ⟨fun y hy => ?_, fun k y hy => ?_⟩
        · rcases List.mem_append.mp hy with h | h
          · exact hw.1 y h
          · rw [List.mem_singleton.mp h]
            exact nm_snoc hz hl8
        · by_cases hk : k < ws.length
          · rw [List.getElem?_append_left hk] at hy
            exact hw.2 k y hy
          · rw [List.getElem?_append_right (by omega)] at hy
            have := (List.getElem?_eq_some_iff.mp hy).1
            rw [List.length_singleton] at this
            have e : k = i := by omega
            subst e
            rw [hl, Nat.sub_self] at hy
            have hy : z ++ (⟨#[c]⟩ : Str) = y := Option.some.inj hy
            exact ⟨z, by rw [← hy, hcc]⟩
      · exact b3.mut hf
      · exact (dr3.mono (by omega)).upd nf
  · rintro σ H2 ⟨w4, w5, w6, ws, rfl, ef, hl, hw, b2, dr2⟩
    match ws, hl with
    | [w0, w1, w2, w3], _ =>
      refine ⟨_, rfl, q H2 f w0 w1 w2 w3 hf ef (hw.1 _ (by simp)) (hw.1 _ (by simp)) (hw.1 _ (by simp)) (hw.1 _ (by simp)) (wd_ne hw) b2 (dr2.mono (by omega))⟩
end
end KB
namespace KB
open PySem PySem.Spec PyProof.Rows L2 KA
section
variable {P : Program} {w : World} {K : PySem.W.Frag} {mg : Str → Option Value} {base : Heap}
theorem rl_eq (u v : Rl) : (u = v) ↔ (u.lo = v.lo ∧ u.hi = v.hi ∧ u.far = v.far ∧ u.shd = v.shd) := by
  obtain ⟨a, b, c, d⟩ := u
  obtain ⟨a', b', c', d'⟩ := v
  simp
instance : DecidableEq Rl := fun u v => decidable_of_iff _ (rl_eq u v).symm
def spREq (C : Addr) : Sp := fun vs H Q _ => ∃ (a b : Addr) (u u' : Rl), vs = [.ref a, .ref b] ∧ RuleAt C H a u ∧ RuleAt C H b u' ∧ Q (.bl (decide (u = u'))) H
theorem ok_Rule_eq (T : Tx K mg) : FnOk P w K mg base CX0 1 T.A_Rule_eq T.fd_Rule_eq ["self", "other"] (spREq T.C_Rule) := by
  refine T.F_Rule_eq.ok sc_Rule_eq (fun vs H Q E h => ?_) (fun cdv A outer s H vs Q E hr h => ?_)
  · obtain ⟨a, b, u, u', rfl, ⟨dx, ha⟩, ⟨dy, hb⟩, q⟩ := h
    rfl
  obtain ⟨a, b, u, u', rfl, ⟨dx, ha⟩, ⟨dy, hb⟩, q⟩ := h
  refine ⟨_, (pss_one (ps_ret (pe_and (pe_callB call_isi (by rfl) T.z_isinstance (by decide +kernel) (pa_cons (pv 1) (pa_cons (pe_glob (v := .ref T.C_Rule) (by rfl) T.g_Rule rfl) pa_nil))) (pe_and (pe_cmpR op_eq (pe_fld (pv 0) rfl) (pe_fld (pv 1) rfl) (nomark _)) (pe_and (pe_cmpR op_eq (pe_fld (pv 0) rfl) (pe_fld (pv 1) rfl) (nomark _)) (pe_and (pe_cmpR op_eq (pe_fld (pv 0) rfl) (pe_fld (pv 1) rfl) (nomark _)) (pe_one (pe_cmpR op_eq (pe_fld (pv 0) rfl) (pe_fld (pv 1) rfl) (nomark _))))))))), ?_⟩
  refine ⟨_, rfl, .ref b, .ref T.C_Rule, .ref T.C_Rule, .ref T.C_Rule, true, rfl, .own _, T.ic_Rule.ty T.cl_Rule hb, T.i_Rule, _, rfl, ?_⟩
  refine iteT ⟨_, rfl, a, _, dx, _, _, rfl, ha, T.cl_Rule, T.n_Rule_least, uf_least u, _, rfl, b, _, dy, _, _, rfl, hb, T.cl_Rule, T.n_Rule_least, uf_least u', rfl, _, rfl, ?_⟩
  rw [dec_int]
  by_cases h1 : u.lo = u'.lo
  · rw [decide_eq_true h1]
    refine iteT ⟨_, rfl, a, _, dx, _, _, rfl, ha, T.cl_Rule, T.n_Rule_most, uf_most u, _, rfl, b, _, dy, _, _, rfl, hb, T.cl_Rule, T.n_Rule_most, uf_most u', rfl, _, rfl, ?_⟩
    rw [dec_int]
    by_cases h2 : u.hi = u'.hi
    · rw [decide_eq_true h2]
      refine iteT ⟨_, rfl, a, _, dx, _, _, rfl, ha, T.cl_Rule, T.n_Rule_match, uf_match u, _, rfl, b, _, dy, _, _, rfl, hb, T.cl_Rule, T.n_Rule_match, uf_match u', rfl, _, rfl, ?_⟩
      rw [dec_int]
      by_cases h3 : u.far = u'.far
      · rw [decide_eq_true h3]
        refine iteT ⟨_, rfl, a, _, dx, _, _, rfl, ha, T.cl_Rule, T.n_Rule_shades, uf_shades u, _, rfl, b, _, dy, _, _, rfl, hb, T.cl_Rule, T.n_Rule_shades, uf_shades u', rfl, ?_⟩
        rw [dec_bl]
        have : decide (u = u') = decide (u.shd = u'.shd) := by
          rw [decide_eq_decide, rl_eq]
          exact ⟨fun h => h.2.2.2, fun h => ⟨h1, h2, h3, h⟩⟩
        rw [this] at q
        exact q
      · rw [decide_eq_false h3]
        rw [decide_eq_false (show ¬ u = u' from fun e => h3 (by rw [e]))] at q
        exact iteF q
    · rw [decide_eq_false h2]
      rw [decide_eq_false (show ¬ u = u' from fun e => h2 (by rw [e]))] at q
      exact iteF q
  · rw [decide_eq_false h1]
    rw [decide_eq_false (show ¬ u = u' from fun e => h1 (by rw [e]))] at q
    exact iteF q
/-- a string: its row at t, its rule at m -/
def sf (t m : Addr) : List (Str × V) := putF "rule" (.ref m) (putF "held" (.ref t) [])
theorem sf_held (t m : Addr) : (sf t m).lookup ("held" : Str) = some (.ref t) := by
  unfold sf
  rw [lookup_putF, if_neg (by decide +kernel), lookup_putF, if_pos rfl]
theorem sf_rule (t m : Addr) : (sf t m).lookup ("rule" : Str) = some (.ref m) := by
  unfold sf
  rw [lookup_putF, if_pos rfl]
theorem sf_no (t m : Addr) {x : Str} (h1 : ¬ x = "rule") (h2 : ¬ x = "held") : (sf t m).lookup x = none := by
  unfold sf
  rw [lookup_putF, if_neg h1, lookup_putF, if_neg h2]
  rfl
def StrAt (C : Addr) (H : Hp) (s t m : Addr) : Prop := ∃ dx, H s = some (.ins C dx (sf t m))
/-- the string at s has the places rs and the rule u -/
structure SV (CB CR C : Addr) (H : Hp) (s : Addr) (rs : List (Option Rw)) (u : Rl) : Prop where
  ex : ∃ (t m : Addr) (xs : List V), StrAt C H s t m ∧ H t = some (.tup xs) ∧ Bds CB H xs rs ∧ RuleAt CR H m u
theorem SV.same {CB CR C : Addr} {H H' : Hp} {s : Addr} {rs : List (Option Rw)} {u : Rl} (h : SV CB CR C H s rs u) (z : Same H H') : SV CB CR C H' s rs u := by
  obtain ⟨t, m, xs, ⟨dx, h1⟩, h2, h3, dm, h4⟩ := h.ex
  exact ⟨t, m, xs, ⟨dx, z _ _ h1⟩, z _ _ h2, h3.same (NL.of z), dm, z _ _ h4⟩
/-- at most one place holds a bead -/
def One (rs : List (Option Rw)) : Prop := ∀ (i j : Nat) (r s : Rw), rs[i]? = some (some r) → rs[j]? = some (some s) → i = j
theorem One.rev {rs : List (Option Rw)} (h : One rs) : One rs.reverse := by
  intro i j r s h1 h2
  have li : i < rs.length := by
    have := (List.getElem?_eq_some_iff.mp h1).1
    rwa [List.length_reverse] at this
  have lj : j < rs.length := by
    have := (List.getElem?_eq_some_iff.mp h2).1
    rwa [List.length_reverse] at this
  rw [List.getElem?_reverse li] at h1
  rw [List.getElem?_reverse lj] at h2
  have := h _ _ _ _ h1 h2
  omega
theorem one_reason {rs : List (Option Rw)} (h : One rs) {u : Rl} (hu : 0 ≤ u.far) {i : Nat} {r : Rw} (hi : rs[i]? = some (some r)) : reason rs u i r = .non := by
  have li := (List.getElem?_eq_some_iff.mp hi).1
  have t : twice rs i r.num = false := by
    unfold twice
    rw [List.any_eq_false]
    intro o ho
    obtain ⟨j, hj, e⟩ := List.getElem_of_mem ho
    rw [List.length_take] at hj
    rw [List.getElem_take] at e
    cases o with
    | none => simp [isNum]
    | some s =>
      have := h i j r s hi (by rw [List.getElem?_eq_getElem (by omega), e])
      omega
  have s : stepBars rs u i r = false := by
    unfold stepBars
    by_cases c : i = 0 ∨ 2 * i = rs.length
    · rw [if_pos c]
    · rw [if_neg c]
      cases e : rs[i - 1]? with
      | none => rfl
      | some o => cases o with
        | none => rfl
        | some q =>
          have := h i (i - 1) r q hi e
          omega
  unfold reason
  rw [t, s, if_neg (by decide), if_neg (by decide)]
  unfold partner
  by_cases c : 2 * i < rs.length
  · rw [if_pos c]
  · rw [if_neg c]
    cases e : rs[rs.length - 1 - i]? with
    | none => rfl
    | some o => cases o with
      | none => rfl
      | some q =>
        have z := h i _ r q hi e
        rw [← z, hi] at e
        obtain rfl := Option.some.inj (Option.some.inj e)
        have ap : apart r.ac r.ac = 0 := by
          unfold apart
          rw [if_neg (by omega)]
          omega
        have lk : look r r = true := by
          unfold look
          simp
        show (if u.far < apart r.ac r.ac then _ else if (u.shd && !look r r) = true then _ else _) = V.non
        rw [ap, lk, if_neg (by omega), if_neg (by simp)]
theorem one_bar {rs : List (Option Rw)} (h : One rs) {u : Rl} (hu : 0 ≤ u.far) : bar rs u = none := by
  unfold bar
  have all : ∀ k i, barFrom rs u k i = none := by
    intro k
    induction k with
    | zero => exact fun i => rfl
    | succ k ih =>
      intro i
      cases e : rs[i]? with
      | none =>
        show (match rs[i]? with | some (some r) => _ | _ => _) = _
        rw [e]
        exact ih _
      | some o => cases o with
        | none => rw [barFrom_gap e]; exact ih _
        | some r => rw [barFrom_ok e (one_reason h hu e)]; exact ih _
  exact all _ _
def spString (K : PySem.W.Frag) (CB CR C : Addr) : Sp := fun vs H Q _ => ∃ (s dx b m : Addr) (xs : List V) (rs : List (Option Rw)) (u : Rl), vs = [.ref s, .ref b, .ref m] ∧ H s = some (.ins C dx []) ∧ SqL K H b xs ∧ Bds CB H xs rs ∧ RuleAt CR H m u ∧ rs.length ≤ 1000 ∧ bar rs u = none ∧
  ∀ (H' : Hp) (t : Addr), StrAt C H' s t m → H' t = some (.tup xs) → (∀ b o, H b = some o → b ≠ s → H' b = some o) → Q .non H'
theorem ok_String_init (T : Tx K mg) : FnOk P w K mg base CX0 4 T.A_String_init T.fd_String_init ["self", "beads", "rule"] (spString K T.C_Bead T.C_Rule T.C_String) := by
  refine T.F_String_init.ok sc_String_init (fun vs H Q E h => ?_) (fun cdv A outer s H vs Q E hr h => ?_)
  · obtain ⟨s, dx, b, m, xs, rs, u, rfl, hs, hS, hB, hM, hl, hbar, q⟩ := h
    rfl
  obtain ⟨s, dx, b, m, xs, rs, u, rfl, hs, hS, hB, hM, hl, hbar, q⟩ := h
  refine ⟨_, (pss_cons (ps_set (i := 3) sc_String_init.nd rfl (Or.inl rfl) (pe_call (ok_barred T) (hr.mono (by decide)) (by rfl) T.g_barred T.F_barred.kp T.b_barred .nil pass0 (pa_cons (pv 1) (pa_cons (pv 2) pa_nil))))
      (pss_cons (ps_if (pt_cmpR op_notN (pv 3) pe_non (nomark _)) (pss_one ps_never) pss_nil)
      (pss_cons (ps_fld (pv 0) (pe_callTy call_tuple_of (by rfl) T.z_tuple (by decide +kernel) (pa_cons (pv 1) pa_nil)) rfl)
      (pss_one (ps_fld (pv 0) (pv 2) rfl))))), ?_⟩
  refine ⟨_, rfl, _, rfl, b, m, xs, rs, u, rfl, hS, hB, hM, hl, fun H1 v s1 hv => ?_⟩
  rw [hbar] at hv
  have hv : v = .non := hv
  subst hv
  refine ⟨_, rfl, rfl, _, rfl, iteF ?_⟩
  refine ⟨_, rfl, b, xs, rfl, .inl ⟨s1.seq hS, fun t ht => ?_⟩⟩
  have z := same_upd ht (o := .tup xs)
  have nts : t ≠ s := fun e => by
    have := s1 _ _ hs
    rw [← e, ht] at this
    cases this
  refine ⟨_, rfl, s, _, dx, _, rfl, z _ _ (s1 _ _ hs), T.cl_String, T.n_String_held, by decide, ?_⟩
  refine ⟨_, rfl, _, rfl, s, _, dx, _, rfl, upd_same, T.cl_String, T.n_String_rule, Nat.lt_of_le_of_lt (few few0) (by decide), ?_⟩
  refine q _ t ⟨dx, upd_same⟩ ?_ fun b o e hb => ?_
  · rw [upd_ne nts, upd_ne nts]
    exact upd_same
  · rw [upd_ne hb, upd_ne hb]
    exact z _ _ (s1 _ _ e)
def spSBeads (K : PySem.W.Frag) (CB C : Addr) : Sp := fun vs H Q _ => ∃ (s t m : Addr) (xs : List V), vs = [.ref s] ∧ StrAt C H s t m ∧ H t = some (.tup xs) ∧ ∀ l, H l = none → Q (.ref l) (upd H l (.lst xs))
theorem ok_String_beads (T : Tx K mg) : FnOk P w K mg base CX0 1 T.A_String_beads T.fd_String_beads ["self"] (spSBeads K T.C_Bead T.C_String) := by
  refine T.F_String_beads.ok sc_String_beads (fun vs H Q E h => ?_) (fun cdv A outer s H vs Q E hr h => ?_)
  · obtain ⟨s, t, m, xs, rfl, ⟨dx, hs⟩, ht, q⟩ := h
    rfl
  obtain ⟨s, t, m, xs, rfl, ⟨dx, hs⟩, ht, q⟩ := h
  refine ⟨_, (pss_one (ps_ret (pe_callTy call_list_of (by rfl) T.z_list (by decide +kernel) (pa_cons (pe_fld (pv 0) rfl) pa_nil)))), ?_⟩
  exact ⟨_, rfl, s, _, dx, _, _, rfl, hs, T.cl_String, T.n_String_held, sf_held t m, t, xs, rfl, .inr (.inl (.inl ht)), fun l hl => q l hl⟩
def spLen (C : Addr) (CB CR : Addr) : Sp := fun vs H Q _ => ∃ (s : Addr) (rs : List (Option Rw)) (u : Rl), vs = [.ref s] ∧ SV CB CR C H s rs u ∧ rs.length ≤ 1000 ∧ Q (.int (rs.length : Nat)) H
theorem ok_String_len (T : Tx K mg) : FnOk P w K mg base CX0 1 T.A_String_len T.fd_String_len ["self"] (spLen T.C_String T.C_Bead T.C_Rule) := by
  refine T.F_String_len.ok sc_String_len (fun vs H Q E h => ?_) (fun cdv A outer s H vs Q E hr h => ?_)
  · obtain ⟨s, rs, u, rfl, hs, hl, q⟩ := h
    rfl
  obtain ⟨s, rs, u, rfl, hs, hl, q⟩ := h
  refine ⟨_, (pss_one (ps_ret (pe_callB call_len_seq (by rfl) T.z_len PySem.boot_len (pa_cons (pe_fld (pv 0) rfl) pa_nil)))), ?_⟩
  obtain ⟨t, m, xs, ⟨dx, h1⟩, h2, h3, dm, h4⟩ := hs.ex
  refine ⟨_, rfl, s, _, dx, _, _, rfl, h1, T.cl_String, T.n_String_held, sf_held t m, t, xs, rfl, .inr (.inl (.inl h2)), ?_⟩
  rw [h3.len]
  exact q
theorem Bds.rev {C : Addr} {H : Hp} {vs : List V} {rs : List (Option Rw)} (h : Bds C H vs rs) : Bds C H vs.reverse rs.reverse := by
  refine ⟨by rw [List.length_reverse, List.length_reverse]; exact h.len, ?_⟩
  intro i v hv
  have hi : i < vs.length := by
    have := (List.getElem?_eq_some_iff.mp hv).1
    rwa [List.length_reverse] at this
  rw [List.getElem?_reverse hi] at hv
  obtain ⟨o, h1, h2⟩ := h.at_ _ v hv
  refine ⟨o, ?_, h2⟩
  rw [List.getElem?_reverse (by rw [← h.len]; exact hi), ← h.len]
  exact h1
def spTurned (K : PySem.W.Frag) (CB CR C : Addr) : Sp := fun vs H Q _ => ∃ (s : Addr) (rs : List (Option Rw)) (u : Rl), vs = [.ref s] ∧ SV CB CR C H s rs u ∧ rs.length ≤ 1000 ∧ bar rs.reverse u = none ∧
  ∀ (H' : Hp) (s' : Addr), Same H H' → H s' = none → SV CB CR C H' s' rs.reverse u → Q (.ref s') H'
theorem ok_String_turned (T : Tx K mg) : FnOk P w K mg base CX0 6 T.A_String_turned T.fd_String_turned ["self"] (spTurned K T.C_Bead T.C_Rule T.C_String) := by
  refine T.F_String_turned.ok sc_String_turned (fun vs H Q E h => ?_) (fun cdv A outer s H vs Q E hr h => ?_)
  · obtain ⟨s, rs, u, rfl, hsv, hl, hbar, q⟩ := h
    rfl
  obtain ⟨s, rs, u, rfl, hsv, hl, hbar, q⟩ := h
  refine ⟨_, (pss_one (ps_ret (pe_make T.mk_String (ok_String_init T) (hr.mono (by decide)) (by rfl) T.g_String T.b_String_init .nil pass0 (pa_cons (pe_callTy call_list_of (by rfl) T.z_list (by decide +kernel) (pa_cons (pe_revT (pe_fld (pv 0) rfl)) pa_nil)) (pa_cons (pe_fld (pv 0) rfl) pa_nil))))), ?_⟩
  obtain ⟨t, m, xs, ⟨dx, hs⟩, ht, hB, hM⟩ := hsv.ex
  refine ⟨_, rfl, s, _, dx, _, _, rfl, hs, T.cl_String, T.n_String_held, sf_held t m, t, xs, rfl, .inl (.inl ht), fun t2 ht2 => ?_⟩
  have z1 := same_upd ht2 (o := .tup xs.reverse)
  refine ⟨t2, _, rfl, .inr (.inl (.inl upd_same)), fun l hl' => ?_⟩
  have z2 := same_upd hl' (o := .lst xs.reverse)
  have z12 := z1.trans z2
  refine ⟨_, rfl, s, _, dx, _, _, rfl, z12 _ _ hs, T.cl_String, T.n_String_rule, sf_rule t m, ?_⟩
  intro x dx2 h1 h2 h3
  have z3 : Same (upd (upd H t2 (.tup xs.reverse)) l (.lst xs.reverse)) (upd (upd (upd (upd H t2 (.tup xs.reverse)) l (.lst xs.reverse)) dx2 (.own x)) x (.ins T.C_String dx2 [])) := fun b o e => by
    rw [upd_ne (ne_of_none e h1), upd_ne (ne_of_none e h2)]
    exact e
  obtain ⟨dm, hM'⟩ := hM
  refine ⟨x, dx2, l, m, xs.reverse, rs.reverse, u, rfl, upd_same, SqL.of (z3 _ _ upd_same), (hB.same (NL.of (z12.trans z3))).rev, ⟨dm, (z12.trans z3) _ _ hM'⟩, by rw [List.length_reverse]; exact hl, hbar, fun H' t3 hs3 ht3 k => ⟨rfl, ?_⟩⟩
  have zz : Same H H' := fun b o e => k b o ((z12.trans z3) _ _ e) (ne_of_none (z12 _ _ e) h1)
  exact q H' x zz (z12.free h1) ⟨t3, m, _, hs3, ht3, (hB.same (NL.of zz)).rev, dm, zz _ _ hM'⟩
end
end KB
namespace KB
open PySem PySem.Spec PyProof.Rows L2 KA
section
variable {P : Program} {w : World} {K : PySem.W.Frag} {mg : Str → Option Value} {base : Heap}
def DHeld (K : PySem.W.Frag) (C : Addr) : BEq2 := fun x y b H => BOwn K C (RB K C) x y b H ∨ BFlat x y b H
theorem monB_held {K : PySem.W.Frag} {C : Addr} : MonB (DHeld K C) := (monB_own rb_mon).or monB_flat
theorem eqB_held {X : Cx} (T : Tx X.K X.mg) : EqB X 1 (DHeld X.K T.C_Bead) :=
  (eqB_own (E := E0) (ok_Bead_eq (P := X.prog) (w := X.w) (base := X.base) T) T.m_Bead_eq.at_ T.m_Bead_eq.fn T.b_Bead_eq pass0 T.sn_NoneType).or (eqB_flat.mono (Nat.zero_le _))
/-- two places of rows, side by side -/
def sameO (o o' : Option Rw) : Bool := match o, o' with
  | none, none => true
  | some r, some r' => likeRw r r'
  | _, _ => false
theorem sameO_refl (o : Option Rw) : sameO o o = true := by
  cases o with
  | none => rfl
  | some r => exact like_refl r
theorem held_at {K : PySem.W.Frag} {mg : Str → Option Value} (T : Tx K mg) {H : Hp} {x y : V} {o o' : Option Rw} (hx : BV T.C_Bead H x o) (hy : BV T.C_Bead H y o') : DHeld K T.C_Bead x y (sameO o o') H := by
  rcases hx with ⟨rfl, rfl⟩ | ⟨p, r, rfl, rfl, hp⟩
  · rcases hy with ⟨rfl, rfl⟩ | ⟨p', r', rfl, rfl, hp'⟩
    · exact .inr ⟨rfl, rfl, rfl⟩
    · obtain ⟨dx, h⟩ := id hp'
      exact .inl (.inr ⟨p', dx, _, rfl, rfl, h, r', hp', .inr ⟨"NoneType", by decide, .base .non, rfl⟩⟩)
  · obtain ⟨dx, h⟩ := id hp
    rcases hy with ⟨rfl, rfl⟩ | ⟨p', r', rfl, rfl, hp'⟩
    · exact .inl (.inl ⟨p, dx, _, _, rfl, h, .base .non, T.nf_NoneType, ⟨r, hp, .inr ⟨"NoneType", by decide, .base .non, rfl⟩⟩, fun e => by cases e⟩)
    · obtain ⟨dx', h'⟩ := id hp'
      have same : V.ref p' = V.ref p → likeRw r r' = true := fun e => by
        injection e with e
        subst e
        have e2 := Option.some.inj (h.symm.trans h')
        injection e2 with _ _ e3
        have a1 := bf_across r
        have a2 := bf_weight r
        have a3 := bf_shade r
        have a4 := bf_form r
        have a5 := bf_drilled r
        rw [e3] at a1 a2 a3 a4 a5
        rw [bf_across] at a1
        rw [bf_weight] at a2
        rw [bf_shade] at a3
        rw [bf_form] at a4
        rw [bf_drilled] at a5
        injection a1 with a1
        injection a1 with a1
        injection a2 with a2
        injection a2 with a2
        injection a3 with a3
        injection a3 with a3
        injection a4 with a4
        injection a4 with a4
        injection a5 with a5
        injection a5 with a5
        unfold likeRw
        rw [a1, a2, a3, a4, a5]
        simp
      exact .inl (.inl ⟨p, dx, _, _, rfl, h, T.ic_Bead.ty T.cl_Bead h', by simp [PySem.W.notFirst], ⟨r, hp, .inl ⟨p', r', rfl, hp', rfl⟩⟩, same⟩)
def likeL (rs ss : List (Option Rw)) : Bool := decide (rs.length = ss.length) && allF rs.length fun i => sameO (rs.getD i none) (ss.getD i none)
theorem held_tup {K : PySem.W.Frag} {mg : Str → Option Value} (T : Tx K mg) {H : Hp} {t t' : Addr} {xs ys : List V} {rs ss : List (Option Rw)} (ht : H t = some (.tup xs)) (ht' : H t' = some (.tup ys)) (hx : Bds T.C_Bead H xs rs) (hy : Bds T.C_Bead H ys ss) : BTup K (DHeld K T.C_Bead) (.ref t) (.ref t') (likeL rs ss) H := by
  refine ⟨t, t', xs, ys, fun i => sameO (rs.getD i none) (ss.getD i none), rfl, rfl, .inl (.inl ht), .inl (.inl ht'), fun i x y h1 h2 => ?_, ?_⟩
  · obtain ⟨o, ho, bx⟩ := hx.at_ i x h1
    obtain ⟨o', ho', b_y⟩ := hy.at_ i y h2
    have e1 : rs.getD i none = o := by rw [List.getD_eq_getElem?_getD, ho]; rfl
    have e2 : ss.getD i none = o' := by rw [List.getD_eq_getElem?_getD, ho']; rfl
    show DHeld K T.C_Bead x y (sameO (rs.getD i none) (ss.getD i none)) H
    rw [e1, e2]
    exact held_at T bx b_y
  · unfold likeL
    rw [hx.len, hy.len]
/-- what == answers for two strings -/
def likeSt (rs ss : List (Option Rw)) (u v : Rl) : Bool := decide (u = v) && (likeL rs ss || likeL rs ss.reverse)
theorem noS6 {K : PySem.W.Frag} {mg : Str → Option Value} (T : Tx K mg) {t : String} (h : t ∈ six6) : PySem.W.kitOne K (.type t) (.ref T.C_String) = some false := by
  unfold six6 at h
  simp only [List.mem_cons, List.not_mem_nil, or_false] at h
  rcases h with rfl | rfl | rfl | rfl | rfl | rfl
  · exact T.noS_int
  · exact T.noS_str
  · exact T.noS_bool
  · exact T.noS_NoneType
  · exact T.noS_list
  · exact T.noS_tuple
theorem nfS6 {K : PySem.W.Frag} {mg : Str → Option Value} (T : Tx K mg) {t : String} (h : t ∈ six6) : PySem.W.notFirst K T.C_String (.type t) = true := by
  unfold six6 at h
  simp only [List.mem_cons, List.not_mem_nil, or_false] at h
  rcases h with rfl | rfl | rfl | rfl | rfl | rfl
  · exact T.nfS_int
  · exact T.nfS_str
  · exact T.nfS_bool
  · exact T.nfS_NoneType
  · exact T.nfS_list
  · exact T.nfS_tuple
def RSt (K : PySem.W.Frag) (CB CR C : Addr) : Addr → V → Bool → Hp → Prop := fun a y b H => ∃ rs u, SV CB CR C H a rs u ∧ ((∃ s2 ss v, y = .ref s2 ∧ SV CB CR C H s2 ss v ∧ b = likeSt rs ss u v) ∨ (∃ t, t ∈ six6 ∧ TyX K H y (.type t) ∧ b = false))
theorem ok_String_eq (T : Tx K mg) : FnOk P w K mg base CX0 4 T.A_String_eq T.fd_String_eq ["self", "other"] (spEqO (RSt K T.C_Bead T.C_Rule T.C_String)) := by
  refine T.F_String_eq.ok sc_String_eq (fun vs H Q E h => ?_) (fun cdv A outer s H vs Q E hr h => ?_)
  · obtain ⟨s1, y, b, rfl, ⟨rs, u, S1, hy⟩, q⟩ := h
    rfl
  obtain ⟨s1, y, b, rfl, ⟨rs, u, S1, hy⟩, q⟩ := h
  refine ⟨_, (pss_one (ps_ret (pe_and (pe_callB call_isi (by rfl) T.z_isinstance (by decide +kernel) (pa_cons (pv 1) (pa_cons (pe_glob (v := .ref T.C_String) (by rfl) T.g_String rfl) pa_nil))) (pe_and (pe_cmpR (op_own (E := E0) (ok_Rule_eq T) T.m_Rule_eq.at_ T.m_Rule_eq.fn T.b_Rule_eq pass0 (hr.mono (by decide))) (pe_fld (pv 0) rfl) (pe_fld (pv 1) rfl) (nomark _)) (pe_one (pe_or (pe_cmpR (op_eqB (rcB_tup false monB_held (eqB_held T)) (hr.mono (by decide))) (pe_fld (pv 0) rfl) (pe_fld (pv 1) rfl) (nomark _)) (pe_one (pe_cmpR (op_eqB (rcB_tup false monB_held (eqB_held T)) (hr.mono (by decide))) (pe_fld (pv 0) rfl) (pe_revT (pe_fld (pv 1) rfl)) (nomark _))))))))), ?_⟩
  rcases hy with ⟨s2, ss, v, rfl, S2, rfl⟩ | ⟨t, ht, ty, rfl⟩
  rotate_left
  · obtain ⟨t1, m1, xs, ⟨d1, h1⟩, _⟩ := S1.ex
    exact ⟨_, rfl, y, .ref T.C_String, .type t, .ref T.C_String, false, rfl, .own _, ty, noS6 T ht, _, rfl, iteF (q H Ext.rfl')⟩
  obtain ⟨t1, m1, xs, ⟨d1, h1⟩, ht1, hx, dm1, hm1⟩ := S1.ex
  obtain ⟨t2, m2, ys, ⟨d2, h2⟩, ht2, hy, dm2, hm2⟩ := S2.ex
  refine ⟨_, rfl, .ref s2, .ref T.C_String, .ref T.C_String, .ref T.C_String, true, rfl, .own _, T.ic_String.ty T.cl_String h2, T.i_String, _, rfl, iteT ?_⟩
  refine ⟨_, rfl, s1, _, d1, _, _, rfl, h1, T.cl_String, T.n_String_rule, sf_rule t1 m1, _, rfl, s2, _, d2, _, _, rfl, h2, T.cl_String, T.n_String_rule, sf_rule t2 m2, m1, dm1, _, .ref T.C_Rule, rfl, hm1, T.ic_Rule.ty T.cl_Rule hm2, by simp [PySem.W.notFirst], m1, m2, u, v, rfl, ⟨dm1, hm1⟩, ⟨dm2, hm2⟩, ⟨_, rfl⟩, _, rfl, ?_⟩
  unfold likeSt at q
  by_cases huv : u = v
  · rw [decide_eq_true huv] at q ⊢
    rw [Bool.true_and] at q
    refine iteT ?_
    refine ⟨_, rfl, s1, _, d1, _, _, rfl, h1, T.cl_String, T.n_String_held, sf_held t1 m1, _, rfl, s2, _, d2, _, _, rfl, h2, T.cl_String, T.n_String_held, sf_held t2 m2, _, held_tup T ht1 ht2 hx hy, fun H1 e1 => ⟨_, rfl, ?_⟩⟩
    cases hb : likeL rs ss with
    | true =>
      rw [hb, Bool.true_or] at q
      exact iteT (q H1 e1)
    | false =>
      rw [hb, Bool.false_or] at q
      refine iteF ?_
      refine ⟨_, rfl, s1, _, d1, _, _, rfl, e1 _ _ h1, T.cl_String, T.n_String_held, sf_held t1 m1, _, rfl, s2, _, d2, _, _, rfl, e1 _ _ h2, T.cl_String, T.n_String_held, sf_held t2 m2, t2, ys, rfl, .inl (.inl (e1 _ _ ht2)), fun t3 ht3 => ?_⟩
      have z := same_upd ht3 (o := .tup ys.reverse)
      have z2 : Same H _ := Same.trans e1 z
      refine ⟨_, held_tup T (z2 _ _ ht1) upd_same (hx.same (NL.of z2)) (hy.same (NL.of z2)).rev, fun H3 e3 => ?_⟩
      rw [Bool.false_xor]
      exact q H3 (z2.trans e3)
  · rw [decide_eq_false huv] at q ⊢
    rw [Bool.false_and] at q
    exact iteF (q H Ext.rfl')
end
end KB
namespace KB
open PySem PySem.Spec PyProof.Rows L2 KA
section
variable {P : Program} {w : World} {K : PySem.W.Frag} {mg : Str → Option Value} {base : Heap}
def flatG (gs : List Str) : List Nat := (gs.reverse.map TL.tl).flatten
theorem flat_snoc (gs : List Str) (z : Str) : flatG (gs ++ [z]) = TL.tl z ++ flatG gs := by
  unfold flatG
  rw [List.reverse_append]
  rfl
theorem flat_len {gs : List Str} (h : ∀ z ∈ gs, z.length = 60) : (flatG gs).length = 60 * gs.length := by
  induction gs with
  | nil => rfl
  | cons a r ih =>
    have e : flatG (a :: r) = flatG r ++ TL.tl a := by
      unfold flatG
      rw [List.reverse_cons, List.map_append, List.flatten_append]
      simp
    rw [e, List.length_append, ih (fun z hz => h z (List.mem_cons_of_mem _ hz)), ← TL.len_tl, h a (List.mem_cons_self ..), List.length_cons]
    omega
theorem joinL_nil : ∀ L : List (List Nat), TL.joinL [] L = L.flatten
  | [] => rfl
  | [a] => by simp [TL.joinL]
  | a :: b :: r => by
    show a ++ ([] ++ TL.joinL [] (b :: r)) = _
    rw [joinL_nil (b :: r)]
    rfl
theorem tl_neg {n : Int} (h : n < 0) : TL.tl (Str.ofString (toString n)) = 45 :: TL.numL n.natAbs := by
  cases n with
  | ofNat m => exact absurd h (by have : (0 : Int) ≤ Int.ofNat m := Int.natCast_nonneg m; omega)
  | negSucc m =>
    have e : toString (Int.negSucc m) = "-" ++ toString (m + 1) := rfl
    have e2 := TL.tl_num (m + 1)
    rw [TL.tl_ofString] at e2
    rw [e, TL.tl_ofString, String.toList_append, List.map_append]
    show [45] ++ _ = _
    rw [show (toString (m + 1)).toList.map Char.toNat = TL.numL (m + 1) from e2]
    rfl
theorem tl_pos {n : Int} (h : 0 ≤ n) : TL.tl (Str.ofString (toString n)) = TL.numL n.natAbs := by
  obtain ⟨m, rfl⟩ : ∃ m : Nat, n = (m : Int) := ⟨n.toNat, by omega⟩
  rw [TL.tl_num, Int.natAbs_natCast]
theorem sum_le {m : Nat} : ∀ {ys : List Str}, (∀ z ∈ ys, z.length ≤ m) → (ys.map (·.length)).sum ≤ m * ys.length
  | [], _ => Nat.le_refl _
  | a :: r, h => by
    have h1 := sum_le (ys := r) fun z hz => h z (List.mem_cons_of_mem _ hz)
    have h2 := h a (List.mem_cons_self ..)
    have e : ((a :: r).map (·.length)).sum = a.length + (r.map (·.length)).sum := List.sum_cons
    rw [e, List.length_cons, Nat.mul_add]
    omega
theorem join_flat (ys : List Str) : TL.tl (Txt.join "" ys) = (ys.map TL.tl).flatten := by
  rw [TL.join_eq, TL.tl_join]
  exact joinL_nil _
theorem rev_strs (xs : List Str) : (xs.map V.str).reverse = xs.reverse.map V.str := List.map_reverse.symm
theorem e60 : (10 : Nat) ^ 60 = 1000000000000000000000000000000000000000000000000000000000000 := by decide
theorem log60 {g : Nat} (h : g < 10 ^ 60) : ((g : Nat) : Int).natAbs.log2 < 1920 := by
  rw [Int.natAbs_natCast]
  rcases Nat.eq_zero_or_pos g with z | z
  · rw [z]; decide
  · exact Nat.lt_of_lt_of_le (PySem.Flt.log2_lt_of (k := 200) (by decide) (by
      have e2 : (2 : Nat) ^ 200 = 1606938044258990275541962092341162602522202993782792835301376 := by decide
      rw [e60] at h
      rw [e2]
      omega)) (by decide)
def spFig : Sp := fun vs H Q _ => ∃ n : Int, vs = [.int n] ∧ n.natAbs < 10 ^ 300 ∧ ∀ (H' : Hp) (z : Str), z = Str.ofString (toString n) → Same H H' → Q (.str z) H'
theorem ok_figures (T : Tx K mg) : FnOk P w K mg base CX0 1 T.A_figures T.fd_figures ["number"] (spFig) := by
  refine T.F_figures.ok sc_figures (fun vs H Q E h => ?_) (fun cdv A outer s H vs Q E hr h => ?_)
  · obtain ⟨n, rfl, hlog, q⟩ := h
    rfl
  obtain ⟨n, rfl, hlog, q⟩ := h
  refine ⟨_, (pss_cons (ps_set (i := 1) sc_figures.nd rfl (Or.inl rfl) (pe_lst pa_nil))
      (pss_cons (ps_set (i := 2) sc_figures.nd rfl (Or.inl rfl) (pe_callB call_abs (by rfl) T.z_abs (by decide +kernel) (pa_cons (pv 0) pa_nil)))
      (pss_cons (ps_while PassesOwn.never (pt_cmpR op_ge (pv 2) (pe_glob (v := .int 1000000000000000000000000000000000000000000000000000000000000) (by rfl) T.g_GROUP ⟨_, rfl⟩) (nomark _)) (pss_cons (ps_asg (pe_callB call_divmodW (by rfl) T.z_divmod (by decide +kernel) (pa_cons (pv 2) (pa_cons (pe_glob (v := .int 1000000000000000000000000000000000000000000000000000000000000) (by rfl) T.g_GROUP ⟨_, rfl⟩) pa_nil))) (pg_tup (by rfl) (pgs_cons (pg_name (i := 2) sc_figures.nd rfl (Or.inl rfl)) (pgs_cons (pg_name (i := 3) sc_figures.nd rfl (Or.inl rfl)) pgs_nil))))
      (pss_one (ps_expr (pe_bm PySem.F.plainAttrs_list PySem.F.slot_list_append PySem.F.type_list_append mt_append (pv 1) (pa_cons (pe_bm PySem.F.plainAttrs_str PySem.F.slot_str_zfill PySem.F.type_str_zfill mt_zfill (pe_callTy call_str_int (by rfl) T.z_str (by decide +kernel) (pa_cons (pv 3) pa_nil)) (pa_cons (pe_glob (v := .int 60) (by rfl) T.g_GROUP_FIGURES ⟨_, rfl⟩) pa_nil)) pa_nil))))))
      (pss_cons (ps_expr (pe_bm PySem.F.plainAttrs_list PySem.F.slot_list_append PySem.F.type_list_append mt_append (pv 1) (pa_cons (pe_callTy call_str_int (by rfl) T.z_str (by decide +kernel) (pa_cons (pv 2) pa_nil)) pa_nil)))
      (pss_cons (ps_if (pt_cmpR op_lt (pv 0) pe_int (nomark _)) (pss_one (ps_expr (pe_bm PySem.F.plainAttrs_list PySem.F.slot_list_append PySem.F.type_list_append mt_append (pv 1) (pa_cons pe_str pa_nil)))) pss_nil)
      (pss_one (ps_ret (pe_bm PySem.F.plainAttrs_str PySem.F.slot_str_join PySem.F.type_str_join mt_join pe_str (pa_cons (pe_revL (pv 1)) pa_nil))))))))), ?_⟩
  have hlen : (TL.numL n.natAbs).length ≤ 300 := TL.numL_len (by decide) hlog
  have sl30 : (100000 : Nat) ≤ sizeLine := by decide
  refine ⟨(by show 0 ≤ sizeLine; decide), fun g hg => ?_⟩
  refine ⟨_, rfl, _, rfl, ?_⟩
  refine while_by (fun σ H' => ∃ (r : Nat) (w3 : Option V) (gs : List Str), σ = [some (.int n), some (.ref g), some (.int (r : Int)), w3] ∧ H' g = some (.lst (gs.map V.str)) ∧ Same H H' ∧ TL.numL n.natAbs = TL.numL r ++ flatG gs ∧ ∀ z ∈ gs, z.length = 60) (fun σ _ => match σ with | [_, _, some (.int r), _] => r.toNat | _ => 0) ⟨n.natAbs, none, [], ?_, upd_same, same_upd hg, by simp [flatG], fun z hz => by cases hz⟩ ?_ ?_
  · show [some (V.int n), some (V.ref g), some (V.int (if n < 0 then -n else n)), none] = _
    rw [abs_nat]
  · rintro σ H1 ⟨r, w3, gs, rfl, e1, s1, hn, h60⟩
    have lg : 60 * gs.length ≤ 300 := by
      have := congrArg List.length hn
      rw [List.length_append, flat_len h60] at this
      omega
    refine ⟨_, rfl, _, _, rfl, rfl, _, rfl, ite2 (fun e => ?_) (fun e => ?_)⟩
    · have hr : 10 ^ 60 ≤ r := by
        have := of_decide_eq_true e
        rw [e60]
        omega
      have hq : 0 < r / 10 ^ 60 := Nat.div_pos hr (by decide)
      have hg6 : r % 10 ^ 60 < 10 ^ 60 := Nat.mod_lt _ (by decide)
      have ed : ((r : Int) / 1000000000000000000000000000000000000000000000000000000000000) = ((r / 10 ^ 60 : Nat) : Int) := by
        rw [e60]
        omega
      have em : ((r : Int) % 1000000000000000000000000000000000000000000000000000000000000) = ((r % 10 ^ 60 : Nat) : Int) := by
        rw [e60]
        omega
      refine ⟨_, rfl, _, _, rfl, ⟨by decide, PyProof.noPylong_of_log2 (by decide +kernel)⟩, fun t ht => ?_⟩
      rw [ed, em]
      have z1 := same_upd ht (o := .tup [V.int ((r / 10 ^ 60 : Nat) : Int), V.int ((r % 10 ^ 60 : Nat) : Int)])
      refine ⟨t, _, rfl, .inl (.inl upd_same), rfl, _, _, rfl, _, _, rfl, rfl, ?_⟩
      refine ⟨_, rfl, .inl ⟨rfl, _, SqL.of (z1 _ _ e1)⟩, _, rfl, _, rfl, log60 hg6, rfl, _, _, rfl, rfl, by decide +kernel, g, _, _, rfl, rfl, z1 _ _ e1, by rw [List.length_map]; omega, ?_⟩
      have zt := zfill_num hg6
      have zl : (Txt.zfill (Str.ofString (toString ((r % 10 ^ 60 : Nat) : Int))) 60).length = 60 := by
        rw [TL.len_tl, zt]
        exact grp_len (by decide) hg6
      refine ⟨⟨r / 10 ^ 60, _, gs ++ [Txt.zfill (Str.ofString (toString ((r % 10 ^ 60 : Nat) : Int))) 60], rfl, ?_, ?_, ?_, ?_⟩, ?_⟩
      · rw [upd_same, List.map_append]
        rfl
      · intro b o h
        rw [upd_ne (ne_of_none h hg)]
        exact z1 _ _ (s1 _ _ h)
      · rw [hn, flat_snoc, zt]
        have := numL_group (k := 60) (by decide) hq hg6
        rw [Nat.div_add_mod' r (10 ^ 60)] at this
        rw [this, List.append_assoc]
      · intro z hz
        rcases List.mem_append.mp hz with hz | hz
        · exact h60 z hz
        · rw [List.mem_singleton] at hz
          rw [hz]
          exact zl
      · show ((r / 10 ^ 60 : Nat) : Int).toNat < ((r : Nat) : Int).toNat
        rw [Int.toNat_natCast, Int.toNat_natCast]
        exact Nat.div_lt_self (by omega) (by decide)
    · have hr : r < 10 ^ 60 := by
        have : ¬ (1000000000000000000000000000000000000000000000000000000000000 : Int) ≤ (r : Int) := fun z => e (decide_eq_true z)
        rw [e60]
        omega
      refine ⟨_, rfl, .inl ⟨rfl, _, SqL.of e1⟩, _, rfl, _, rfl, log60 hr, g, _, _, rfl, rfl, e1, by rw [List.length_map]; omega, ?_⟩
      have sr : (Str.ofString (toString ((r : Nat) : Int))).length ≤ 60 := by
        rw [TL.len_tl, TL.tl_num]
        exact TL.numL_len (by decide) hr
      have tr := TL.tl_num r
      generalize Str.ofString (toString ((r : Nat) : Int)) = S at sr tr ⊢
      have e2 : (gs.map V.str ++ [V.str S]) = (gs ++ [S]).map V.str := by rw [List.map_append]; rfl
      rw [e2]
      refine ⟨_, rfl, _, _, rfl, rfl, _, rfl, ite2 (fun en => ?_) (fun en => ?_)⟩
      · have hneg : n < 0 := of_decide_eq_true en
        refine ⟨_, rfl, .inl ⟨rfl, _, SqL.of upd_same⟩, g, _, _, rfl, rfl, upd_same, by rw [List.length_map, List.length_append, List.length_singleton]; omega, ?_⟩
        have e3 : ((gs ++ [S]).map V.str ++ [V.str "-"]) = (gs ++ [S] ++ [("-" : Str)]).map V.str := by rw [List.map_append (l₁ := gs ++ [S])]; rfl
        rw [e3]
        refine ⟨rfl, _, rfl, g, _, rfl, SqL.of upd_same, fun rv hrv => ?_⟩
        rw [rev_strs]
        have hb : ∀ z ∈ (gs ++ [S] ++ [("-" : Str)]).reverse, z.length ≤ 60 := fun z hz => by
          rw [List.mem_reverse, List.mem_append, List.mem_append, List.mem_singleton, List.mem_singleton] at hz
          rcases hz with (hz | rfl) | rfl
          · exact Nat.le_of_eq (h60 z hz)
          · exact sr
          · decide +kernel
        have sb := sum_le hb
        refine ⟨_, rv, (gs ++ [S] ++ [("-" : Str)]).reverse, rfl, rfl, .inl (SqL.of upd_same), ?_, ?_⟩
        · have e0 : ("" : Str).length = 0 := by decide +kernel
          rw [e0, Nat.mul_zero]
          rw [List.length_reverse, List.length_append, List.length_append, List.length_singleton, List.length_singleton] at sb
          omega
        · refine q _ _ (TL.ext_tl ?_) fun b o h => ?_
          · rw [join_flat, tl_neg hneg, hn, ← tr]
            rw [List.reverse_append, List.reverse_append]
            show TL.tl "-" ++ (TL.tl S ++ flatG gs) = _
            rfl
          · have nb := ne_of_none h hg
            have h1 : (upd (upd H1 g (.lst ((gs ++ [S]).map V.str))) g (.lst ((gs ++ [S] ++ [("-" : Str)]).map V.str))) b = some o := by
              rw [upd_ne nb, upd_ne nb]
              exact s1 _ _ h
            rw [upd_ne (ne_of_none h1 hrv)]
            exact h1
      · have hpos : 0 ≤ n := by
          have : ¬ n < 0 := fun z => en (decide_eq_true z)
          omega
        refine ⟨rfl, _, rfl, g, _, rfl, SqL.of upd_same, fun rv hrv => ?_⟩
        rw [rev_strs]
        have hb : ∀ z ∈ (gs ++ [S]).reverse, z.length ≤ 60 := fun z hz => by
          rw [List.mem_reverse, List.mem_append, List.mem_singleton] at hz
          rcases hz with hz | rfl
          · exact Nat.le_of_eq (h60 z hz)
          · exact sr
        have sb := sum_le hb
        refine ⟨_, rv, (gs ++ [S]).reverse, rfl, rfl, .inl (SqL.of upd_same), ?_, ?_⟩
        · have e0 : ("" : Str).length = 0 := by decide +kernel
          rw [e0, Nat.mul_zero]
          rw [List.length_reverse, List.length_append, List.length_singleton] at sb
          omega
        · refine q _ _ (TL.ext_tl ?_) fun b o h => ?_
          · rw [join_flat, tl_pos hpos, hn, ← tr]
            rw [List.reverse_append]
            rfl
          · have nb := ne_of_none h hg
            have h1 : (upd H1 g (.lst ((gs ++ [S]).map V.str))) b = some o := by
              rw [upd_ne nb]
              exact s1 _ _ h
            rw [upd_ne (ne_of_none h1 hrv)]
            exact h1
  · rintro σ H' Q1 Q2 hQ ⟨v, e1, i, j, e2, e3, k, e4, z⟩
    exact ⟨v, e1, i, j, e2, e3, k, e4, hQ _ _ z⟩
theorem fig_lt {n : Int} (h0 : 0 ≤ n) (h1 : n < 10 ^ 59) : n.natAbs < 10 ^ 300 := by
  have e : ((10 : Int) ^ 59).natAbs = 10 ^ 59 := by decide
  have : n.natAbs < 10 ^ 59 := by omega
  exact Nat.lt_trans this (Nat.pow_lt_pow_right (by decide) (by decide))
def shB (b : Bool) : Str := if b then "True" else "False"
def ruleText (u : Rl) : Str := Str.empty ++ "Rule(least=" ++ Str.ofString (toString u.lo) ++ ", most=" ++ Str.ofString (toString u.hi) ++ ", match=" ++ Str.ofString (toString u.far) ++ ", shades=" ++ shB u.shd ++ ")"
def SmallRl (u : Rl) : Prop := GoodRl u ∧ u.hi < 10 ^ 59 ∧ u.far < 10 ^ 59
theorem num_le9 {n : Int} (h0 : 0 ≤ n) (h1 : n < 10 ^ 59) : (Str.ofString (toString n)).length ≤ 59 := toString_length_le h0 (by decide) h1
theorem num_log9 {n : Int} (h0 : 0 ≤ n) (h1 : n < 10 ^ 59) : n.natAbs.log2 < 1920 := by
  rcases Nat.eq_zero_or_pos n.natAbs with z | z
  · rw [z]; decide
  · exact Nat.lt_of_lt_of_le (PySem.Flt.log2_lt_of (k := 200) (by omega) (by
      have e : (10 : Int) ^ 59 = 100000000000000000000000000000000000000000000000000000000000 := by decide
      have e2 : (2 : Nat) ^ 200 = 1606938044258990275541962092341162602522202993782792835301376 := by decide
      rw [e] at h1
      rw [e2]
      omega)) (by decide)
theorem shB_le (b : Bool) : (shB b).length ≤ 5 := by cases b <;> decide +kernel
def spRRepr (C : Addr) : Sp := fun vs H Q _ => ∃ (a : Addr) (u : Rl), vs = [.ref a] ∧ RuleAt C H a u ∧ SmallRl u ∧ ∀ H', Same H H' → Q (.str (ruleText u)) H'
theorem ok_Rule_repr (T : Tx K mg) : FnOk P w K mg base CX0 2 T.A_Rule_repr T.fd_Rule_repr ["self"] (spRRepr T.C_Rule) := by
  refine T.F_Rule_repr.ok sc_Rule_repr (fun vs H Q E h => ?_) (fun cdv A outer s H vs Q E hr h => ?_)
  · obtain ⟨a, u, rfl, ⟨dx, ha⟩, ⟨⟨g1, g2, g3⟩, g4, g5⟩, q⟩ := h
    rfl
  obtain ⟨a, u, rfl, ⟨dx, ha⟩, ⟨⟨g1, g2, g3⟩, g4, g5⟩, q⟩ := h
  refine ⟨_, (pss_cons (ps_set (i := 1) sc_Rule_repr.nd rfl (Or.inl rfl) (pe_lst (pa_cons (pe_call (ok_figures T) (hr.mono (by decide)) (by rfl) T.g_figures T.F_figures.kp T.b_figures .nil pass0 (pa_cons (pe_fld (pv 0) rfl) pa_nil)) (pa_cons (pe_call (ok_figures T) (hr.mono (by decide)) (by rfl) T.g_figures T.F_figures.kp T.b_figures .nil pass0 (pa_cons (pe_fld (pv 0) rfl) pa_nil)) (pa_cons (pe_call (ok_figures T) (hr.mono (by decide)) (by rfl) T.g_figures T.F_figures.kp T.b_figures .nil pass0 (pa_cons (pe_fld (pv 0) rfl) pa_nil)) pa_nil)))))
      (pss_one (ps_ret (pe_joined (PJ.cons pe_str (PJ.cons (pe_fmtB (pe_ix ix_list (pv 1) pe_int (fun _ _ => rfl))) (PJ.cons pe_str (PJ.cons (pe_fmtB (pe_ix ix_list (pv 1) pe_int (fun _ _ => rfl))) (PJ.cons pe_str (PJ.cons (pe_fmtB (pe_ix ix_list (pv 1) pe_int (fun _ _ => rfl))) (PJ.cons pe_str (PJ.cons (pe_fmtB (pe_fld (pv 0) rfl)) (PJ.cons pe_str PJ.nil))))))))))))), ?_⟩
  refine ⟨_, rfl, a, _, dx, _, _, rfl, ha, T.cl_Rule, T.n_Rule_least, uf_least u, u.lo, rfl, fig_lt g1 (by omega), fun H1 z1 e1 s1 => ?_⟩
  subst e1
  refine ⟨_, rfl, a, _, dx, _, _, rfl, s1 _ _ ha, T.cl_Rule, T.n_Rule_most, uf_most u, u.hi, rfl, fig_lt (by omega) g4, fun H2 z2 e2 s2 => ?_⟩
  subst e2
  refine ⟨_, rfl, a, _, dx, _, _, rfl, s2 _ _ (s1 _ _ ha), T.cl_Rule, T.n_Rule_match, uf_match u, u.far, rfl, fig_lt g3 g5, fun H3 z3 e3 s3 => ?_⟩
  subst e3
  refine ⟨(by show 3 ≤ sizeLine; decide), fun l hl => ?_⟩
  have n1 := num_le9 g1 (by omega)
  have n2 := num_le9 (n := u.hi) (by omega) g4
  have n3 := num_le9 g3 g5
  have c0 : Str.empty.length ≤ 0 := by decide +kernel
  have c1 := app_le c0 (show ("Rule(least=" : Str).length ≤ 20 by decide +kernel)
  have c2 := app_le c1 n1
  have c3 := app_le c2 (show (", most=" : Str).length ≤ 20 by decide +kernel)
  have c4 := app_le c3 n2
  have c5 := app_le c4 (show (", match=" : Str).length ≤ 20 by decide +kernel)
  have c6 := app_le c5 n3
  have c7 := app_le c6 (show (", shades=" : Str).length ≤ 20 by decide +kernel)
  have c8 := app_le c7 (shB_le u.shd)
  have c9 := app_le c8 (show (")" : Str).length ≤ 20 by decide +kernel)
  have sl := same_upd hl (o := .lst [V.str (Str.ofString (toString u.lo)), V.str (Str.ofString (toString u.hi)), V.str (Str.ofString (toString u.far))])
  have hS : SqL K (upd H3 l (.lst [V.str (Str.ofString (toString u.lo)), V.str (Str.ofString (toString u.hi)), V.str (Str.ofString (toString u.far))])) l [V.str (Str.ofString (toString u.lo)), V.str (Str.ofString (toString u.hi)), V.str (Str.ofString (toString u.far))] := SqL.of upd_same
  refine ⟨_, rfl, fit c1, _, rfl, l, _, _, _, rfl, rfl, hS, atI_nat (j := 0) rfl, .inl ⟨_, rfl, fit n1, _, rfl, fit c2, ?_⟩⟩
  refine ⟨_, rfl, fit c3, _, rfl, l, _, _, _, rfl, rfl, hS, atI_nat (j := 1) rfl, .inl ⟨_, rfl, fit n2, _, rfl, fit c4, ?_⟩⟩
  refine ⟨_, rfl, fit c5, _, rfl, l, _, _, _, rfl, rfl, hS, atI_nat (j := 2) rfl, .inl ⟨_, rfl, fit n3, _, rfl, fit c6, ?_⟩⟩
  refine ⟨_, rfl, fit c7, _, rfl, a, _, dx, _, _, rfl, sl _ _ (s3 _ _ (s2 _ _ (s1 _ _ ha))), T.cl_Rule, T.n_Rule_shades, uf_shades u, .inr (.inr ⟨_, rfl, _, rfl, fit c8, ?_⟩)⟩
  exact ⟨_, rfl, fit c9, q _ (((s1.trans s2).trans s3).trans sl)⟩
end
end KB
namespace KB
open PySem PySem.Spec PyProof.Rows L2 KA
section
variable {P : Program} {w : World} {K : PySem.W.Frag} {mg : Str → Option Value} {base : Heap}
def strS (r : Rw) : Str := ⟨(strL r).toArray⟩
theorem strS_of {r : Rw} {z : Str} (h : TL.tl z = strL r) : z = strS r := TL.ext_tl (by rw [h]; rfl)
theorem strS_len {r : Rw} (h : GoodRw r) : (strS r).length ≤ 1000 := by
  obtain ⟨g1, g2, g3, g4, g5⟩ := h
  obtain ⟨a1, a2⟩ := whl_of g1
  obtain ⟨a3, a4⟩ := whl_of g2
  obtain ⟨a5, a6⟩ := whl_of g3
  have l1 := num_le (n := r.num) (by omega) a2
  have l2 := num_le (n := r.ac) (by omega) (by omega)
  have l3 := num_le (n := r.we) (by omega) (by omega)
  have l4 := (nm_low g4).1
  have l5 := (nm_low g5).1
  rw [TL.len_tl] at l1 l2 l3 l4 l5
  show ((strL r).toArray).size ≤ 1000
  have c1 : (TL.tl " ").length ≤ 10 := by decide +kernel
  have c2 : (TL.tl "/").length ≤ 10 := by decide +kernel
  have c4 : (TL.tl " drilled").length ≤ 20 := by decide +kernel
  rw [List.size_toArray]
  unfold strL nL
  have c6 : (if r.dr = true then TL.tl " drilled" else []).length ≤ 30 := by
    split
    · omega
    · exact Nat.zero_le _
  simp only [List.length_append]
  omega
def beadS : Option Rw → Str
  | none => "-"
  | some r => strS r
def stringText (rs : List (Option Rw)) : Str := Txt.join " | " (rs.map beadS)
theorem beadS_len {o : Option Rw} (h : ∀ r, o = some r → GoodRw r) : (beadS o).length ≤ 1000 := by
  cases o with
  | none => exact Nat.le_trans (show ("-" : Str).length ≤ 10 by decide +kernel) (by decide)
  | some r => exact strS_len (h r rfl)
theorem sum_leS {m : Nat} : ∀ {xs : List Str}, (∀ x ∈ xs, x.length ≤ m) → (xs.map (·.length)).sum ≤ xs.length * m
  | [], _ => by simp
  | x :: xs, h => by
    have := sum_leS (xs := xs) fun y hy => h y (List.mem_cons_of_mem _ hy)
    have := h x (List.mem_cons_self ..)
    rw [List.map_cons, List.sum_cons, List.length_cons, Nat.add_mul, Nat.one_mul]
    omega
def spSStr (CB CR C : Addr) : Sp := fun vs H Q _ => ∃ (s : Addr) (rs : List (Option Rw)) (u : Rl), vs = [.ref s] ∧ SV CB CR C H s rs u ∧ rs.length ≤ 200 ∧ (∀ r, some r ∈ rs → GoodRw r) ∧ ∀ H', Same H H' → Q (.str (stringText rs)) H'
theorem ok_String_str (T : Tx K mg) : FnOk P w K mg base CX0 4 T.A_String_str T.fd_String_str ["self"] (spSStr T.C_Bead T.C_Rule T.C_String) := by
  refine T.F_String_str.ok sc_String_str (fun vs H Q E h => ?_) (fun cdv A outer s H vs Q E hr h => ?_)
  · obtain ⟨s, rs, u, rfl, hs, hl, hG, q⟩ := h
    rfl
  obtain ⟨s, rs, u, rfl, hs, hl, hG, q⟩ := h
  refine ⟨_, (pss_one (ps_ret (pe_bm PySem.F.plainAttrs_str PySem.F.slot_str_join PySem.F.type_str_join mt_join pe_str (pa_cons (pe_lc (own := [("bead", 1)]) (g := gName 1) (tt := tYes) rfl sc_String_str.nd (pi_tup (pe_fld (pv 0) rfl)) (blkOk_by (N := ["self", "bead"]) (sc := defScope s_String_str) (by decide +kernel)) (fun _ _ _ _ _ => (pg_name (i := 1) sc_String_str.nd rfl (Or.inl rfl))) (fun _ _ _ _ _ => pts_nil) (fun _ _ _ _ _ => (pe_ifExp (pt_cmpR op_isN (pv 1) pe_non (nomark _)) pe_str (pe_callTy (call_strO (E := E0) (ok_Bead_str T) T.m_Bead_str.at_ T.m_Bead_str.fn T.b_Bead_str pass0 (hr.mono (by decide))) (by rfl) T.z_str (by decide +kernel) (pa_cons (pv 1) pa_nil))))) pa_nil)))), ?_⟩
  obtain ⟨t, m, xs, ⟨dx, h1⟩, h2, h3, dm, h4⟩ := hs.ex
  refine ⟨rfl, _, rfl, s, _, dx, _, _, rfl, h1, T.cl_String, T.n_String_held, sf_held t m, t, rfl, ⟨_, .inl (.inl h2)⟩, fun D hD => ?_⟩
  refine lc_genT (K := K) hD h2 (by rw [h3.len]; omega) (fun j v _ => ∀ o, rs[j]? = some o → v = .str (beadS o)) (fun j v H1 H2 s h => h) ?_ ?_
  · intro i x H2 R C hi s2 hRv
    obtain ⟨o, ho, hv⟩ := (h3.same (NL.of s2)).at_ i x hi
    refine ⟨rfl, yesT ?_⟩
    rcases hv with ⟨rfl, rfl⟩ | ⟨p, r, rfl, rfl, hp⟩
    · refine ⟨_, rfl, rfl, _, rfl, iteT ?_⟩
      exact hRv _ _ (Same.refl _) fun o' ho' => by
        rw [ho] at ho'
        cases ho'
        rfl
    · obtain ⟨dp, hp'⟩ := id hp
      refine ⟨_, rfl, rfl, _, rfl, iteF ?_⟩
      refine ⟨_, rfl, p, dp, _, rfl, hp', p, r, rfl, hp, hG r (List.mem_of_getElem? ho), fun H3 z hz _ s3 => ⟨⟨z, rfl⟩, ?_⟩⟩
      exact hRv _ _ s3 fun o' ho' => by
        rw [ho] at ho'
        cases ho'
        rw [strS_of hz]
        rfl
  · intro H' acc sH e l g
    have hacc : acc = (rs.map beadS).map V.str := by
      refine List.ext_getElem? fun i => ?_
      by_cases hi : i < acc.length
      · have hi2 : i < rs.length := by rw [← h3.len, ← l]; exact hi
        have := g i _ (List.getElem?_eq_getElem hi) _ (List.getElem?_eq_getElem hi2)
        rw [List.getElem?_eq_getElem hi, this, List.getElem?_map, List.getElem?_map, List.getElem?_eq_getElem hi2]
        rfl
      · have hi2 : ¬ i < rs.length := by rw [← h3.len, ← l]; exact hi
        rw [List.getElem?_eq_none (by omega), List.getElem?_eq_none (by rw [List.length_map, List.length_map]; omega)]
    rw [hacc] at e
    refine ⟨_, D, rs.map beadS, rfl, rfl, .inl (SqL.of e), ?_, q H' sH⟩
    have a := sum_leS (m := 1000) (xs := rs.map beadS) fun z hz => by
      obtain ⟨o, ho, rfl⟩ := List.mem_map.mp hz
      exact beadS_len fun r hr => hG r (by rw [← hr]; exact ho)
    have e3 : (" | " : Str).length = 3 := by decide +kernel
    rw [e3]
    rw [List.length_map] at a ⊢
    omega
def reprS (r : Rw) : Str := ⟨(reprL r).toArray⟩
theorem reprS_of {r : Rw} {z : Str} (h : TL.tl z = reprL r) : z = reprS r := TL.ext_tl (by rw [h]; rfl)
def beadR : Option Rw → Str
  | none => "None"
  | some r => reprS r
theorem tf_le : ∀ (ts : List Str) (k : Nat) (acc : Str), (textFrom k acc ts).length ≤ acc.length + piled ts
  | [], k, acc => by show acc.length ≤ acc.length + 0; omega
  | t :: ts, k, acc => by
    have h := tf_le ts (k + 1) (acc ++ (if k > 0 then ", " else "" : String) ++ t)
    rw [piled_cons]
    have e : (acc ++ ((if k > 0 then ", " else "" : String) : Str) ++ t).length ≤ acc.length + (t.length + 2) := by
      rw [Str.length_append, Str.length_append]
      have : (((if k > 0 then ", " else "" : String) : Str)).length ≤ 2 := by
        split
        · decide +kernel
        · decide +kernel
      omega
    show (textFrom (k + 1) (acc ++ (if k > 0 then ", " else "" : String) ++ t) ts).length ≤ _
    omega
theorem piled_le {m : Nat} : ∀ {ts : List Str}, (∀ t ∈ ts, t.length ≤ m) → piled ts ≤ ts.length * (m + 2)
  | [], _ => by show 0 ≤ _; omega
  | t :: ts, h => by
    have := piled_le (ts := ts) fun t ht => h t (List.mem_cons_of_mem _ ht)
    have := h t (List.mem_cons_self ..)
    rw [piled_cons, List.length_cons, Nat.add_mul, Nat.one_mul]
    omega
theorem list_le (ts : List Str) : (listText ts).length ≤ piled ts + 2 := by
  unfold listText
  rw [Str.length_append]
  have := tf_le ts 0 "["
  have e1 : ("[" : Str).length = 1 := by decide +kernel
  have e2 : ("]" : Str).length = 1 := by decide +kernel
  omega
theorem reprS_len {r : Rw} (h : GoodRw r) : (reprS r).length ≤ 300 := by
  obtain ⟨g1, g2, g3, g4, g5⟩ := h
  obtain ⟨a1, a2⟩ := whl_of g1
  obtain ⟨a3, a4⟩ := whl_of g2
  obtain ⟨a5, a6⟩ := whl_of g3
  have l1 := num_le (n := r.num) (by omega) a2
  have l2 := num_le (n := r.ac) (by omega) (by omega)
  have l3 := num_le (n := r.we) (by omega) (by omega)
  have l4 := (nm_low g4).1
  have l5 := (nm_low g5).1
  rw [TL.len_tl] at l1 l2 l3 l4 l5
  show ((reprL r).toArray).size ≤ 300
  have c1 : (TL.tl "Bead(").length ≤ 10 := by decide +kernel
  have c2 : (TL.tl ", ").length ≤ 10 := by decide +kernel
  have c3 : (TL.tl ", form=").length ≤ 10 := by decide +kernel
  have c4 : (TL.tl ", drilled=True").length ≤ 20 := by decide +kernel
  rw [List.size_toArray]
  unfold reprL nL
  have c5 : (if r.fo = "round" then [] else TL.tl ", form=" ++ ([39] ++ (TL.tl r.fo ++ [39]))).length ≤ 30 := by
    split
    · exact Nat.zero_le _
    · simp only [List.length_append, List.length_cons, List.length_nil]
      omega
  have c6 : (if r.dr = true then TL.tl ", drilled=True" else []).length ≤ 30 := by
    split
    · omega
    · exact Nat.zero_le _
  simp only [List.length_append, List.length_cons, List.length_nil]
  omega
theorem beadR_len {o : Option Rw} (h : ∀ r, o = some r → GoodRw r) : (beadR o).length ≤ 300 := by
  cases o with
  | none => exact Nat.le_trans (show ("None" : Str).length ≤ 10 by decide +kernel) (by decide)
  | some r => exact reprS_len (h r rfl)
def stringRepr (rs : List (Option Rw)) (u : Rl) : Str := Str.empty ++ "String(" ++ listText (rs.map beadR) ++ ", " ++ ruleText u ++ ")"
def spSRepr (CB CR C : Addr) : Sp := fun vs H Q _ => ∃ (s : Addr) (rs : List (Option Rw)) (u : Rl), vs = [.ref s] ∧ SV CB CR C H s rs u ∧ rs.length ≤ 200 ∧ (∀ r, some r ∈ rs → GoodRw r) ∧ SmallRl u ∧ (ruleText u).length ≤ 1000 ∧ ∀ H', Same H H' → Q (.str (stringRepr rs u)) H'
theorem ok_String_repr (T : Tx K mg) : FnG P w K mg base CX0 9 T.A_String_repr T.fd_String_repr ["self"] (spSRepr T.C_Bead T.C_Rule T.C_String) := by
  refine fun_okG T.F_String_repr sc_String_repr (fun vs H Q E h => ?_) (fun cdv A outer s H vs Q E hr gd h => ?_)
  · obtain ⟨s, rs, u, rfl, hs, hl, hG, hU, hlu, q⟩ := h
    rfl
  obtain ⟨s, rs, u, rfl, hs, hl, hG, hU, hlu, q⟩ := h
  refine ⟨_, (pss_one (ps_ret (pe_joined (PJ.cons pe_str (PJ.cons (pe_fmtRL (n := 1) gd (hr.mono (by decide)) (pe_callTy call_list_of (by rfl) T.z_list (by decide +kernel) (pa_cons (pe_fld (pv 0) rfl) pa_nil))) (PJ.cons pe_str (PJ.cons (pe_fmtRO (E := E0) (ok_Rule_repr T) T.m_Rule_repr.at_ T.m_Rule_repr.fn T.b_Rule_repr pass0 (hr.mono (by decide)) (pe_fld (pv 0) rfl)) (PJ.cons pe_str PJ.nil)))))))), ?_⟩
  obtain ⟨t, m, xs, ⟨dx, h1⟩, h2, h3, dm, h4⟩ := hs.ex
  have pl := piled_le (m := 300) (ts := rs.map beadR) fun z hz => by
    obtain ⟨o, ho, rfl⟩ := List.mem_map.mp hz
    exact beadR_len fun r hr => hG r (by rw [← hr]; exact ho)
  rw [List.length_map] at pl
  have ll : (listText (rs.map beadR)).length ≤ 60600 := by
    have := list_le (rs.map beadR)
    have : rs.length * 302 ≤ 200 * 302 := Nat.mul_le_mul_right _ hl
    omega
  have c1 := app_le c_emp (show ("String(" : Str).length ≤ 7 by decide +kernel)
  have c2 := app_le c1 ll
  have c3 := app_le c2 (show (", " : Str).length ≤ 2 by decide +kernel)
  have c4 := app_le c3 hlu
  have c5 := app_le c4 (show (")" : Str).length ≤ 1 by decide +kernel)
  refine ⟨_, rfl, fit c1, _, rfl, s, _, dx, _, _, rfl, h1, T.cl_String, T.n_String_held, sf_held t m, t, xs, rfl, .inr (.inl (.inl h2)), fun l hl' => ?_⟩
  have z := same_upd hl' (o := .lst xs)
  refine ⟨l, xs, rs.map beadR, rfl, upd_same, by rw [List.length_map, h3.len], fun i x tx hx htx => ?_, fit ll, fun H2 s2 => ?_⟩
  · obtain ⟨o, ho, hv⟩ := h3.at_ i x hx
    rw [List.getElem?_map, ho] at htx
    cases htx
    rcases hv with ⟨rfl, rfl⟩ | ⟨p, r, rfl, rfl, hp⟩
    · exact shows_non
    · obtain ⟨dp, hp'⟩ := id hp
      refine shows_own (E := E0) (ok_Bead_repr T) T.m_Bead_repr.at_ T.m_Bead_repr.fn T.b_Bead_repr pass0 (z _ _ hp') fun H1 Q s1 q => ?_
      refine ⟨p, r, rfl, ⟨dp, s1 _ _ (z _ _ hp')⟩, hG r (List.mem_of_getElem? ho), fun H' y hy _ s2 => ?_⟩
      rw [reprS_of hy]
      exact q H' s2
  · have z2 : Same H H2 := z.trans s2
    refine ⟨_, rfl, fit c2, _, rfl, fit c3, ?_⟩
    refine ⟨_, rfl, s, _, dx, _, _, rfl, z2 _ _ h1, T.cl_String, T.n_String_rule, sf_rule t m, m, dm, _, rfl, z2 _ _ h4, m, u, rfl, ⟨dm, z2 _ _ h4⟩, hU, fun H3 s3 => ⟨⟨_, rfl⟩, ⟨_, rfl, fit hlu⟩, _, rfl, fit c4, _, rfl, fit c5, q _ (z2.trans s3)⟩⟩
end
end KB
namespace KB
open PySem PySem.Spec PyProof.Rows L2 KA LamX
section
variable {P : Program} {w : World} {K : PySem.W.Frag} {mg : Str → Option Value} {base : Heap}
theorem hu_in_order (T : Tx K mg) : ∀ p ∈ lamT T, p.1 = T.PP_in_order → p.2 = ("in_order" : Str) ++ ".<locals>." ++ "<lambda>" := by
  intro p hp e
  rcases List.mem_cons.mp hp with rfl | hp
  · rfl
  · rw [List.mem_singleton.mp hp] at e
    exact absurd e.symm T.pp_ne
theorem hu_beads (T : Tx K mg) : ∀ p ∈ lamT T, p.1 = T.PP_beads → p.2 = ("_law_beads" : Str) ++ ".<locals>." ++ "<lambda>" := by
  intro p hp e
  rcases List.mem_cons.mp hp with rfl | hp
  · exact absurd e T.pp_ne
  · rw [List.mem_singleton.mp hp]
/-- the beads of a list; the rows of a list -/
def BdL (C : Addr) (H : Hp) (xs : List V) (rs : List Rw) : Prop := xs.length = rs.length ∧ ∀ (i : Nat) r, rs[i]? = some r → ∃ p, xs[i]? = some (.ref p) ∧ BeadAt C H p r
def RwL (H : Hp) (xs : List V) (rs : List Rw) : Prop := xs.length = rs.length ∧ ∀ (i : Nat) r, rs[i]? = some r → ∃ t, xs[i]? = some (.ref t) ∧ H t = some (.tup (rowVals r))
theorem BeadAt.nl {C : Addr} {H H' : Hp} {p : Addr} {r : Rw} (h : BeadAt C H p r) (s : NL H H') : BeadAt C H' p r := by
  obtain ⟨dx, h⟩ := h
  exact ⟨dx, s _ _ (fun xs z => by cases z) h⟩
theorem BdL.nl {C : Addr} {H H' : Hp} {xs : List V} {rs : List Rw} (h : BdL C H xs rs) (s : NL H H') : BdL C H' xs rs := ⟨h.1, fun i r hr => by
  obtain ⟨p, h1, h2⟩ := h.2 i r hr
  exact ⟨p, h1, h2.nl s⟩⟩
theorem RwL.nl {H H' : Hp} {xs : List V} {rs : List Rw} (h : RwL H xs rs) (s : NL H H') : RwL H' xs rs := ⟨h.1, fun i r hr => by
  obtain ⟨p, h1, h2⟩ := h.2 i r hr
  exact ⟨p, h1, s _ _ (fun xs z => by cases z) h2⟩⟩
theorem BdL.snoc {C : Addr} {H : Hp} {xs : List V} {rs : List Rw} {p : Addr} {r : Rw} (h : BdL C H xs rs) (hp : BeadAt C H p r) : BdL C H (xs ++ [.ref p]) (rs ++ [r]) := by
  refine ⟨by rw [List.length_append, List.length_append, h.1]; rfl, fun i z hz => ?_⟩
  by_cases hi : i < rs.length
  · rw [List.getElem?_append_left hi] at hz
    obtain ⟨p', h1, h2⟩ := h.2 i z hz
    exact ⟨p', by rw [List.getElem?_append_left (by rw [h.1]; exact hi)]; exact h1, h2⟩
  · rw [List.getElem?_append_right (by omega)] at hz
    have hlt := (List.getElem?_eq_some_iff.mp hz).1
    rw [List.length_singleton] at hlt
    have e : i = rs.length := by omega
    subst e
    rw [Nat.sub_self] at hz
    cases hz
    exact ⟨p, by rw [← h.1, List.getElem?_append_right (Nat.le_refl _), Nat.sub_self]; rfl, hp⟩
theorem RwL.snoc {H : Hp} {xs : List V} {rs : List Rw} {p : Addr} {r : Rw} (h : RwL H xs rs) (hp : H p = some (.tup (rowVals r))) : RwL H (xs ++ [.ref p]) (rs ++ [r]) := by
  refine ⟨by rw [List.length_append, List.length_append, h.1]; rfl, fun i z hz => ?_⟩
  by_cases hi : i < rs.length
  · rw [List.getElem?_append_left hi] at hz
    obtain ⟨p', h1, h2⟩ := h.2 i z hz
    exact ⟨p', by rw [List.getElem?_append_left (by rw [h.1]; exact hi)]; exact h1, h2⟩
  · rw [List.getElem?_append_right (by omega)] at hz
    have hlt := (List.getElem?_eq_some_iff.mp hz).1
    rw [List.length_singleton] at hlt
    have e : i = rs.length := by omega
    subst e
    rw [Nat.sub_self] at hz
    cases hz
    exact ⟨p, by rw [← h.1, List.getElem?_append_right (Nat.le_refl _), Nat.sub_self]; rfl, hp⟩
/-- two beads side by side -/
theorem own_at (T : Tx K mg) {H : Hp} {p p' : Addr} {r r' : Rw} (hp : BeadAt T.C_Bead H p r) (hp' : BeadAt T.C_Bead H p' r') : DOwn K T.C_Bead (.ref p) (.ref p') (likeRw r r') H := by
  obtain ⟨dx, h⟩ := id hp
  obtain ⟨dx', h'⟩ := id hp'
  have same : V.ref p' = V.ref p → likeRw r r' = true := fun e => by
    injection e with e
    subst e
    have e2 := Option.some.inj (h.symm.trans h')
    injection e2 with _ _ e3
    have a1 := bf_across r
    have a2 := bf_weight r
    have a3 := bf_shade r
    have a4 := bf_form r
    have a5 := bf_drilled r
    rw [e3] at a1 a2 a3 a4 a5
    rw [bf_across] at a1
    rw [bf_weight] at a2
    rw [bf_shade] at a3
    rw [bf_form] at a4
    rw [bf_drilled] at a5
    injection a1 with a1
    injection a1 with a1
    injection a2 with a2
    injection a2 with a2
    injection a3 with a3
    injection a3 with a3
    injection a4 with a4
    injection a4 with a4
    injection a5 with a5
    injection a5 with a5
    unfold likeRw
    rw [a1, a2, a3, a4, a5]
    simp
  exact .inl ⟨p, dx, _, _, rfl, h, T.ic_Bead.ty T.cl_Bead h', by simp [PySem.W.notFirst], ⟨r, hp, .inl ⟨p', r', rfl, hp', rfl⟩⟩, same⟩
def lk (rs : List Rw) (r : Rw) (i : Nat) : Bool := match rs[i]? with
  | some z => likeRw z r
  | none => false
theorem its_at (T : Tx K mg) {H : Hp} {xs : List V} {rs : List Rw} {p : Addr} {r : Rw} (h : BdL T.C_Bead H xs rs) (hp : BeadAt T.C_Bead H p r) : ItsB (DOwn K T.C_Bead) xs (.ref p) (lk rs r) H := fun i z hz => by
  have hi : i < rs.length := by
    rw [← h.1]
    exact (List.getElem?_eq_some_iff.mp hz).1
  obtain ⟨p', h1, h2⟩ := h.2 i _ (List.getElem?_eq_getElem hi)
  rw [h1] at hz
  cases hz
  have e : lk rs r i = likeRw rs[i] r := by
    unfold lk
    rw [List.getElem?_eq_getElem hi]
  rw [e]
  exact own_at T h2 hp
def spHow (C : Addr) : Sp := fun vs H Q _ => ∃ (b p : Addr) (xs : List V) (rs : List Rw) (r : Rw), vs = [.ref b, .ref p] ∧ H b = some (.lst xs) ∧ BdL C H xs rs ∧ BeadAt C H p r ∧ ∀ H', Same H H' → Q (.int (cntF rs.length (lk rs r) : Nat)) H'
theorem ok_how_many (T : Tx K mg) : FnOk P w K mg base CX0 3 T.A_how_many T.fd_how_many ["beads", "bead"] (spHow T.C_Bead) := by
  refine T.F_how_many.ok sc_how_many (fun vs H Q E h => ?_) (fun cdv A outer s H vs Q E hr h => ?_)
  · obtain ⟨b, p, xs, rs, r, rfl, hb, hB, hp, q⟩ := h
    rfl
  obtain ⟨b, p, xs, rs, r, rfl, hb, hB, hp, q⟩ := h
  refine ⟨_, (pss_one (ps_ret (pe_bm PySem.F.plainAttrs_list PySem.F.slot_list_count PySem.F.type_list_count (mt_countB monB_own6 (eqB_own6 T) (hr.mono (by decide))) (pv 0) (pa_cons (pv 1) pa_nil)))), ?_⟩
  refine ⟨_, rfl, .inl ⟨rfl, _, SqL.of hb⟩, _, rfl, b, xs, .ref p, lk rs r, rfl, rfl, hb, its_at T hB hp, fun H' e => ?_⟩
  rw [hB.1]
  exact q H' e
def keyVals (r : Rw) : List V := [.int r.ac, .int r.we, .str r.sh, .str r.fo, .bl r.dr, .int r.num]
def keyD (r : Rw) : PyData := .tuple [.int r.ac, .int r.we, .str r.sh, .str r.fo, .bool r.dr, .int r.num]
def spKeyB (C : Addr) : Sp := fun vs H Q _ => ∃ (p : Addr) (r : Rw), vs = [.ref p] ∧ BeadAt C H p r ∧ ∀ t, H t = none → Q (.ref t) (upd H t (.tup (keyVals r)))
theorem ok_Bead_key (T : Tx K mg) : FnOk P w K mg base CX0 1 T.A_Bead_key T.fd_Bead_key ["self"] (spKeyB T.C_Bead) := by
  refine T.F_Bead_key.ok sc_Bead_key (fun vs H Q E h => ?_) (fun cdv A outer s H vs Q E hr h => ?_)
  · obtain ⟨p, r, rfl, ⟨dx, hp⟩, q⟩ := h
    rfl
  obtain ⟨p, r, rfl, ⟨dx, hp⟩, q⟩ := h
  refine ⟨_, (pss_one (ps_ret (pe_tup (pa_cons (pe_fld (pv 0) rfl) (pa_cons (pe_fld (pv 0) rfl) (pa_cons (pe_fld (pv 0) rfl) (pa_cons (pe_fld (pv 0) rfl) (pa_cons (pe_fld (pv 0) rfl) (pa_cons (pe_fld (pv 0) rfl) pa_nil))))))))), ?_⟩
  exact ⟨_, rfl, p, _, dx, _, _, rfl, hp, T.cl_Bead, T.n_Bead_across, bf_across r, _, rfl, p, _, dx, _, _, rfl, hp, T.cl_Bead, T.n_Bead_weight, bf_weight r, _, rfl, p, _, dx, _, _, rfl, hp, T.cl_Bead, T.n_Bead_shade, bf_shade r, _, rfl, p, _, dx, _, _, rfl, hp, T.cl_Bead, T.n_Bead_form, bf_form r, _, rfl, p, _, dx, _, _, rfl, hp, T.cl_Bead, T.n_Bead_drilled, bf_drilled r, _, rfl, p, _, dx, _, _, rfl, hp, T.cl_Bead, T.n_Bead_number, bf_number r, (by show 6 ≤ sizeLine; decide), q⟩
def DKey (C : Addr) : V → PyData → Hp → Prop := fun y k H => ∃ (p : Addr) (r : Rw), y = .ref p ∧ BeadAt C H p r ∧ k = keyD r
theorem monKey {C : Addr} : ∀ x k H H', Ext H H' → DKey C x k H → DKey C x k H' := fun x k H H' e d => by
  obtain ⟨p, r, h1, h2, h3⟩ := d
  exact ⟨p, r, h1, h2.nl (NL.of e), h3⟩
theorem kfs_key (r : Rw) : KFs (keyVals r) [.int r.ac, .int r.we, .str r.sh, .str r.fo, .bool r.dr, .int r.num] := .cons (.int _) (.cons (.int _) (.cons (.str _) (.cons (.str _) (.cons (.bl _) (.cons (.int _) .nil)))))
theorem impKey (T : Tx K mg) : ∀ y k H, DKey T.C_Bead y k H → tMeth T.C_Bead "key" (spKeyB T.C_Bead) [] E0 (tVar 0) tNil (L2.start ["bead"] [y]) H fun z H' => Ext H H' ∧ KD K H' z k := by
  rintro y k H ⟨p, r, rfl, ⟨dx, hp⟩, rfl⟩
  refine ⟨_, rfl, p, dx, _, rfl, hp, bf_no r (by decide +kernel) (by decide +kernel) (by decide +kernel) (by decide +kernel) (by decide +kernel) (by decide +kernel), p, r, rfl, ⟨dx, hp⟩, fun t ht => ⟨Ext.upd ht, .tup (.inl (.inl upd_same)) (kfs_key r)⟩⟩
theorem BeadAt.exn {C : Addr} {H H' : Hp} {p : Addr} {r : Rw} (h : BeadAt C H p r) (s : ExtN H H') : BeadAt C H' p r := by
  obtain ⟨dx, h⟩ := h
  exact ⟨dx, s _ _ h fun ps z => by cases z⟩
theorem BdL.exn {C : Addr} {H H' : Hp} {xs : List V} {rs : List Rw} (h : BdL C H xs rs) (s : ExtN H H') : BdL C H' xs rs := ⟨h.1, fun i r hr => by
  obtain ⟨p, h1, h2⟩ := h.2 i r hr
  exact ⟨p, h1, h2.exn s⟩⟩
theorem RwL.exn {H H' : Hp} {xs : List V} {rs : List Rw} (h : RwL H xs rs) (s : ExtN H H') : RwL H' xs rs := ⟨h.1, fun i r hr => by
  obtain ⟨p, h1, h2⟩ := h.2 i r hr
  exact ⟨p, h1, s _ _ h2 fun ps z => by cases z⟩⟩
theorem lst_exn {H H' : Hp} {a : Addr} {xs : List V} (s : ExtN H H') (h : H a = some (.lst xs)) : H' a = some (.lst xs) := s _ _ h fun ps z => by cases z
/-- a list of beads by its pairs -/
theorem bdl_of {C : Addr} {H : Hp} {zs : List (V × Rw)} (h : ∀ z ∈ zs, ∃ p, z.1 = .ref p ∧ BeadAt C H p z.2) : BdL C H (zs.map Prod.fst) (zs.map Prod.snd) := by
  refine ⟨by rw [List.length_map, List.length_map], fun i r hr => ?_⟩
  rw [List.getElem?_map] at hr
  cases e : zs[i]? with
  | none => rw [e] at hr; cases hr
  | some z =>
    rw [e] at hr
    cases hr
    obtain ⟨p, h1, h2⟩ := h z (List.mem_of_getElem? e)
    exact ⟨p, by rw [List.getElem?_map, e]; exact congrArg some h1, h2⟩
theorem bdl_zip {C : Addr} {H : Hp} {xs : List V} {rs : List Rw} (h : BdL C H xs rs) : ∀ z ∈ xs.zip rs, ∃ p, z.1 = .ref p ∧ BeadAt C H p z.2 := fun z hz => by
  obtain ⟨i, hi⟩ := List.getElem?_of_mem hz
  rw [List.getElem?_zip_eq_some] at hi
  obtain ⟨p, h1, h2⟩ := h.2 i _ hi.2
  rw [hi.1] at h1
  exact ⟨p, Option.some.inj h1, h2⟩
/-- beads told in order -/
noncomputable def ordR (rs : List Rw) : List Rw := rs.mergeSort (PySem.W.dataLe false keyD)
theorem srt_key {C : Addr} {H : Hp} {xs : List V} {rs : List Rw} (h : BdL C H xs rs) : BdL C H (srtV xs (rs.map keyD)) (ordR rs) := by
  have e1 : srtV xs (rs.map keyD) = ((xs.zip rs).mergeSort (PySem.W.dataLe false fun p : V × Rw => keyD p.2)).map Prod.fst := by
    unfold srtV
    have : xs.zip (rs.map keyD) = (xs.zip rs).map fun p => (p.1, keyD p.2) := by
      rw [List.zip_map_right]
      rfl
    have m := List.map_mergeSort (l := xs.zip rs) (f := fun p : V × Rw => (p.1, keyD p.2)) (r := PySem.W.dataLe false fun p : V × Rw => keyD p.2) (s := PySem.W.dataLe false fun p : V × PyData => p.2) (fun a _ b _ => rfl)
    rw [this, ← m, List.map_map]
    rfl
  have e2 : ordR rs = ((xs.zip rs).mergeSort (PySem.W.dataLe false fun p : V × Rw => keyD p.2)).map Prod.snd := by
    unfold ordR
    have m := List.map_mergeSort (l := xs.zip rs) (f := fun p : V × Rw => p.2) (r := PySem.W.dataLe false fun p : V × Rw => keyD p.2) (s := PySem.W.dataLe false keyD) (fun a _ b _ => rfl)
    have e : (xs.zip rs).map (fun p : V × Rw => p.2) = rs := List.map_snd_zip (by rw [h.1]; exact Nat.le_refl _)
    rw [e] at m
    exact m.symm
  rw [e1, e2]
  refine bdl_of fun z hz => ?_
  exact bdl_zip h z ((List.mergeSort_perm _ _).mem_iff.mp hz)
theorem alike_key (rs : List Rw) : PySem.W.AllAlike (rs.map keyD) := fun d hd d' hd' => by
  obtain ⟨a, _, rfl⟩ := List.mem_map.mp hd
  obtain ⟨b, _, rfl⟩ := List.mem_map.mp hd'
  rfl
theorem sortable_key (rs : List Rw) : PySem.W.Sortable (rs.map keyD) := .inl fun d hd => by
  obtain ⟨a, _, rfl⟩ := List.mem_map.mp hd
  exact ⟨_, _, rfl⟩
def spOrder (C : Addr) (Tb : List (Addr × Str)) : Sp := fun vs H Q _ => ∃ (b : Addr) (xs : List V) (rs : List Rw), vs = [.ref b] ∧ H b = some (.lst xs) ∧ BdL C H xs rs ∧ xs.length ≤ 1000 ∧ Tabs Tb H ∧
  ∀ (H' : Hp) (l : Addr) (ys : List V), ExtN H H' → Tabs Tb H' → (∀ b o, H b = some o → (∀ ps, o ≠ .tbl ps) → b ≠ l) → H' l = some (.lst ys) → BdL C H' ys (ordR rs) → Q (.ref l) H'
theorem ok_in_order (T : Tx K mg) (TB : TBs T base) : FnOk P w K mg base CX0 6 T.A_in_order T.fd_in_order ["beads"] (spOrder T.C_Bead (lamT T)) := by
  refine okC T.F_in_order T.cd_in_order sc_in_order (fun vs H Q E h => ?_) (fun A outer s H vs Q E hr h => ?_)
  · obtain ⟨b, xs, rs, rfl, hb, hB, hlen, hT, q⟩ := h
    rfl
  obtain ⟨b, xs, rs, rfl, hb, hB, hlen, hT, q⟩ := h
  refine ⟨_, (pss_one (ps_ret (pe_sortLam (n := 2) (T := lamT T) (N := ["bead"]) (a := "bead") (D := DKey T.C_Bead) (by rfl) T.z_sorted (pa_cons (pv 0) pa_nil) TB.t_in_order rfl (List.mem_cons.mpr (Or.inl rfl)) (hu_in_order T) ⟨rfl, rfl, rfl, by decide +kernel, rfl, by decide +kernel, by decide +kernel⟩ (fun f A outer s H cdv hr => (pe_meth0 (pv 0) T.cl_Bead T.m_Bead_key (ok_Bead_key T) (hr.mono (by decide)) T.b_Bead_key .nil pass0)) (impKey T) monKey (hr.mono (by decide))))), ?_⟩
  refine ⟨_, rfl, hT, fun H1 f c' eN T1 hf hc => ?_⟩
  have hB1 := hB.exn eN
  refine ⟨b, f, xs, rs.map keyD, rfl, rfl, SqL.of (lst_exn eN hb), small1000 hlen, by rw [List.length_map, hB.1], alike_key rs, sortable_key rs, fun d hd => ?_, fun i x k hx hk => ?_, fun H2 l x2 el hl => ?_⟩
  · obtain ⟨a, _, rfl⟩ := List.mem_map.mp hd
    show PyData.depth (.tuple _) ≤ 8
    simp [PyData.depth, PyData.depthAll]
  · rw [List.getElem?_map] at hk
    cases e : rs[i]? with
    | none => rw [e] at hk; cases hk
    | some r =>
      rw [e] at hk
      cases hk
      obtain ⟨p, h1, h2⟩ := hB1.2 i r e
      rw [hx] at h1
      cases h1
      exact ⟨c', hf, hc, p, r, rfl, h2, rfl⟩
  · exact q H2 l _ (eN.trans (ExtN.of x2)) (T1.ext x2) (fun c o h n => ne_of_none (eN c o h n) hl) el (srt_key (hB1.nl (NL.of x2)))
theorem made_same {H H1 : Hp} {x dx C : Addr} (nx : H x = none) (ndx : H dx = none) (k : ∀ b o, (upd (upd H dx (.own x)) x (.ins C dx [])) b = some o → b ≠ x → H1 b = some o) : Same H H1 := fun b o e => k b o (by rw [upd_ne (ne_of_none e nx), upd_ne (ne_of_none e ndx)]; exact e) (ne_of_none e nx)
def spBeadOf (K : PySem.W.Frag) (C : Addr) : Sp := fun vs H Q _ => ∃ (t : Addr) (r : Rw), vs = [.ref t] ∧ H t = some (.tup (rowVals r)) ∧ GoodRw r ∧ ∀ (H' : Hp) (p : Addr), Same H H' → H p = none → BeadAt C H' p r → Q (.ref p) H'
theorem ok_bead_of (T : Tx K mg) : FnOk P w K mg base CX0 6 T.A_bead_of T.fd_bead_of ["row"] (spBeadOf K T.C_Bead) := by
  refine T.F_bead_of.ok sc_bead_of (fun vs H Q E h => ?_) (fun cdv A outer s H vs Q E hr h => ?_)
  · obtain ⟨t, r, rfl, ht, hG, q⟩ := h
    rfl
  obtain ⟨t, r, rfl, ht, hG, q⟩ := h
  refine ⟨_, (pss_cons (ps_if (PW.pt (pw_or (pt_not (pt_val (pe_callB call_isi (by rfl) T.z_isinstance (by decide +kernel) (pa_cons (pv 0) (pa_cons (pe_bltn (v := .ty "tuple") (by rfl) T.z_tuple (by decide +kernel) rfl) pa_nil))))) (pw_or1 (pt_cmpR op_ne (pe_callB call_len_seq (by rfl) T.z_len PySem.boot_len (pa_cons (pv 0) pa_nil)) (pe_glob (v := .int 6) (by rfl) T.g_ROW_LENGTH ⟨_, rfl⟩) (nomark _))))) (pss_one ps_never) pss_nil)
      (pss_cons (ps_asg (pv 0) (pg_tup (by rfl) (pgs_cons (pg_name (i := 1) sc_bead_of.nd rfl (Or.inl rfl)) (pgs_cons (pg_name (i := 2) sc_bead_of.nd rfl (Or.inl rfl)) (pgs_cons (pg_name (i := 3) sc_bead_of.nd rfl (Or.inl rfl)) (pgs_cons (pg_name (i := 4) sc_bead_of.nd rfl (Or.inl rfl)) (pgs_cons (pg_name (i := 5) sc_bead_of.nd rfl (Or.inl rfl)) (pgs_cons (pg_name (i := 6) sc_bead_of.nd rfl (Or.inl rfl)) pgs_nil))))))))
      (pss_one (ps_ret (pe_make T.mk_Bead (ok_Bead_init T) (hr.mono (by decide)) (by rfl) T.g_Bead T.b_Bead_init .nil pass0 (pa_cons (pv 1) (pa_cons (pv 2) (pa_cons (pv 3) (pa_cons (pv 4) (pa_cons (pv 5) (pa_cons (pv 6) pa_nil))))))))))), ?_⟩
  refine ⟨_, rfl, _, _, _, _, _, rfl, .ty _, .base (.tup ht), kit_ty (r := true) (by decide +kernel), _, rfl, iteF ?_⟩
  refine ⟨_, rfl, _, _, rfl, .inr (.inl (.inl ht)), rfl, _, rfl, ?_⟩
  rw [decide_eq_true (show V.int (((rowVals r).length : Nat) : Int) = V.int 6 from rfl)]
  refine iteF ⟨_, rfl, t, _, rfl, .inl (.inl ht), rfl, ?_⟩
  refine ⟨_, _, rfl, _, _, rfl, _, _, rfl, _, _, rfl, _, _, rfl, _, _, rfl, rfl, ?_⟩
  refine ⟨_, rfl, _, rfl, _, rfl, _, rfl, _, rfl, _, rfl, ?_⟩
  intro p dx np ndx ne
  exact ⟨p, dx, r, rfl, upd_same, hG, fun H1 h1 k1 => ⟨rfl, q H1 p (made_same np ndx k1) np h1⟩⟩
end
end KB
namespace KB
open PySem PySem.Spec PyProof.Rows L2 KA
section
variable {P : Program} {w : World} {K : PySem.W.Frag} {mg : Str → Option Value} {base : Heap}
theorem anyF_iff {N : Nat} {f : Nat → Bool} : anyF N f = true ↔ ∃ j, j < N ∧ f j = true := by
  unfold anyF
  rw [List.any_eq_true]
  exact ⟨fun ⟨j, h, e⟩ => ⟨j, List.mem_range.mp h, e⟩, fun ⟨j, h, e⟩ => ⟨j, List.mem_range.mpr h, e⟩⟩
theorem like_iff {a b : Rw} : likeRw a b = true ↔ a.ac = b.ac ∧ a.we = b.we ∧ a.sh = b.sh ∧ a.fo = b.fo ∧ a.dr = b.dr := by
  unfold likeRw
  simp only [Bool.and_eq_true, decide_eq_true_eq]
theorem like_trans {a b c : Rw} (h : likeRw a b = true) (k : likeRw b c = true) : likeRw a c = true := by
  rw [like_iff] at h k ⊢
  obtain ⟨h1, h2, h3, h4, h5⟩ := h
  obtain ⟨k1, k2, k3, k4, k5⟩ := k
  exact ⟨h1.trans k1, h2.trans k2, h3.trans k3, h4.trans k4, h5.trans k5⟩
/-- of equal ones the first one alone -/
def ded (rs : List Rw) : Nat → List Rw
  | 0 => []
  | i + 1 => match rs[i]? with
    | some r => if anyF (ded rs i).length (lk (ded rs i) r) then ded rs i else ded rs i ++ [r]
    | none => ded rs i
theorem ded_step {rs : List Rw} {i : Nat} {r : Rw} (h : rs[i]? = some r) : ded rs (i + 1) = if anyF (ded rs i).length (lk (ded rs i) r) then ded rs i else ded rs i ++ [r] := by
  show (match rs[i]? with | some r => _ | none => _) = _
  rw [h]
theorem lk_any {ds : List Rw} {r : Rw} : anyF ds.length (lk ds r) = true ↔ ∃ d ∈ ds, likeRw d r = true := by
  rw [anyF_iff]
  constructor
  · rintro ⟨j, hj, e⟩
    unfold lk at e
    rw [List.getElem?_eq_getElem hj] at e
    exact ⟨_, List.getElem_mem hj, e⟩
  · rintro ⟨d, hd, e⟩
    obtain ⟨j, hj, rfl⟩ := List.getElem_of_mem hd
    refine ⟨j, hj, ?_⟩
    unfold lk
    rw [List.getElem?_eq_getElem hj]
    exact e
theorem ded_any {rs : List Rw} : ∀ (i : Nat), i ≤ rs.length → ∀ r, anyF (ded rs i).length (lk (ded rs i) r) = anyF i (lk rs r)
  | 0, _, r => rfl
  | i + 1, hi, r => by
    have ih := ded_any (rs := rs) i (by omega)
    have hr : rs[i]? = some rs[i] := List.getElem?_eq_getElem (by omega)
    have lki : lk rs r i = likeRw rs[i] r := by
      unfold lk
      rw [hr]
    have step : anyF (i + 1) (lk rs r) = (anyF i (lk rs r) || likeRw rs[i] r) := by
      unfold anyF
      rw [List.range_succ, List.any_append, ← lki]
      simp
    rw [step, ded_step hr]
    by_cases h : anyF (ded rs i).length (lk (ded rs i) rs[i]) = true
    · rw [if_pos h, ih r]
      cases hl : likeRw rs[i] r with
      | false => rw [Bool.or_false]
      | true =>
        rw [Bool.or_true, ← ih r, lk_any]
        obtain ⟨d, hd, e⟩ := lk_any.mp h
        exact ⟨d, hd, like_trans e hl⟩
    · rw [if_neg h]
      rw [Bool.eq_iff_iff, lk_any, Bool.or_eq_true, ← ih r, lk_any]
      constructor
      · rintro ⟨d, hd, e⟩
        rcases List.mem_append.mp hd with hd | hd
        · exact .inl ⟨d, hd, e⟩
        · rw [List.mem_singleton] at hd
          subst hd
          exact .inr e
      · rintro (⟨d, hd, e⟩ | e)
        · exact ⟨d, List.mem_append_left _ hd, e⟩
        · exact ⟨_, List.mem_append_right _ (List.mem_singleton.mpr rfl), e⟩
theorem ded_len (rs : List Rw) : ∀ i, (ded rs i).length ≤ i
  | 0 => Nat.le_refl _
  | i + 1 => by
    have ih := ded_len rs i
    show (match rs[i]? with | some r => _ | none => _ : List Rw).length ≤ _
    split
    · split
      · omega
      · rw [List.length_append, List.length_singleton]
        omega
    · omega
def spUnlike (C : Addr) : Sp := fun vs H Q _ => ∃ (b : Addr) (xs : List V) (rs : List Rw), vs = [.ref b] ∧ H b = some (.lst xs) ∧ BdL C H xs rs ∧ xs.length ≤ 1000 ∧
  ∀ (H' : Hp) (l : Addr) (ys : List V), H l = none → Same H H' → H' l = some (.lst ys) → BdL C H' ys (ded rs rs.length) → Q (.ref l) H'
theorem ok_unlike (T : Tx K mg) : FnOk P w K mg base CX0 3 T.A_unlike T.fd_unlike ["beads"] (spUnlike T.C_Bead) := by
  refine T.F_unlike.ok sc_unlike (fun vs H Q E h => ?_) (fun cdv A outer s H vs Q E hr h => ?_)
  · obtain ⟨b, xs, rs, rfl, hb, hB, hlen, q⟩ := h
    rfl
  obtain ⟨b, xs, rs, rfl, hb, hB, hlen, q⟩ := h
  refine ⟨_, (pss_cons (ps_set (i := 1) sc_unlike.nd rfl (Or.inl rfl) (pe_lst pa_nil))
      (pss_cons (ps_for PassesOwn.never rfl (pi_list (pv 0)) (pg_name (i := 2) sc_unlike.nd rfl (Or.inl rfl))
        (pss_one (ps_if (pt_cmpR (op_notInB monB_own6 (eqB_own6 T) (hr.mono (by decide))) (pv 2) (pv 1) (by rfl)) (pss_one (ps_expr (pe_bm PySem.F.plainAttrs_list PySem.F.slot_list_append PySem.F.type_list_append mt_append (pv 1) (pa_cons (pv 2) pa_nil)))) pss_nil)))
      (pss_one (ps_ret (pv 1))))), ?_⟩
  refine ⟨(by show 0 ≤ sizeLine; decide), fun l hl => ?_⟩
  have nb : b ≠ l := ne_of_none hb hl
  refine ⟨_, rfl, b, rfl, ⟨_, SqL.of (by rw [upd_ne nb]; exact hb)⟩, for_list (K := K) (a := b) (xs := xs) (fun i σ H' => ∃ w2 ys, σ = [some (.ref b), some (.ref l), w2] ∧ Same H H' ∧ H' l = some (.lst ys) ∧ BdL T.C_Bead H' ys (ded rs i)) ⟨_, _, rfl, same_upd hl, upd_same, ⟨rfl, fun i r h => by simp [ded] at h⟩⟩ (fun i σ H' _ h => ?_) ?_ ?_⟩
  · obtain ⟨_, _, _, s, _⟩ := h
    exact SqL.of (s _ _ hb)
  · rintro i x σ H1 hi ⟨w2, ys, rfl, s1, e1, hY⟩
    have hil : i < xs.length := (List.getElem?_eq_some_iff.mp hi).1
    have hir : i < rs.length := by rw [← hB.1]; exact hil
    obtain ⟨p, h1, hp⟩ := hB.2 i _ (List.getElem?_eq_getElem hir)
    rw [h1] at hi
    cases hi
    have hp1 := hp.nl (NL.of s1)
    refine ⟨_, rfl, _, rfl, l, ys, _, rfl, e1, its_at T hY hp1, fun H2 x2 => ⟨_, rfl, ?_⟩⟩
    rw [hY.1]
    have st := ded_step (List.getElem?_eq_getElem hir)
    refine ite2 (fun e => ?_) (fun e => ?_)
    · rw [Bool.true_xor, Bool.not_eq_true'] at e
      rw [if_neg (by rw [e]; exact Bool.false_ne_true)] at st
      refine ⟨_, rfl, .inl ⟨rfl, _, SqL.of (x2 _ _ e1)⟩, _, rfl, l, ys, _, rfl, rfl, x2 _ _ e1, ?_, ?_⟩
      · rw [hY.1]
        exact Nat.lt_of_le_of_lt (ded_len rs i) (Nat.lt_of_lt_of_le (show i < 10000 by omega) (by decide))
      · refine ⟨_, _, rfl, fun c o h => ?_, upd_same, ?_⟩
        · rw [upd_ne (ne_of_none h hl)]
          exact x2 _ _ (s1 _ _ h)
        · rw [st]
          exact ((hY.nl (NL.of x2)).snoc (hp1.nl (NL.of x2))).nl (NL.at_ (x2 _ _ e1))
    · rw [Bool.true_xor, Bool.not_eq_true, Bool.not_eq_false'] at e
      rw [if_pos e] at st
      refine ⟨_, _, rfl, s1.trans x2, x2 _ _ e1, ?_⟩
      rw [st]
      exact hY.nl (NL.of x2)
  · rintro σ H1 ⟨w2, ys, rfl, s1, e1, hY⟩
    rw [hB.1] at hY
    exact ⟨_, rfl, q H1 l ys hl s1 e1 hY⟩
end
end KB
namespace KB
open PySem PySem.Spec PyProof.Rows L2 KA
namespace Sx
section
variable {P : Program} {w : World} {K : PySem.W.Frag} {mg : Str → Option Value} {base : Heap}
def sf (x : Int × Int) : List (Str × V) := putF "over" (.int x.2) (putF "num" (.int x.1) [])
theorem sf_num (x : Int × Int) : (sf x).lookup ("num" : Str) = some (.int x.1) := by
  unfold sf
  rw [lookup_putF, if_neg (by decide +kernel), lookup_putF, if_pos rfl]
theorem sf_over (x : Int × Int) : (sf x).lookup ("over" : Str) = some (.int x.2) := by
  unfold sf
  rw [lookup_putF, if_pos rfl]
theorem sf_no (x : Int × Int) {m : Str} (h1 : ¬ m = "over") (h2 : ¬ m = "num") : (sf x).lookup m = none := by
  unfold sf
  rw [lookup_putF, if_neg h1, lookup_putF, if_neg h2]
  rfl
def ShAt (C : Addr) (H : Hp) (p : Addr) (x : Int × Int) : Prop := ∃ dx, H p = some (.ins C dx (sf x))
theorem ShAt.same {C : Addr} {H H' : Hp} {p : Addr} {x : Int × Int} (s : NL H H') (h : ShAt C H p x) : ShAt C H' p x := by
  obtain ⟨dx, e⟩ := h
  exact ⟨dx, s _ _ (fun _ z => by cases z) e⟩
def Ok (k : Nat) (x : Int × Int) : Prop := 0 < x.2 ∧ Sz k x.1 ∧ Sz k x.2
def spCommon : Sp := fun vs H Q _ => ∃ a b : Nat, vs = [.int a, .int b] ∧ Q (.int (Nat.gcd a b : Nat)) H
theorem ok_common_part (T : Tx K mg) : FnOk P w K mg base CX0 1 T.A_common_part T.fd_common_part ["one", "other"] (spCommon) := by
  refine T.F_common_part.ok sc_common_part (fun vs H Q E h => ?_) (fun cdv A outer s H vs Q E hr h => ?_)
  · obtain ⟨a, b, rfl, q⟩ := h
    rfl
  obtain ⟨a, b, rfl, q⟩ := h
  refine ⟨_, (pss_cons (ps_while PassesOwn.never (pt_cmpR op_gt (pv 1) pe_int (nomark _)) (pss_one (ps_par (i := 0) (j := 1) (by rfl) sc_common_part.nd rfl rfl (by decide) rfl rfl (pa_cons (pv 1) (pa_cons (pe_op op_mod (pv 0) (pv 1)) pa_nil)) (by rfl))))
      (pss_one (ps_ret (pv 0)))), ?_⟩
  refine while_by (fun σ H' => ∃ x y : Nat, σ = [some (.int x), some (.int y)] ∧ Nat.gcd x y = Nat.gcd a b ∧ H' = H) (fun σ _ => match σ with | [_, some (.int y)] => y.toNat | _ => 0) ⟨a, b, rfl, rfl, rfl⟩ ?_ ?_
  · rintro σ H' ⟨x, y, rfl, hg, rfl⟩
    refine ⟨_, rfl, _, _, rfl, rfl, _, rfl, ite2 (fun e => ?_) (fun e => ?_)⟩
    · have hy : 0 < y := by
        have := of_decide_eq_true e
        omega
      refine ⟨_, rfl, _, rfl, _, rfl, _, _, rfl, rfl, (by show (0 : Int) < (y : Int); omega), _, _, rfl, ⟨y, x % y, ?_, ?_, rfl⟩, ?_⟩
      · show [some (V.int (y : Int)), some (V.int ((x : Int) % (y : Int)))] = _
        rw [← Int.natCast_emod]
      · rw [gcd_turn x y hy, hg]
      · show ((x : Int) % (y : Int)).toNat < ((y : Nat) : Int).toNat
        have := Int.emod_lt_of_pos (x : Int) (show (0 : Int) < (y : Int) by omega)
        omega
    · have hy : y = 0 := by
        have : ¬ (0 : Int) < (y : Int) := fun z => e (decide_eq_true z)
        omega
      subst hy
      rw [Nat.gcd_zero_right] at hg
      subst hg
      exact ⟨_, rfl, q⟩
  · rintro σ H' Q1 Q2 hQ ⟨v, h1, i, j, h2, h3, k, h4, z⟩
    exact ⟨v, h1, i, j, h2, h3, k, h4, hQ _ _ z⟩
def spShare (C : Addr) : Sp := fun vs H Q _ => ∃ (p dx : Addr) (n d : Int) (k : Nat), vs = [.ref p, .int n, .int d] ∧ H p = some (.ins C dx []) ∧ d ≠ 0 ∧ Sz k d ∧ k ≤ 8000 ∧
  ∀ H' : Hp, ShAt C H' p (shr n d) → (∀ b o, H b = some o → b ≠ p → H' b = some o) → Q .non H'
theorem ok_Share_init (T : Tx K mg) : FnOk P w K mg base CX0 2 T.A_Share_init T.fd_Share_init ["self", "num", "over"] (spShare T.C_Share) := by
  refine okD T.F_Share_init sc_Share_init (fun vs H Q E h => ?_) (fun cdv A outer s H vs Q E hr h => ?_)
  · obtain ⟨p, dx, n, d, k, rfl, hp, hd, hs, hk, q⟩ := h
    rfl
  obtain ⟨p, dx, n, d, k, rfl, hp, hd, hs, hk, q⟩ := h
  refine ⟨_, (pss_cons (ps_if (pt_cmpR op_eq (pv 2) pe_int (nomark _)) (pss_one ps_never) pss_nil)
      (pss_cons (ps_set (i := 3) sc_Share_init.nd rfl (Or.inl rfl) (pe_call (ok_common_part T) (hr.mono (by decide)) (by rfl) T.g_common_part T.F_common_part.kp T.b_common_part .nil pass0 (pa_cons (pe_callB call_abs (by rfl) T.z_abs (by decide +kernel) (pa_cons (pv 1) pa_nil)) (pa_cons (pe_callB call_abs (by rfl) T.z_abs (by decide +kernel) (pa_cons (pv 2) pa_nil)) pa_nil))))
      (pss_cutJ (ps_if (pt_cmpR op_lt (pv 2) pe_int (nomark _)) (pss_one (ps_set (i := 3) sc_Share_init.nd rfl (Or.inl rfl) (pe_un un_neg (pv 3)))) pss_nil)
      (pss_cons (ps_fld (pv 0) (pe_op op_fdivX (pv 1) (pv 3)) rfl)
      (pss_one (ps_fld (pv 0) (pe_op op_fdivX (pv 2) (pv 3)) rfl)))))), ?_⟩
  refine ⟨_, rfl, rfl, _, rfl, ?_⟩
  rw [decide_eq_false (show ¬ V.int d = V.int 0 from fun e => hd (by injection e))]
  refine iteF ⟨_, rfl, _, rfl, _, rfl, _, rfl, n.natAbs, d.natAbs, ?_, ?_⟩
  · show [V.int (if n < 0 then -n else n), V.int (if d < 0 then -d else d)] = _
    rw [abs_nat, abs_nat]
  refine ⟨fun σ' H' => σ' = [some (.ref p), some (.int n), some (.int d), some (.int (prt n d))] ∧ H = H', ?_, ?_⟩
  · refine ⟨_, rfl, _, _, rfl, rfl, _, rfl, ite2 (fun e => ?_) (fun e => ?_)⟩
    · refine ⟨_, rfl, _, rfl, ?_, rfl⟩
      have : prt n d = -(Int.gcd n d : Int) := if_pos (of_decide_eq_true e)
      rw [this]
      rfl
    · refine ⟨?_, rfl⟩
      have : prt n d = (Int.gcd n d : Int) := if_neg (fun z => e (decide_eq_true z))
      rw [this]
      rfl
  · rintro σ' _ ⟨rfl, rfl⟩
    refine ⟨_, rfl, _, rfl, _, _, rfl, rfl, ⟨prt_ne hd, prt_log hd hs hk⟩, _, rfl, p, _, dx, _, rfl, hp, T.cl_Share, T.n_Share_num, by decide, ?_⟩
    refine ⟨_, rfl, _, rfl, _, _, rfl, rfl, ⟨prt_ne hd, prt_log hd hs hk⟩, _, rfl, p, _, dx, _, rfl, upd_same, T.cl_Share, T.n_Share_over, Nat.lt_of_le_of_lt (length_putF _ _ _) (by decide), ?_⟩
    refine q _ ⟨dx, upd_same⟩ fun b o e hb => ?_
    rw [upd_ne hb, upd_ne hb]
    exact e
def likeS (x y : Int × Int) : Bool := decide (x.1 = y.1) && decide (x.2 = y.2)
theorem likeS_refl (x : Int × Int) : likeS x x = true := by
  unfold likeS
  simp
theorem noH6 {K : PySem.W.Frag} {mg : Str → Option Value} (T : Tx K mg) {t : String} (h : t ∈ six6) : PySem.W.kitOne K (.type t) (.ref T.C_Share) = some false := by
  unfold six6 at h
  simp only [List.mem_cons, List.not_mem_nil, or_false] at h
  rcases h with rfl | rfl | rfl | rfl | rfl | rfl
  · exact T.noH_int
  · exact T.noH_str
  · exact T.noH_bool
  · exact T.noH_NoneType
  · exact T.noH_list
  · exact T.noH_tuple
def RS (K : PySem.W.Frag) (C : Addr) : Addr → V → Bool → Hp → Prop := fun a y b H => ∃ x, ShAt C H a x ∧ ((∃ p x', y = .ref p ∧ ShAt C H p x' ∧ b = likeS x x') ∨ (∃ t, t ∈ six6 ∧ TyX K H y (.type t) ∧ b = false))
theorem dec_int2 (a b : Int) : decide (V.int a = V.int b) = decide (a = b) := by
  rw [decide_eq_decide]
  exact ⟨fun e => by injection e, fun e => by rw [e]⟩
theorem ok_Share_eq (T : Tx K mg) : FnOk P w K mg base CX0 1 T.A_Share_eq T.fd_Share_eq ["self", "other"] (spEqO (RS K T.C_Share)) := by
  refine T.F_Share_eq.ok sc_Share_eq (fun vs H Q E h => ?_) (fun cdv A outer s H vs Q E hr h => ?_)
  · obtain ⟨p, y, b, rfl, ⟨x, ⟨dx, hp⟩, hy⟩, q⟩ := h
    rfl
  obtain ⟨p, y, b, rfl, ⟨x, ⟨dx, hp⟩, hy⟩, q⟩ := h
  refine ⟨_, (pss_one (ps_ret (pe_and (pe_callB call_isi (by rfl) T.z_isinstance (by decide +kernel) (pa_cons (pv 1) (pa_cons (pe_glob (v := .ref T.C_Share) (by rfl) T.g_Share rfl) pa_nil))) (pe_and (pe_cmpR op_eq (pe_fld (pv 0) rfl) (pe_fld (pv 1) rfl) (nomark _)) (pe_one (pe_cmpR op_eq (pe_fld (pv 0) rfl) (pe_fld (pv 1) rfl) (nomark _))))))), ?_⟩
  have q := q H Ext.rfl'
  rcases hy with ⟨p', x', rfl, ⟨dx', hp'⟩, rfl⟩ | ⟨t, ht, ty, rfl⟩
  · refine ⟨_, rfl, .ref p', .ref T.C_Share, .ref T.C_Share, .ref T.C_Share, true, rfl, .own _, T.ic_Share.ty T.cl_Share hp', T.i_Share, _, rfl, iteT ?_⟩
    refine ⟨_, rfl, p, _, dx, _, _, rfl, hp, T.cl_Share, T.n_Share_num, sf_num x, _, rfl, p', _, dx', _, _, rfl, hp', T.cl_Share, T.n_Share_num, sf_num x', rfl, _, rfl, ?_⟩
    rw [dec_int2]
    have e : likeS x x' = (decide (x.1 = x'.1) && decide (x.2 = x'.2)) := rfl
    refine ite2 (fun h1 => ?_) (fun h1 => ?_)
    · rw [h1, Bool.true_and] at e
      refine ⟨_, rfl, p, _, dx, _, _, rfl, hp, T.cl_Share, T.n_Share_over, sf_over x, _, rfl, p', _, dx', _, _, rfl, hp', T.cl_Share, T.n_Share_over, sf_over x', rfl, ?_⟩
      rw [dec_int2, ← e]
      exact q
    · rw [Bool.not_eq_true] at h1
      rw [h1] at e
      rw [e] at q
      exact q
  · exact ⟨_, rfl, y, .ref T.C_Share, .type t, .ref T.C_Share, false, rfl, .own _, ty, noH6 T ht, _, rfl, iteF q⟩
theorem rs_mon {C : Addr} : ∀ a y b H H', Ext H H' → RS K C a y b H → RS K C a y b H' := fun a y b H H' e h => by
  obtain ⟨r, ⟨dx, ha⟩, hy⟩ := h
  refine ⟨r, ⟨dx, e _ _ ha⟩, ?_⟩
  rcases hy with ⟨p, r', h1, ⟨dy, h2⟩, h3⟩ | ⟨t, ht, ty, hb⟩
  · exact .inl ⟨p, r', h1, ⟨dy, e _ _ h2⟩, h3⟩
  · exact .inr ⟨t, ht, tyx_same e ty, hb⟩
def DOwn2 (K : PySem.W.Frag) (C : Addr) : BEq2 := BOwn K C (RS K C)
theorem monB_own2 {C : Addr} : MonB (DOwn2 K C) := monB_own rs_mon
theorem eqB_own2 {X : Cx} (T : Tx X.K X.mg) : EqB X 1 (DOwn2 X.K T.C_Share) :=
  eqB_own (E := E0) (ok_Share_eq (P := X.prog) (w := X.w) (base := X.base) T) T.m_Share_eq.at_ T.m_Share_eq.fn T.b_Share_eq pass0 T.snH_NoneType
theorem rcB_own2 {X : Cx} (T : Tx X.K X.mg) : RcB X 1 false (DOwn2 X.K T.C_Share) :=
  rcB_own (E := E0) (ok_Share_eq (P := X.prog) (w := X.w) (base := X.base) T) T.m_Share_eq.at_ T.m_Share_eq.fn T.b_Share_eq pass0 T.snH_NoneType
theorem rcB_ne2 {X : Cx} (T : Tx X.K X.mg) : RcB X 2 true (BOwn1 X.K T.C_Share (RS X.K T.C_Share)) :=
  rcB_ownNe (E := E0) (ok_Share_eq (P := X.prog) (w := X.w) (base := X.base) T) T.m_Share_eq.at_ T.m_Share_eq.fn T.b_Share_eq pass0 T.hm_Share T.hne_Share
theorem rcB_ownK {X : Cx} (T : Tx K mg) (hK : X.K = K) (hm : X.mg = mg) : RcB X 1 false (DOwn2 K T.C_Share) := by
  subst hK
  subst hm
  exact rcB_own2 T
theorem rcB_neK {X : Cx} (T : Tx K mg) (hK : X.K = K) (hm : X.mg = mg) : RcB X 2 true (BOwn1 K T.C_Share (RS K T.C_Share)) := by
  subst hK
  subst hm
  exact rcB_ne2 T
theorem ownS_at (T : Tx K mg) {H : Hp} {p p' : Addr} {x x' : Int × Int} (hp : ShAt T.C_Share H p x) (hp' : ShAt T.C_Share H p' x') : DOwn2 K T.C_Share (.ref p) (.ref p') (likeS x x') H := by
  obtain ⟨dx, h⟩ := id hp
  obtain ⟨dx', h'⟩ := id hp'
  have same : V.ref p' = V.ref p → likeS x x' = true := fun e => by
    injection e with e
    subst e
    have e2 := Option.some.inj (h.symm.trans h')
    injection e2 with _ _ e3
    have a1 := sf_num x
    have a2 := sf_over x
    rw [e3] at a1 a2
    rw [sf_num] at a1
    rw [sf_over] at a2
    injection a1 with a1
    injection a1 with a1
    injection a2 with a2
    injection a2 with a2
    unfold likeS
    rw [a1, a2]
    simp
  exact .inl ⟨p, dx, _, _, rfl, h, T.ic_Share.ty T.cl_Share h', by simp [PySem.W.notFirst], ⟨x, hp, .inl ⟨p', x', rfl, hp', rfl⟩⟩, same⟩
abbrev nS (i : Int) : Str := Str.ofString (toString i)
def Sm (i : Int) : Prop := i.natAbs < 10 ^ 300
theorem nS_le {i : Int} (h : Sm i) : (nS i).length ≤ 301 := by
  unfold nS
  rw [TL.len_tl]
  have := TL.numL_len (n := i.natAbs) (k := 300) (by decide) h
  by_cases hi : i < 0
  · rw [tl_neg hi, List.length_cons]
    omega
  · rw [tl_pos (by omega)]
    omega
def reprS (x : Int × Int) : List Nat := TL.tl "Share(" ++ (TL.tl (nS x.1) ++ (TL.tl ", " ++ (TL.tl (nS x.2) ++ TL.tl ")")))
def strS (x : Int × Int) : List Nat := TL.tl (nS x.1) ++ (if x.2 = 1 then [] else TL.tl "/" ++ TL.tl (nS x.2))
def spShS (C : Addr) (f : Int × Int → List Nat) : Sp := fun vs H Q _ => ∃ (p : Addr) (x : Int × Int), vs = [.ref p] ∧ ShAt C H p x ∧ Sm x.1 ∧ Sm x.2 ∧ ∀ (H' : Hp) (z : Str), TL.tl z = f x → z.length ≤ 1000 → Same H H' → Q (.str z) H'
theorem ok_Share_repr (T : Tx K mg) : FnOk P w K mg base CX0 2 T.A_Share_repr T.fd_Share_repr ["self"] (spShS T.C_Share reprS) := by
  refine T.F_Share_repr.ok sc_Share_repr (fun vs H Q E h => ?_) (fun cdv A outer s H vs Q E hr h => ?_)
  · obtain ⟨p, x, rfl, ⟨dx, hp⟩, s1, s2, q⟩ := h
    rfl
  obtain ⟨p, x, rfl, ⟨dx, hp⟩, s1, s2, q⟩ := h
  refine ⟨_, (pss_one (ps_ret (pe_joined (PJ.cons pe_str (PJ.cons (pe_fmtB (pe_call (ok_figures T) (hr.mono (by decide)) (by rfl) T.g_figures T.F_figures.kp T.b_figures .nil pass0 (pa_cons (pe_fld (pv 0) rfl) pa_nil))) (PJ.cons pe_str (PJ.cons (pe_fmtB (pe_call (ok_figures T) (hr.mono (by decide)) (by rfl) T.g_figures T.F_figures.kp T.b_figures .nil pass0 (pa_cons (pe_fld (pv 0) rfl) pa_nil))) (PJ.cons pe_str PJ.nil)))))))), ?_⟩
  have b1 : ("Share(" : Str).length ≤ 6 := by decide +kernel
  have b2 : (", " : Str).length ≤ 2 := by decide +kernel
  have b3 : (")" : Str).length ≤ 1 := by decide +kernel
  have c1 := app_le c_emp b1
  have c2 := app_le c1 (nS_le s1)
  have c3 := app_le c2 b2
  have c4 := app_le c3 (nS_le s2)
  have c5 := app_le c4 b3
  refine ⟨_, rfl, fit c1, _, rfl, p, _, dx, _, _, rfl, hp, T.cl_Share, T.n_Share_num, sf_num x, x.1, rfl, s1, fun H1 z1 e1 x1 => ?_⟩
  subst e1
  refine .inl ⟨_, rfl, fit (nS_le s1), _, rfl, fit c2, _, rfl, fit c3, _, rfl, p, _, dx, _, _, rfl, x1 _ _ hp, T.cl_Share, T.n_Share_over, sf_over x, x.2, rfl, s2, fun H2 z2 e2 x2 => ?_⟩
  subst e2
  refine .inl ⟨_, rfl, fit (nS_le s2), _, rfl, fit c4, _, rfl, fit c5, ?_⟩
  refine q _ _ ?_ (Nat.le_trans c5 (by decide)) (x1.trans x2)
  unfold reprS nS
  simp only [TL.tl_append, List.append_assoc]
  rfl
end
end Sx
end KB
namespace KB
open PySem PySem.Spec PyProof.Rows L2 KA
namespace Lo
section
variable {P : Program} {w : World} {K : PySem.W.Frag} {mg : Str → Option Value} {base : Heap}
/-- the five things of a lot -/
structure Pt where
  called : Str
  space : Int
  lo : Int
  hi : Int
  hues : List Str
structure GoodPt (p : Pt) : Prop where
  name : nm (.str p.called) = true
  s0 : 0 ≤ p.space
  s1 : p.space ≤ 20
  l0 : 1 ≤ p.lo
  lh : p.lo ≤ p.hi
  h1 : p.hi ≤ 1000000
  hues : ∀ z ∈ p.hues, nm (.str z) = true
  un : p.hues.Nodup
  few : p.hues.length ≤ 8
theorem notT {b : Bool} (h : (!b) = true) : b = false := by cases b <;> simp_all
theorem notF {b : Bool} (h : ¬ (!b) = true) : b = true := by cases b <;> simp_all
def Sh (v : V) : Prop := ∀ z, v = .str z → z.length ≤ 100000
theorem whl_int {v : V} {lo hi : Int} (h : whl v lo hi = true) : ∃ i, v = .int i := by
  cases v with
  | int i => exact ⟨i, rfl⟩
  | _ => cases h
theorem nm_str {v : V} (h : nm v = true) : ∃ z, v = .str z := by
  cases v with
  | str z => exact ⟨z, rfl⟩
  | _ => cases h
/-- what is handed in as shades, and whether it is some -/
inductive ShV (K : PySem.W.Frag) (H : Hp) : V → Bool → Prop
  | no {v : V} {t : Value} (ty : TyX K H v t) (k : PySem.W.kitOne K t (.type "tuple") = some false) : ShV K H v false
  | odd {l : Addr} {xs : List V} (h : H l = some (.tup xs)) (th : ∀ x ∈ xs, Th K H x ∧ Sh x) (few : xs.length ≤ 100) (bad : (xs.map nm).all id = false) : ShV K H (.ref l) false
  | txt {l : Addr} {zs : List Str} (h : H l = some (.tup (zs.map V.str))) (g : ∀ z ∈ zs, nm (.str z) = true) (few : zs.length ≤ 100) : ShV K H (.ref l) (decide zs.Nodup)
theorem ShV.same {K : PySem.W.Frag} {H H' : Hp} {v : V} {b : Bool} (s : Same H H') (h : ShV K H v b) : ShV K H' v b := by
  cases h with
  | no ty k => exact .no (tyx_same s ty) k
  | odd h th few bad => exact .odd (s _ _ h) (fun x hx => ⟨(th x hx).1.same s, (th x hx).2⟩) few bad
  | txt h g few => exact .txt (s _ _ h) g few
def spShades (K : PySem.W.Frag) : Sp := fun vs H Q _ => ∃ (v : V) (b : Bool), vs = [v] ∧ ShV K H v b ∧ ∀ H', Same H H' → Q (.bl b) H'
theorem nms_all : ∀ {zs : List Str}, (∀ z ∈ zs, nm (.str z) = true) → ((zs.map V.str).map nm).all id = true
  | [], _ => rfl
  | z :: zs, h => by
    show (nm (.str z) && ((zs.map V.str).map nm).all id) = true
    rw [h z (List.mem_cons_self ..), nms_all fun y hy => h y (List.mem_cons_of_mem _ hy)]
    rfl
theorem bls_of {acc xs : List V} (l : acc.length = xs.length) (g : ∀ (j : Nat) (v : V), acc[j]? = some v → ∀ x, xs[j]? = some x → v = .bl (nm x)) : acc = (xs.map nm).map V.bl := by
  refine List.ext_getElem? fun i => ?_
  by_cases hi : i < acc.length
  · have hi2 : i < xs.length := by omega
    have := g i _ (List.getElem?_eq_getElem hi) _ (List.getElem?_eq_getElem hi2)
    rw [List.getElem?_eq_getElem hi, this, List.getElem?_map, List.getElem?_map, List.getElem?_eq_getElem hi2]
    rfl
  · rw [List.getElem?_eq_none (by omega), List.getElem?_eq_none (by rw [List.length_map, List.length_map]; omega)]
theorem ok_are_shades (T : Tx K mg) : FnOk P w K mg base CX0 2 T.A_are_shades T.fd_are_shades ["thing"] (spShades K) := by
  refine T.F_are_shades.ok sc_are_shades (fun vs H Q E h => ?_) (fun cdv A outer s H vs Q E hr h => ?_)
  · obtain ⟨v, b, rfl, hv, q⟩ := h
    rfl
  obtain ⟨v, b, rfl, hv, q⟩ := h
  refine ⟨_, (pss_cons (ps_if (PW.pt (pw_or (pt_not (pt_val (pe_callB call_isi (by rfl) T.z_isinstance (by decide +kernel) (pa_cons (pv 0) (pa_cons (pe_bltn (v := .ty "tuple") (by rfl) T.z_tuple (by decide +kernel) rfl) pa_nil))))) (pw_or1 (pt_not (pt_val (pe_callB (cr_all rfl) (by rfl) T.z_all (by decide +kernel) (pa_cons (pe_lc (own := [("shade", 1)]) (g := gName 1) (tt := tYes) rfl sc_are_shades.nd (pi_tup (pv 0)) (blkOk_by (N := ["thing", "shade"]) (sc := defScope s_are_shades) (by decide +kernel)) (fun _ _ _ _ _ => (pg_name (i := 1) sc_are_shades.nd rfl (Or.inl rfl))) (fun _ _ _ _ _ => pts_nil) (fun _ _ _ _ _ => (pe_call (ok_is_name T) (hr.mono (by decide)) (by rfl) T.g_is_name T.F_is_name.kp T.b_is_name .nil pass0 (pa_cons (pv 1) pa_nil)))) pa_nil))))))) (pss_one (ps_ret pe_bl)) pss_nil)
      (pss_one (ps_ret (pe_cmpR op_eq (pe_lenSetT rfl (by rfl) T.z_len (by rfl) T.z_set (pv 0)) (pe_callB call_len_seq (by rfl) T.z_len PySem.boot_len (pa_cons (pv 0) pa_nil)) (nomark _))))), ?_⟩
  cases hv with
  | no ty k =>
    refine ⟨_, rfl, v, _, _, _, _, rfl, .ty _, ty, k, _, rfl, iteT ?_⟩
    exact iteT (q H (Same.refl H))
  | @odd l xs h th few bad =>
    refine ⟨_, rfl, _, _, _, _, _, rfl, .ty _, .base (.tup h), kit_ty (r := true) (by decide +kernel), _, rfl, iteF ?_⟩
    refine ⟨_, rfl, l, rfl, ⟨_, .inl (.inl h)⟩, fun D hD => lc_genT (K := K) hD h (by omega) (fun j v _ => ∀ x, xs[j]? = some x → v = .bl (nm x)) (fun j v H1 H2 s h => h) ?_ ?_⟩
    · intro i x H2 R C hx s2 hR
      obtain ⟨tx, sx⟩ := th x (List.mem_of_getElem? hx)
      exact ⟨rfl, yesT ⟨_, rfl, x, rfl, tx.same s2, sx, fun H3 s3 => hR _ _ s3 fun y hy => by
        rw [hx] at hy
        cases hy
        rfl⟩⟩
    · intro H1 acc s1 e1 l1 g1
      rw [bls_of l1 g1] at e1
      refine ⟨D, xs.map nm, rfl, SqL.of e1, _, rfl, ?_⟩
      rw [bad]
      exact iteT (q H1 s1)
  | @txt l zs h g few =>
    refine ⟨_, rfl, _, _, _, _, _, rfl, .ty _, .base (.tup h), kit_ty (r := true) (by decide +kernel), _, rfl, iteF ?_⟩
    refine ⟨_, rfl, l, rfl, ⟨_, .inl (.inl h)⟩, fun D hD => lc_genT (K := K) hD h (by rw [List.length_map]; omega) (fun j v _ => ∀ x, (zs.map V.str)[j]? = some x → v = .bl (nm x)) (fun j v H1 H2 s h => h) ?_ ?_⟩
    · intro i x H2 R C hx s2 hR
      obtain ⟨z, hz, rfl⟩ := List.mem_map.mp (List.mem_of_getElem? hx)
      exact ⟨rfl, yesT ⟨_, rfl, _, rfl, .str z, (fun y hy => by injection hy with hy; rw [← hy]; exact short_name (g z hz)), fun H3 s3 => hR _ _ s3 fun y hy => by
        rw [hx] at hy
        cases hy
        rfl⟩⟩
    · intro H1 acc s1 e1 l1 g1
      rw [bls_of l1 g1] at e1
      refine ⟨D, (zs.map V.str).map nm, rfl, SqL.of e1, _, rfl, ?_⟩
      rw [nms_all g]
      refine iteF ?_
      have h1 := s1 _ _ h
      refine ⟨_, rfl, l, zs, rfl, h1, by omega, fun c hc hn => ⟨_, rfl, l, _, rfl, .inr (.inl (.inl h1)), rfl, ?_⟩⟩
      have e : decide (V.int (c : Nat) = V.int ((zs.map V.str).length : Nat)) = decide zs.Nodup := by
        rw [List.length_map, decide_eq_decide, ← hn]
        constructor
        · intro e
          injection e with e
          omega
        · intro e
          rw [e]
      rw [e]
      exact q H1 s1
def lf (p : Pt) (t : Addr) : List (Str × V) := putF "shades" (.ref t) (putF "most" (.int p.hi) (putF "least" (.int p.lo) (putF "room" (.int p.space) (putF "name" (.str p.called) []))))
theorem lf_name (p : Pt) (t : Addr) : (lf p t).lookup ("name" : Str) = some (.str p.called) := by
  unfold lf
  rw [lookup_putF, if_neg (by decide +kernel), lookup_putF, if_neg (by decide +kernel), lookup_putF, if_neg (by decide +kernel), lookup_putF, if_neg (by decide +kernel), lookup_putF, if_pos rfl]
theorem lf_room (p : Pt) (t : Addr) : (lf p t).lookup ("room" : Str) = some (.int p.space) := by
  unfold lf
  rw [lookup_putF, if_neg (by decide +kernel), lookup_putF, if_neg (by decide +kernel), lookup_putF, if_neg (by decide +kernel), lookup_putF, if_pos rfl]
theorem lf_least (p : Pt) (t : Addr) : (lf p t).lookup ("least" : Str) = some (.int p.lo) := by
  unfold lf
  rw [lookup_putF, if_neg (by decide +kernel), lookup_putF, if_neg (by decide +kernel), lookup_putF, if_pos rfl]
theorem lf_most (p : Pt) (t : Addr) : (lf p t).lookup ("most" : Str) = some (.int p.hi) := by
  unfold lf
  rw [lookup_putF, if_neg (by decide +kernel), lookup_putF, if_pos rfl]
theorem lf_shades (p : Pt) (t : Addr) : (lf p t).lookup ("shades" : Str) = some (.ref t) := by
  unfold lf
  rw [lookup_putF, if_pos rfl]
theorem lf_no (p : Pt) (t : Addr) {m : Str} (h1 : ¬ m = "shades") (h2 : ¬ m = "most") (h3 : ¬ m = "least") (h4 : ¬ m = "room") (h5 : ¬ m = "name") : (lf p t).lookup m = none := by
  unfold lf
  rw [lookup_putF, if_neg h1, lookup_putF, if_neg h2, lookup_putF, if_neg h3, lookup_putF, if_neg h4, lookup_putF, if_neg h5]
  rfl
def LotAt (C : Addr) (H : Hp) (a : Addr) (p : Pt) : Prop := ∃ dx t, H a = some (.ins C dx (lf p t)) ∧ H t = some (.tup (p.hues.map V.str))
theorem LotAt.same {C : Addr} {H H' : Hp} {a : Addr} {p : Pt} (s : Same H H') (h : LotAt C H a p) : LotAt C H' a p := by
  obtain ⟨dx, t, h1, h2⟩ := h
  exact ⟨dx, t, s _ _ h1, s _ _ h2⟩
theorem LotAt.nl {C : Addr} {H H' : Hp} {a : Addr} {p : Pt} (s : NL H H') (h : LotAt C H a p) : LotAt C H' a p := by
  obtain ⟨dx, t, h1, h2⟩ := h
  exact ⟨dx, t, s _ _ (fun _ z => by cases z) h1, s _ _ (fun _ z => by cases z) h2⟩
def ShH (H : Hp) (e : V) (zs : List Str) : Prop := (e = .non ∧ zs = []) ∨ ∃ l, e = .ref l ∧ H l = some (.tup (zs.map V.str))
theorem th_nm {K : PySem.W.Frag} {H : Hp} {v : V} (h : nm v = true) : Th K H v ∧ Sh v := by
  obtain ⟨z, rfl⟩ := nm_str h
  exact ⟨.str z, fun y hy => by injection hy with hy; rw [← hy]; exact short_name h⟩
theorem sh_nm {v : V} (h : nm v = true) : Sh v := by
  obtain ⟨z, rfl⟩ := nm_str h
  exact fun y hy => by injection hy with hy; rw [← hy]; exact short_name h
theorem th_whl {K : PySem.W.Frag} {H : Hp} {v : V} {lo hi : Int} (h : whl v lo hi = true) : Th K H v := by
  obtain ⟨i, rfl⟩ := whl_int h
  exact .int i
theorem whl_ok {i lo hi : Int} (h1 : lo ≤ i) (h2 : i ≤ hi) : whl (.int i) lo hi = true := by
  show (decide (lo ≤ i) && decide (i ≤ hi)) = true
  rw [decide_eq_true h1, decide_eq_true h2]
  rfl
def spLotN (C : Addr) : Sp := fun vs H Q _ => ∃ (p dx : Addr) (u : Pt) (e : V), vs = [.ref p, .str u.called, .int u.space, .int u.lo, .int u.hi, e] ∧ H p = some (.ins C dx []) ∧ GoodPt u ∧ ShH H e u.hues ∧ ∀ H' : Hp, LotAt C H' p u → (∀ b o, H b = some o → b ≠ p → H' b = some o) → Q .non H'
theorem ok_Lot_init (T : Tx K mg) : FnOk P w K mg base CX0 4 T.A_Lot_init T.fd_Lot_init ["self", "name", "room", "least", "most", "shades"] (spLotN T.C_Lot) := by
  refine okD T.F_Lot_init sc_Lot_init (fun vs H Q E h => ?_) (fun cdv A outer s H vs Q E hr h => ?_)
  · obtain ⟨p, dx, u, e, rfl, hp, g, he, qy⟩ := h
    rfl
  obtain ⟨p, dx, u, e, rfl, hp, g, he, qy⟩ := h
  refine ⟨_, (pss_cons (ps_if (pt_not (pt_val (pe_call (ok_is_name T) (hr.mono (by decide)) (by rfl) T.g_is_name T.F_is_name.kp T.b_is_name .nil pass0 (pa_cons (pv 1) pa_nil)))) (pss_one ps_never) pss_nil)
      (pss_cons (ps_if (pt_not (pt_val (pe_call (ok_is_whole T) (hr.mono (by decide)) (by rfl) T.g_is_whole T.F_is_whole.kp T.b_is_whole .nil pass0 (pa_cons (pv 2) (pa_cons pe_int (pa_cons (pe_glob (v := .int 20) (by rfl) T.g_MOST_ROOM ⟨_, rfl⟩) pa_nil)))))) (pss_one ps_never) pss_nil)
      (pss_cons (ps_if (PW.pt (pw_or (pt_not (pt_val (pe_call (ok_is_measure T) (hr.mono (by decide)) (by rfl) T.g_is_measure T.F_is_measure.kp T.b_is_measure .nil pass0 (pa_cons (pv 3) pa_nil)))) (pw_or (pt_not (pt_val (pe_call (ok_is_measure T) (hr.mono (by decide)) (by rfl) T.g_is_measure T.F_is_measure.kp T.b_is_measure .nil pass0 (pa_cons (pv 4) pa_nil)))) (pw_or1 (pt_cmpR op_lt (pv 4) (pv 3) (nomark _)))))) (pss_one ps_never) pss_nil)
      (pss_cons (ps_if (PW.pt (pw_and (pt_cmpR op_notN (pv 5) pe_non (nomark _)) (pw_and1 (pt_not (pt_val (pe_call (ok_are_shades T) (hr.mono (by decide)) (by rfl) T.g_are_shades T.F_are_shades.kp T.b_are_shades .nil pass0 (pa_cons (pv 5) pa_nil))))))) (pss_one ps_never) pss_nil)
      (pss_cons (ps_fld (pv 0) (pv 1) rfl)
      (pss_cons (ps_fld (pv 0) (pv 2) rfl)
      (pss_cons (ps_fld (pv 0) (pv 3) rfl)
      (pss_cons (ps_fld (pv 0) (pv 4) rfl)
      (pss_one (ps_fld (pv 0) (pe_ifExp (pt_cmpR op_isN (pv 5) pe_non (nomark _)) (pe_tup pa_nil) (pv 5)) rfl)))))))))), ?_⟩
  refine ⟨_, rfl, _, rfl, .str _, (fun z hz => by injection hz with hz; rw [← hz]; exact short_name g.name), fun H1 s1 => ⟨_, rfl, ?_⟩⟩
  rw [g.name]
  refine iteF ⟨_, rfl, _, 0, 20, rfl, .int _, _, rfl, ?_⟩
  rw [whl_ok g.s0 g.s1]
  refine iteF ⟨_, rfl, _, rfl, .int _, _, rfl, ?_⟩
  rw [whl_ok g.l0 (Int.le_trans g.lh g.h1)]
  refine iteF ⟨_, rfl, _, rfl, .int _, _, rfl, ?_⟩
  rw [whl_ok (Int.le_trans g.l0 g.lh) g.h1]
  refine iteF ⟨_, rfl, _, rfl, _, _, rfl, rfl, _, rfl, ?_⟩
  have lh := g.lh
  rw [decide_eq_false (show ¬ u.hi < u.lo by omega)]
  refine iteF ?_
  have hp1 := s1 _ _ hp
  rcases he with ⟨rfl, hz⟩ | ⟨l, rfl, hl⟩
  · refine ⟨_, rfl, rfl, _, rfl, iteF (iteF ?_)⟩
    refine ⟨_, rfl, _, rfl, p, _, dx, _, rfl, hp1, T.cl_Lot, T.n_Lot_name, by decide, ?_⟩
    refine ⟨_, rfl, _, rfl, p, _, dx, _, rfl, upd_same, T.cl_Lot, T.n_Lot_room, Nat.lt_of_le_of_lt (few few0) (by decide), ?_⟩
    refine ⟨_, rfl, _, rfl, p, _, dx, _, rfl, upd_same, T.cl_Lot, T.n_Lot_least, Nat.lt_of_le_of_lt (few (few few0)) (by decide), ?_⟩
    refine ⟨_, rfl, _, rfl, p, _, dx, _, rfl, upd_same, T.cl_Lot, T.n_Lot_most, Nat.lt_of_le_of_lt (few (few (few few0))) (by decide), ?_⟩
    refine ⟨_, rfl, rfl, _, rfl, iteT ⟨Nat.zero_le _, fun t ht => ?_⟩⟩
    have ntp : t ≠ p := fun z => by rw [z, upd_same] at ht; cases ht
    refine ⟨_, rfl, p, _, dx, _, rfl, same_upd ht _ _ upd_same, T.cl_Lot, T.n_Lot_shades, Nat.lt_of_le_of_lt (few (few (few (few few0)))) (by decide), ?_⟩
    refine qy _ ⟨dx, t, upd_same, ?_⟩ fun b o e hb => ?_
    · rw [upd_ne ntp, hz]
      exact upd_same
    · rw [upd_ne hb]
      refine same_upd ht _ _ ?_
      rw [upd_ne hb, upd_ne hb, upd_ne hb, upd_ne hb]
      exact s1 _ _ e
  · refine ⟨_, rfl, rfl, _, rfl, iteT ⟨_, rfl, _, _, rfl, .txt (s1 _ _ hl) g.hues (Nat.le_trans g.few (by decide)), fun H2 s2 => ⟨_, rfl, ?_⟩⟩⟩
    rw [decide_eq_true g.un]
    refine iteF ?_
    have hp2 := s2 _ _ hp1
    have nlp : l ≠ p := fun z => by rw [z, hp] at hl; cases hl
    refine ⟨_, rfl, _, rfl, p, _, dx, _, rfl, hp2, T.cl_Lot, T.n_Lot_name, by decide, ?_⟩
    refine ⟨_, rfl, _, rfl, p, _, dx, _, rfl, upd_same, T.cl_Lot, T.n_Lot_room, Nat.lt_of_le_of_lt (few few0) (by decide), ?_⟩
    refine ⟨_, rfl, _, rfl, p, _, dx, _, rfl, upd_same, T.cl_Lot, T.n_Lot_least, Nat.lt_of_le_of_lt (few (few few0)) (by decide), ?_⟩
    refine ⟨_, rfl, _, rfl, p, _, dx, _, rfl, upd_same, T.cl_Lot, T.n_Lot_most, Nat.lt_of_le_of_lt (few (few (few few0))) (by decide), ?_⟩
    refine ⟨_, rfl, rfl, _, rfl, iteF ⟨_, rfl, _, rfl, p, _, dx, _, rfl, upd_same, T.cl_Lot, T.n_Lot_shades, Nat.lt_of_le_of_lt (few (few (few (few few0)))) (by decide), ?_⟩⟩
    refine qy _ ⟨dx, l, upd_same, ?_⟩ fun b o e hb => ?_
    · rw [upd_ne nlp, upd_ne nlp, upd_ne nlp, upd_ne nlp, upd_ne nlp]
      exact s2 _ _ (s1 _ _ hl)
    · rw [upd_ne hb, upd_ne hb, upd_ne hb, upd_ne hb, upd_ne hb]
      exact s2 _ _ (s1 _ _ e)

theorem sh_name {z : Str} (h : nm (.str z) = true) : PyData.canLay0 (.str z) = true := by
  have nmE : nm (.str z) = (decide (1 ≤ z.length) && decide (z.length ≤ 8) && z.cps.toList.all lower) := rfl
  rw [nmE] at h
  simp only [Bool.and_eq_true] at h
  show z.cps.all (· < 0x110000) = true
  rw [← Array.all_toList, List.all_eq_true]
  intro c hc
  have := lower_lt (List.all_eq_true.mp h.2 c hc)
  exact decide_eq_true (by omega)
def strsD (zs : List Str) : List PyData := zs.map PyData.str
theorem strs_dp {K : PySem.W.Frag} {H : Hp} : ∀ zs : List Str, DpAll K H (zs.map V.str) (strsD zs)
  | [] => .nil
  | z :: zs => .cons (.str z) (strs_dp zs)
theorem strsD_ok : ∀ {zs : List Str}, (∀ z ∈ zs, nm (.str z) = true) → PyData.canLayAll0 (strsD zs) = true ∧ PyData.depthAll (strsD zs) ≤ 0
  | [], _ => ⟨rfl, by decide⟩
  | z :: zs, h => by
    obtain ⟨a, b⟩ := strsD_ok fun y hy => h y (List.mem_cons_of_mem _ hy)
    refine ⟨?_, ?_⟩
    · show (PyData.canLay0 (.str z) && PyData.canLayAll0 (strsD zs)) = true
      rw [a, sh_name (h z (List.mem_cons_self ..))]
      rfl
    · show max 0 (PyData.depthAll (strsD zs)) ≤ 0
      omega
theorem tupD_sh {zs : List Str} (h : ∀ z ∈ zs, nm (.str z) = true) : SeqAt.shaped (.tuple (strsD zs)) = true := by
  obtain ⟨a, b⟩ := strsD_ok h
  show (PyData.canLayAll0 (strsD zs) && decide (PyData.depthAll (strsD zs) + 1 ≤ 64)) = true
  rw [a, decide_eq_true (by omega)]
  rfl
theorem lstD_sh {zs : List Str} (h : ∀ z ∈ zs, nm (.str z) = true) : SeqAt.shaped (.list (strsD zs)) = true := by
  obtain ⟨a, b⟩ := strsD_ok h
  show (PyData.canLayAll0 (strsD zs) && decide (PyData.depthAll (strsD zs) + 1 ≤ 64)) = true
  rw [a, decide_eq_true (by omega)]
  rfl
theorem strs_eqv : ∀ xs ys : List Str, PyData.eqvAll (strsD xs) (strsD ys) = decide (xs = ys)
  | [], [] => rfl
  | [], _ :: _ => rfl
  | _ :: _, [] => rfl
  | x :: xs, y :: ys => by
    show ((x == y) && PyData.eqvAll (strsD xs) (strsD ys)) = _
    rw [strs_eqv xs ys, Bool.eq_iff_iff]
    simp
theorem eqv_nilT (zs : List Str) : PyData.eqv (.tuple (strsD zs)) (.tuple []) = zs.isEmpty := by
  cases zs <;> rfl
theorem inV_strs (z : Str) : ∀ zs : List Str, inV (.str z) (zs.map V.str) = zs.contains z
  | [] => rfl
  | y :: zs => by
    have ih := inV_strs z zs
    show (eqV (.str y) (.str z) || inV (.str z) (zs.map V.str)) = _
    rw [ih, List.contains_cons]
    congr 1
    show (y == z) = (z == y)
    rw [Bool.eq_iff_iff, beq_iff_eq, beq_iff_eq]
    exact ⟨fun e => e.symm, fun e => e.symm⟩
theorem flat_strs : ∀ zs : List Str, (zs.map V.str).all flatV = true
  | [] => rfl
  | _ :: zs => by
    show (true && (zs.map V.str).all flatV) = true
    rw [flat_strs zs]
    rfl
def spLotLen (CL : Addr) : Sp := fun vs H Q _ => ∃ (a : Addr) (u : Pt), vs = [.ref a] ∧ LotAt CL H a u ∧ GoodPt u ∧ Q (.int u.space) H
theorem ok_Lot_len (T : Tx K mg) : FnOk P w K mg base CX0 1 T.A_Lot_len T.fd_Lot_len ["self"] (spLotLen T.C_Lot) := by
  refine T.F_Lot_len.ok sc_Lot_len (fun vs H Q E h => ?_) (fun cdv A outer s H vs Q E hr h => ?_)
  · obtain ⟨a, u, rfl, ⟨dx, t, hp, ht⟩, g, q⟩ := h
    rfl
  obtain ⟨a, u, rfl, ⟨dx, t, hp, ht⟩, g, q⟩ := h
  refine ⟨_, (pss_one (ps_ret (pe_lenRg (by rfl) T.z_len (prg_1 (by rfl) T.z_range (pe_fld (pv 0) rfl))))), ?_⟩
  have s0 := g.s0
  have s1 := g.s1
  refine ⟨_, rfl, a, _, dx, _, _, rfl, hp, T.cl_Lot, T.n_Lot_room, lf_room u t, u.space, rfl, by omega, ?_⟩
  have e : (((u.space - 0).toNat : Nat) : Int) = u.space := by omega
  rw [e]
  exact q
theorem noL6 {K : PySem.W.Frag} {mg : Str → Option Value} (T : Tx K mg) {t : String} (h : t ∈ six6) : PySem.W.kitOne K (.type t) (.ref T.C_Lot) = some false := by
  unfold six6 at h
  simp only [List.mem_cons, List.not_mem_nil, or_false] at h
  rcases h with rfl | rfl | rfl | rfl | rfl | rfl
  · exact T.noL_int
  · exact T.noL_str
  · exact T.noL_bool
  · exact T.noL_NoneType
  · exact T.noL_list
  · exact T.noL_tuple
def likeLot (u v : Pt) : Bool := decide (u.called = v.called) && (decide (u.space = v.space) && (decide (u.lo = v.lo) && (decide (u.hi = v.hi) && decide (u.hues.Perm v.hues))))
def RLot (K : PySem.W.Frag) (CB C : Addr) : Addr → V → Bool → Hp → Prop := fun a y b H => ∃ u, LotAt C H a u ∧ GoodPt u ∧ ((∃ p v, y = .ref p ∧ LotAt C H p v ∧ GoodPt v ∧ b = likeLot u v) ∨ (∃ t, t ∈ six6 ∧ TyX K H y (.type t) ∧ b = false) ∨ (∃ p r, y = .ref p ∧ RuleAt CB H p r ∧ b = false))
theorem dec_int (a b : Int) : decide (V.int a = V.int b) = decide (a = b) := by
  rw [decide_eq_decide]
  exact ⟨fun e => by injection e, fun e => by rw [e]⟩
theorem dec_str (a b : Str) : decide (V.str a = V.str b) = decide (a = b) := by
  rw [decide_eq_decide]
  exact ⟨fun e => by injection e, fun e => by rw [e]⟩
theorem cps_ext {x y : Str} (h : x.cps.toList = y.cps.toList) : x = y := TL.ext_tl h
theorem rising_le : ∀ {p : Str} {xs : List Str}, risingS p xs = true → (∀ x ∈ xs, p.cps.toList ≤ x.cps.toList) ∧ xs.Pairwise fun a b => a.cps.toList ≤ b.cps.toList
  | _, [], _ => ⟨(fun _ h => by cases h), .nil⟩
  | p, x :: xs, h => by
    have h : (!ltCps x.cps.toList p.cps.toList && risingS x xs) = true := h
    rw [Bool.and_eq_true, Bool.not_eq_true', ltCps_eq, decide_eq_false_iff_not] at h
    have le : p.cps.toList ≤ x.cps.toList := List.not_lt.mp h.1
    obtain ⟨h1, h2⟩ := rising_le h.2
    refine ⟨fun y hy => ?_, .cons h1 h2⟩
    rcases List.mem_cons.mp hy with rfl | hy
    · exact le
    · exact List.le_trans le (h1 y hy)
theorem sorted_le {xs : List Str} (h : sortedS xs = true) : xs.Pairwise fun a b => a.cps.toList ≤ b.cps.toList := by
  cases xs with
  | nil => exact .nil
  | cons x xs =>
    obtain ⟨h1, h2⟩ := rising_le (show risingS x xs = true from h)
    exact .cons h1 h2
theorem order_unique : ∀ {xs ys : List Str}, xs.Perm ys → (xs.Pairwise fun a b => a.cps.toList ≤ b.cps.toList) → (ys.Pairwise fun a b => a.cps.toList ≤ b.cps.toList) → xs = ys
  | [], ys, p, _, _ => (List.nil_perm.mp p).symm
  | x :: xs, [], p, _, _ => absurd p.length_eq (by simp)
  | x :: xs, y :: ys, p, hx, hy => by
    obtain ⟨hx1, hx2⟩ := List.pairwise_cons.mp hx
    obtain ⟨hy1, hy2⟩ := List.pairwise_cons.mp hy
    have e : x = y := by
      rcases List.mem_cons.mp (p.mem_iff.mp (List.mem_cons_self ..)) with e | m1
      · exact e
      · rcases List.mem_cons.mp (p.mem_iff.mpr (List.mem_cons_self ..)) with e | m2
        · exact e.symm
        · exact cps_ext (List.le_antisymm (hx1 _ m2) (hy1 _ m1))
    subst e
    rw [order_unique (List.perm_cons _ |>.mp p) hx2 hy2]
theorem sorted_same {xs ys a b : List Str} (p1 : xs.Perm a) (p2 : ys.Perm b) (h1 : sortedS xs = true) (h2 : sortedS ys = true) : decide (xs = ys) = decide (a.Perm b) := by
  rw [decide_eq_decide]
  constructor
  · intro e
    subst e
    exact p1.symm.trans p2
  · intro p
    exact order_unique (p1.trans (p.trans p2.symm)) (sorted_le h1) (sorted_le h2)
theorem ok_Lot_eq (T : Tx K mg) : FnOk P w K mg base CX0 1 T.A_Lot_eq T.fd_Lot_eq ["self", "other"] (spEqO (RLot K T.C_Rule T.C_Lot)) := by
  refine T.F_Lot_eq.ok sc_Lot_eq (fun vs H Q E h => ?_) (fun cdv A outer s H vs Q E hr h => ?_)
  · obtain ⟨a, y, b, rfl, ⟨u, ⟨dx, t, ha, ht⟩, g, hy⟩, q⟩ := h
    rfl
  obtain ⟨a, y, b, rfl, ⟨u, ⟨dx, t, ha, ht⟩, g, hy⟩, q⟩ := h
  refine ⟨_, (pss_one (ps_ret (pe_and (pe_callB call_isi (by rfl) T.z_isinstance (by decide +kernel) (pa_cons (pv 1) (pa_cons (pe_glob (v := .ref T.C_Lot) (by rfl) T.g_Lot rfl) pa_nil))) (pe_and (pe_cmpR op_eq (pe_fld (pv 0) rfl) (pe_fld (pv 1) rfl) (nomark _)) (pe_and (pe_cmpR op_eq (pe_fld (pv 0) rfl) (pe_fld (pv 1) rfl) (nomark _)) (pe_and (pe_cmpR op_eq (pe_fld (pv 0) rfl) (pe_fld (pv 1) rfl) (nomark _)) (pe_and (pe_cmpR op_eq (pe_fld (pv 0) rfl) (pe_fld (pv 1) rfl) (nomark _)) (pe_one (pe_cmpR (op_eqD hr.units) (pe_callB cr_sortedT (by rfl) T.z_sorted (by decide +kernel) (pa_cons (pe_fld (pv 0) rfl) pa_nil)) (pe_callB cr_sortedT (by rfl) T.z_sorted (by decide +kernel) (pa_cons (pe_fld (pv 1) rfl) pa_nil)) (nomark _)))))))))), ?_⟩
  rcases hy with ⟨p, v, rfl, ⟨dy, t2, hp, ht2⟩, g2, rfl⟩ | ⟨tn, htn, ty, rfl⟩ | ⟨p, r, rfl, ⟨db, hb⟩, rfl⟩
  · refine ⟨_, rfl, .ref p, .ref T.C_Lot, .ref T.C_Lot, .ref T.C_Lot, true, rfl, .own _, T.ic_Lot.ty T.cl_Lot hp, T.i_Lot, _, rfl, iteT ?_⟩
    have e : likeLot u v = (decide (u.called = v.called) && (decide (u.space = v.space) && (decide (u.lo = v.lo) && (decide (u.hi = v.hi) && decide (u.hues.Perm v.hues))))) := rfl
    have no : likeLot u v = false → Q (.bl false) H := fun h => by
      have := q H Ext.rfl'
      rwa [h] at this
    refine ⟨_, rfl, a, _, dx, _, _, rfl, ha, T.cl_Lot, T.n_Lot_name, lf_name u t, _, rfl, p, _, dy, _, _, rfl, hp, T.cl_Lot, T.n_Lot_name, lf_name v t2, rfl, _, rfl, ?_⟩
    rw [dec_str]
    refine ite2 (fun h1 => ?_) (fun h1 => no (by rw [Bool.not_eq_true] at h1; rw [h1] at e; exact e))
    rw [h1, Bool.true_and] at e
    refine ⟨_, rfl, a, _, dx, _, _, rfl, ha, T.cl_Lot, T.n_Lot_room, lf_room u t, _, rfl, p, _, dy, _, _, rfl, hp, T.cl_Lot, T.n_Lot_room, lf_room v t2, rfl, _, rfl, ?_⟩
    rw [dec_int]
    refine ite2 (fun h1 => ?_) (fun h1 => no (by rw [Bool.not_eq_true] at h1; rw [h1] at e; exact e))
    rw [h1, Bool.true_and] at e
    refine ⟨_, rfl, a, _, dx, _, _, rfl, ha, T.cl_Lot, T.n_Lot_least, lf_least u t, _, rfl, p, _, dy, _, _, rfl, hp, T.cl_Lot, T.n_Lot_least, lf_least v t2, rfl, _, rfl, ?_⟩
    rw [dec_int]
    refine ite2 (fun h1 => ?_) (fun h1 => no (by rw [Bool.not_eq_true] at h1; rw [h1] at e; exact e))
    rw [h1, Bool.true_and] at e
    refine ⟨_, rfl, a, _, dx, _, _, rfl, ha, T.cl_Lot, T.n_Lot_most, lf_most u t, _, rfl, p, _, dy, _, _, rfl, hp, T.cl_Lot, T.n_Lot_most, lf_most v t2, rfl, _, rfl, ?_⟩
    rw [dec_int]
    refine ite2 (fun h1 => ?_) (fun h1 => no (by rw [Bool.not_eq_true] at h1; rw [h1] at e; exact e))
    rw [h1, Bool.true_and] at e
    refine ⟨_, rfl, a, _, dx, _, _, rfl, ha, T.cl_Lot, T.n_Lot_shades, lf_shades u t, t, u.hues, rfl, ht, Nat.lt_of_le_of_lt g.few (by decide), fun ys p1 hp1 hs1 hpn1 => ?_⟩
    have z1 := same_upd hpn1 (o := .lst (ys.map V.str))
    refine ⟨_, rfl, p, _, dy, _, _, rfl, z1 _ _ hp, T.cl_Lot, T.n_Lot_shades, lf_shades v t2, t2, v.hues, rfl, z1 _ _ ht2, Nat.lt_of_le_of_lt g2.few (by decide), fun ys2 p2 hp2 hs2 hpn2 => ?_⟩
    have z2 := same_upd hpn2 (o := .lst (ys2.map V.str))
    refine ⟨.list (strsD ys), .list (strsD ys2), .lst (SqL.of (z2 _ _ upd_same)) (strs_dp _), .lst (SqL.of upd_same) (strs_dp _), lstD_sh (fun z hz => g.hues z (hp1.mem_iff.mp hz)), lstD_sh (fun z hz => g2.hues z (hp2.mem_iff.mp hz)), ?_⟩
    have q := q _ (z1.trans z2)
    rw [e, ← sorted_same hp1 hp2 hs1 hs2, ← strs_eqv] at q
    exact q
  · exact ⟨_, rfl, y, .ref T.C_Lot, .type tn, .ref T.C_Lot, false, rfl, .own _, ty, noL6 T htn, _, rfl, iteF (q H Ext.rfl')⟩
  · exact ⟨_, rfl, .ref p, .ref T.C_Lot, .ref T.C_Rule, .ref T.C_Lot, false, rfl, .own _, T.ic_Rule.ty T.cl_Rule hb, T.no_LR, _, rfl, iteF (q H Ext.rfl')⟩
def lotL (u : Pt) : List Nat := TL.tl u.called ++ (TL.tl " " ++ (nL u.space ++ (TL.tl " " ++ (nL u.lo ++ (TL.tl " " ++ (nL u.hi ++ (TL.tl " " ++ (if u.hues.isEmpty then TL.tl "-" else TL.tl (Txt.join "," u.hues)))))))))
def lotS (u : Pt) : Str := ⟨(lotL u).toArray⟩
theorem lotS_of {u : Pt} {z : Str} (h : TL.tl z = lotL u) : z = lotS u := TL.ext_tl (by rw [h]; rfl)
theorem num_log0 {n : Int} (h0 : 0 ≤ n) (h1 : n ≤ 1000000000) : n.natAbs.log2 < 1920 := by
  rcases Int.lt_or_eq_of_le h0 with h | h
  · exact num_log (by omega) h1
  · rw [← h]
    decide
theorem joins_le {s : Str} {m : Nat} : ∀ {xs : List Str}, (∀ x ∈ xs, x.length ≤ m) → (xs.map (·.length)).sum + xs.length * s.length ≤ xs.length * (m + s.length)
  | [], _ => by simp
  | x :: xs, h => by
    have := joins_le (s := s) (xs := xs) fun y hy => h y (List.mem_cons_of_mem _ hy)
    have := h x (List.mem_cons_self ..)
    rw [List.map_cons, List.sum_cons, List.length_cons, Nat.add_mul, Nat.one_mul, Nat.add_mul, Nat.one_mul]
    omega
theorem jn_le {s : Str} {xs : List Str} {m : Nat} (h : (xs.map (·.length)).sum + xs.length * s.length ≤ m) : (Txt.join s xs).length ≤ m := by
  refine Nat.le_trans ?_ h
  rw [TL.len_tl, TL.join_eq, TL.tl_join]
  generalize hL : s.length = k
  have hk : (TL.tl s).length = k := by rw [← TL.len_tl]; exact hL
  clear h hL
  induction xs with
  | nil => exact Nat.zero_le _
  | cons a r ih =>
    cases r with
    | nil =>
      simp only [List.map_cons, List.map_nil, TL.joinL, List.sum_cons, List.sum_nil, List.length_cons, List.length_nil]
      rw [← TL.len_tl]
      omega
    | cons b r =>
      have e : TL.joinL (TL.tl s) ((a :: b :: r).map TL.tl) = TL.tl a ++ (TL.tl s ++ TL.joinL (TL.tl s) ((b :: r).map TL.tl)) := rfl
      have e2 : ((a :: b :: r).map (·.length)).sum = a.length + ((b :: r).map (·.length)).sum := List.sum_cons
      have e3 : (a :: b :: r).length * k = (b :: r).length * k + k := by rw [List.length_cons, Nat.add_mul, Nat.one_mul]
      rw [e, List.length_append, List.length_append, hk, e2, e3, ← TL.len_tl]
      omega
theorem hues_le {u : Pt} (g : GoodPt u) : ∀ z ∈ u.hues, z.length ≤ 8 := fun z hz => (nm_low (g.hues z hz)).1
def spLotStr (C : Addr) : Sp := fun vs H Q _ => ∃ (a : Addr) (u : Pt), vs = [.ref a] ∧ LotAt C H a u ∧ GoodPt u ∧ ∀ H', Same H H' → Q (.str (lotS u)) H'
theorem ok_Lot_str (T : Tx K mg) : FnOk P w K mg base CX0 1 T.A_Lot_str T.fd_Lot_str ["self"] (spLotStr T.C_Lot) := by
  refine T.F_Lot_str.ok sc_Lot_str (fun vs H Q E h => ?_) (fun cdv A outer s H vs Q E hr h => ?_)
  · obtain ⟨a, u, rfl, ⟨dx, t, ha, ht⟩, g, q⟩ := h
    rfl
  obtain ⟨a, u, rfl, ⟨dx, t, ha, ht⟩, g, q⟩ := h
  refine ⟨_, (pss_cons (ps_if (pt_cmpR (op_eqD hr.units) (pe_fld (pv 0) rfl) (pe_tup pa_nil) (nomark _)) (pss_one (ps_ret (pe_joined (PJ.cons (pe_fmtB (pe_fld (pv 0) rfl)) (PJ.cons pe_str (PJ.cons (pe_fmtB (pe_fld (pv 0) rfl)) (PJ.cons pe_str (PJ.cons (pe_fmtB (pe_fld (pv 0) rfl)) (PJ.cons pe_str (PJ.cons (pe_fmtB (pe_fld (pv 0) rfl)) (PJ.cons pe_str PJ.nil))))))))))) pss_nil)
      (pss_one (ps_ret (pe_joined (PJ.cons (pe_fmtB (pe_fld (pv 0) rfl)) (PJ.cons pe_str (PJ.cons (pe_fmtB (pe_fld (pv 0) rfl)) (PJ.cons pe_str (PJ.cons (pe_fmtB (pe_fld (pv 0) rfl)) (PJ.cons pe_str (PJ.cons (pe_fmtB (pe_fld (pv 0) rfl)) (PJ.cons pe_str (PJ.cons (pe_fmtB (pe_bm PySem.F.plainAttrs_str PySem.F.slot_str_join PySem.F.type_str_join mt_join pe_str (pa_cons (pe_fld (pv 0) rfl) pa_nil))) PJ.nil))))))))))))), ?_⟩
  have s0 := g.s0
  have s1 := g.s1
  have l0 := g.l0
  have lh := g.lh
  have h1 := g.h1
  have n1 := num_le (n := u.space) s0 (by omega)
  have n2 := num_le (n := u.lo) (by omega) (by omega)
  have n3 := num_le (n := u.hi) (by omega) (by omega)
  have nc := (nm_low g.name).1
  have b1 : (" " : Str).length ≤ 1 := by decide +kernel
  have c1 := app_le c_emp nc
  have c2 := app_le c1 b1
  have c3 := app_le c2 n1
  have c4 := app_le c3 b1
  have c5 := app_le c4 n2
  have c6 := app_le c5 b1
  have c7 := app_le c6 n3
  have c8 := app_le c7 (show (" -" : Str).length ≤ 2 by decide +kernel)
  have c9 := app_le c7 b1
  have e1 : ("," : Str).length = 1 := by decide +kernel
  have jb := joins_le (s := ",") (hues_le g)
  have few := g.few
  have jb : (u.hues.map (·.length)).sum + u.hues.length * ("," : Str).length ≤ 72 := by
    rw [e1] at jb ⊢
    omega
  have c10 := app_le c9 (jn_le jb)
  refine ⟨_, rfl, a, _, dx, _, _, rfl, ha, T.cl_Lot, T.n_Lot_shades, lf_shades u t, Nat.zero_le _, fun t0 ht0 => ?_⟩
  have z := same_upd ht0 (o := .tup [])
  have ha := z _ _ ha
  refine ⟨.tuple (strsD u.hues), .tuple [], .tup (.inl (.inl (z _ _ ht))) (strs_dp _), .tup (.inl (.inl upd_same)) .nil, tupD_sh g.hues, rfl, _, rfl, ?_⟩
  rw [eqv_nilT]
  refine ite2 (fun h3 => ?_) (fun h3 => ?_)
  · refine ⟨_, rfl, a, _, dx, _, _, rfl, ha, T.cl_Lot, T.n_Lot_name, lf_name u t, .inl ⟨_, rfl, fit nc, _, rfl, fit c1, _, rfl, fit c2, ?_⟩⟩
    refine ⟨_, rfl, a, _, dx, _, _, rfl, ha, T.cl_Lot, T.n_Lot_room, lf_room u t, .inr (.inl ⟨_, rfl, num_log0 s0 (by omega), _, rfl, fit c3, _, rfl, fit c4, ?_⟩)⟩
    refine ⟨_, rfl, a, _, dx, _, _, rfl, ha, T.cl_Lot, T.n_Lot_least, lf_least u t, .inr (.inl ⟨_, rfl, num_log0 (n := u.lo) (by omega) (by omega), _, rfl, fit c5, _, rfl, fit c6, ?_⟩)⟩
    refine ⟨_, rfl, a, _, dx, _, _, rfl, ha, T.cl_Lot, T.n_Lot_most, lf_most u t, .inr (.inl ⟨_, rfl, num_log0 (n := u.hi) (by omega) (by omega), _, rfl, fit c7, _, rfl, fit c8, ?_⟩)⟩
    have hz : (Str.empty ++ u.called ++ " " ++ Str.ofString (toString u.space) ++ " " ++ Str.ofString (toString u.lo) ++ " " ++ Str.ofString (toString u.hi) ++ " -") = lotS u := lotS_of (by
      unfold lotL nL
      rw [if_pos h3]
      simp only [TL.tl_append, List.append_assoc]
      rfl)
    have q := q _ z
    rw [← hz] at q
    exact q
  · refine ⟨_, rfl, a, _, dx, _, _, rfl, ha, T.cl_Lot, T.n_Lot_name, lf_name u t, .inl ⟨_, rfl, fit nc, _, rfl, fit c1, _, rfl, fit c2, ?_⟩⟩
    refine ⟨_, rfl, a, _, dx, _, _, rfl, ha, T.cl_Lot, T.n_Lot_room, lf_room u t, .inr (.inl ⟨_, rfl, num_log0 s0 (by omega), _, rfl, fit c3, _, rfl, fit c4, ?_⟩)⟩
    refine ⟨_, rfl, a, _, dx, _, _, rfl, ha, T.cl_Lot, T.n_Lot_least, lf_least u t, .inr (.inl ⟨_, rfl, num_log0 (n := u.lo) (by omega) (by omega), _, rfl, fit c5, _, rfl, fit c6, ?_⟩)⟩
    refine ⟨_, rfl, a, _, dx, _, _, rfl, ha, T.cl_Lot, T.n_Lot_most, lf_most u t, .inr (.inl ⟨_, rfl, num_log0 (n := u.hi) (by omega) (by omega), _, rfl, fit c7, _, rfl, fit c9, ?_⟩)⟩
    refine ⟨rfl, _, rfl, a, _, dx, _, _, rfl, ha, T.cl_Lot, T.n_Lot_shades, lf_shades u t, _, t, u.hues, rfl, rfl, .inr (.inl (.inl (z _ _ ht))), Nat.le_trans jb (by decide), .inl ⟨_, rfl, fit (jn_le jb), _, rfl, fit c10, ?_⟩⟩
    have hz : (Str.empty ++ u.called ++ " " ++ Str.ofString (toString u.space) ++ " " ++ Str.ofString (toString u.lo) ++ " " ++ Str.ofString (toString u.hi) ++ " " ++ Txt.join "," u.hues) = lotS u := lotS_of (by
      unfold lotL nL
      rw [if_neg h3]
      simp only [TL.tl_append, List.append_assoc]
      rfl)
    have q := q _ z
    rw [← hz] at q
    exact q
end
end Lo
end KB
namespace KB
open PySem PySem.Spec PyProof.Rows L2 KA LamX
section
variable {P : Program} {w : World} {K : PySem.W.Frag} {mg : Str → Option Value} {base : Heap}
def spMade (K : PySem.W.Frag) (C : Addr) : Sp := fun vs H Q _ => ∃ (t : Addr) (r : Rw) (n : Int), vs = [.ref t, .int n] ∧ H t = some (.tup (rowVals r)) ∧ GoodRw r ∧ ∀ (H' : Hp) (p : Addr), Same H H' → H p = none → BeadAt C H' p r → Q (.ref p) H'
theorem ok_made (T : Tx K mg) : FnOk P w K mg base CX0 7 T.A_made T.fd_made ["_law_row_here", "_law_way"] (spMade K T.C_Bead) := by
  refine T.F_made.ok sc_made (fun vs H Q E h => ?_) (fun cdv A outer s H vs Q E hr h => ?_)
  · obtain ⟨t, r, n, rfl, ht, hG, q⟩ := h
    rfl
  obtain ⟨t, r, n, rfl, ht, hG, q⟩ := h
  refine ⟨_, (pss_cons (ps_asg (pv 0) (pg_tup (by rfl) (pgs_cons (pg_name (i := 2) sc_made.nd rfl (Or.inl rfl)) (pgs_cons (pg_name (i := 3) sc_made.nd rfl (Or.inl rfl)) (pgs_cons (pg_name (i := 4) sc_made.nd rfl (Or.inl rfl)) (pgs_cons (pg_name (i := 5) sc_made.nd rfl (Or.inl rfl)) (pgs_cons (pg_name (i := 6) sc_made.nd rfl (Or.inl rfl)) (pgs_cons (pg_name (i := 7) sc_made.nd rfl (Or.inl rfl)) pgs_nil))))))))
      (pss_cons (ps_if (pt_cmpR op_eq (pv 1) pe_int (nomark _)) (pss_one (ps_ret (pe_call (ok_bead_of T) (hr.mono (by decide)) (by rfl) T.g_bead_of T.F_bead_of.kp T.b_bead_of .nil pass0 (pa_cons (pv 0) pa_nil)))) pss_nil)
      (pss_cons (ps_if (pt_cmpR op_eq (pv 1) pe_int (nomark _)) (pss_one (ps_ret (pe_makeK0 T.mk_Bead (ok_Bead_init T) (hr.mono (by decide)) (by rfl) T.g_Bead T.kb_1 pass0 (pk_cons (pv 7) (pk_cons (pv 6) (pk_cons (pv 5) (pk_cons (pv 4) (pk_cons (pv 3) (pk_cons (pv 2) pk_nil))))))))) pss_nil)
      (pss_cons (ps_if (PW.pt (pw_and (pt_cmpR op_eq (pv 6) pe_str (nomark _)) (pw_and1 (pt_not (pt_val (pv 7)))))) (pss_one (ps_ret (pe_make T.mk_Bead (ok_Bead_init T) (hr.mono (by decide)) (by rfl) T.g_Bead T.bd4_Bead T.hd4_Bead pass0 (pa_cons (pv 2) (pa_cons (pv 3) (pa_cons (pv 4) (pa_cons (pv 5) pa_nil))))))) pss_nil)
      (pss_one (ps_ret (pe_makeN T.mk_Bead (ok_Bead_init T) (hr.mono (by decide)) (by rfl) T.g_Bead T.kb_2 pass0 (pa_cons (pv 2) (pa_cons (pv 3) (pa_cons (pv 4) (pa_cons (pv 5) (pa_cons (pv 6) pa_nil))))) (pk_cons (pv 7) pk_nil)))))))), ?_⟩
  have mk : ∀ (H1 : Hp) (p : Addr), BeadAt T.C_Bead H1 p r → ∀ dx, H p = none → H dx = none → (∀ b o, (upd (upd H dx (.own p)) p (.ins T.C_Bead dx [])) b = some o → b ≠ p → H1 b = some o) → Q (.ref p) H1 := fun H1 p h1 dx np ndx k1 => q H1 p (made_same np ndx k1) np h1
  refine ⟨_, rfl, t, _, rfl, .inl (.inl ht), rfl, ?_⟩
  refine ⟨_, _, rfl, _, _, rfl, _, _, rfl, _, _, rfl, _, _, rfl, _, _, rfl, rfl, ?_⟩
  refine ⟨_, rfl, rfl, _, rfl, ite2 (fun e => ?_) (fun e => ?_)⟩
  · exact ⟨_, rfl, t, r, rfl, ht, hG, fun H' p s hn hp => q H' p s hn hp⟩
  refine ⟨_, rfl, rfl, _, rfl, ite2 (fun e => ?_) (fun e => ?_)⟩
  · refine ⟨_, rfl, _, rfl, _, rfl, _, rfl, _, rfl, _, rfl, rfl, rfl, fun p dx np ndx ne => ?_⟩
    exact ⟨p, dx, r, rfl, upd_same, hG, fun H1 h1 k1 => ⟨rfl, mk H1 p h1 dx np ndx k1⟩⟩
  refine ⟨_, rfl, rfl, _, rfl, ite2 (fun e1 => ?_) (fun e1 => ?_)⟩
  · refine ⟨_, rfl, _, rfl, ite2 (fun e2 => ?_) (fun e2 => ?_)⟩
    · refine ⟨_, rfl, _, rfl, _, rfl, _, rfl, fun p dx np ndx ne => ?_⟩
      have hf : r.fo = "round" := by
        have := of_decide_eq_true e1
        injection this
      have hd : r.dr = false := by
        cases h : r.dr with
        | false => rfl
        | true => rw [h] at e2; cases e2
      exact ⟨p, dx, r, by rw [hf, hd]; rfl, upd_same, hG, fun H1 h1 k1 => ⟨rfl, mk H1 p h1 dx np ndx k1⟩⟩
    · refine ⟨_, rfl, _, rfl, _, rfl, _, rfl, _, rfl, _, rfl, rfl, rfl, fun p dx np ndx ne => ?_⟩
      exact ⟨p, dx, r, rfl, upd_same, hG, fun H1 h1 k1 => ⟨rfl, mk H1 p h1 dx np ndx k1⟩⟩
  · refine iteF ?_
    refine ⟨_, rfl, _, rfl, _, rfl, _, rfl, _, rfl, _, rfl, rfl, rfl, fun p dx np ndx ne => ?_⟩
    exact ⟨p, dx, r, rfl, upd_same, hG, fun H1 h1 k1 => ⟨rfl, mk H1 p h1 dx np ndx k1⟩⟩
end
end KB
namespace KB
open PySem PySem.Spec PyProof.Rows L2 KA LamX
section
variable {P : Program} {w : World} {K : PySem.W.Frag} {mg : Str → Option Value} {base : Heap}
theorem fit2 {x y : Str} {m : Nat} (h : (x ++ y).length ≤ m) (hm : m ≤ 100000 := by decide) : x.length + y.length ≤ sizeLine := by
  rw [← Str.length_append]
  exact fit h hm
def spShownL : Sp := fun vs H Q _ => ∃ (t : Addr) (r : Rw), vs = [.ref t] ∧ H t = some (.tup (rowVals r)) ∧ GoodRw r ∧ ∀ (H' : Hp) (p : Addr), Same H H' → H' p = some (.tup [.str (reprS r), .str (strS r)]) → Q (.ref p) H'
theorem ok_shown (T : Tx K mg) : FnOk P w K mg base CX0 1 T.A_shown T.fd_shown ["_law_row_here"] (spShownL) := by
  refine T.F_shown.ok sc_shown (fun vs H Q E h => ?_) (fun cdv A outer s H vs Q E hr h => ?_)
  · obtain ⟨t, r, rfl, ht, ⟨g1, g2, g3, g4, g5⟩, q⟩ := h
    rfl
  obtain ⟨t, r, rfl, ht, ⟨g1, g2, g3, g4, g5⟩, q⟩ := h
  refine ⟨_, (pss_cons (ps_asg (pv 0) (pg_tup (by rfl) (pgs_cons (pg_name (i := 1) sc_shown.nd rfl (Or.inl rfl)) (pgs_cons (pg_name (i := 2) sc_shown.nd rfl (Or.inl rfl)) (pgs_cons (pg_name (i := 3) sc_shown.nd rfl (Or.inl rfl)) (pgs_cons (pg_name (i := 4) sc_shown.nd rfl (Or.inl rfl)) (pgs_cons (pg_name (i := 5) sc_shown.nd rfl (Or.inl rfl)) (pgs_cons (pg_name (i := 6) sc_shown.nd rfl (Or.inl rfl)) pgs_nil))))))))
      (pss_cons (ps_set (i := 7) sc_shown.nd rfl (Or.inl rfl) (pe_joined (PJ.cons pe_str (PJ.cons (pe_fmtB (pv 1)) (PJ.cons pe_str (PJ.cons (pe_fmtB (pv 2)) (PJ.cons pe_str (PJ.cons (pe_fmtB (pv 3)) (PJ.cons pe_str (PJ.cons (pe_fmtB (pv 4)) (PJ.cons pe_str PJ.nil)))))))))))
      (pss_cutJ (ps_if (pt_cmpR op_ne (pv 5) pe_str (nomark _)) (pss_one (ps_set (i := 7) sc_shown.nd rfl (Or.inl rfl) (pe_op op_add_str (pv 7) (pe_joined (PJ.cons pe_str (PJ.cons (pe_fmtB (pv 5)) (PJ.cons pe_str PJ.nil))))))) pss_nil)
      (pss_cons (ps_set (i := 8) sc_shown.nd rfl (Or.inl rfl) (pe_op op_cat (pe_lst (pa_cons (pe_callTy call_str_int (by rfl) T.z_str (by decide +kernel) (pa_cons (pv 1) pa_nil)) (pa_cons (pe_joined (PJ.cons (pe_fmtB (pv 2)) (PJ.cons pe_str (PJ.cons (pe_fmtB (pv 3)) PJ.nil)))) (pa_cons (pv 4) (pa_cons (pv 5) pa_nil))))) (pe_op op_rep (pe_lst (pa_cons pe_str pa_nil)) (pe_callTy call_int1 (by rfl) T.z_int (by decide +kernel) (pa_cons (pv 6) pa_nil)))))
      (pss_one (ps_ret (pe_tup (pa_cons (pe_op op_add_str (pe_op op_add_str (pv 7) (pe_op op_mul01 pe_str (pe_callTy call_int1 (by rfl) T.z_int (by decide +kernel) (pa_cons (pv 6) pa_nil)))) pe_str) (pa_cons (pe_bm PySem.F.plainAttrs_str PySem.F.slot_str_join PySem.F.type_str_join mt_join pe_str (pa_cons (pv 8) pa_nil)) pa_nil))))))))), ?_⟩
  obtain ⟨a1, a2⟩ := whl_of g1
  obtain ⟨a3, a4⟩ := whl_of g2
  obtain ⟨a5, a6⟩ := whl_of g3
  have l1 := num_le (n := r.num) (by omega) a2
  have l2 := num_le (n := r.ac) (by omega) (by omega)
  have l3 := num_le (n := r.we) (by omega) (by omega)
  have l4 := (nm_low g4).1
  have l5 := (nm_low g5).1
  have b0 : ("Bead(" : Str).length ≤ 5 := by decide +kernel
  have b1 : (", " : Str).length ≤ 2 := by decide +kernel
  have b2 : (", '" : Str).length ≤ 3 := by decide +kernel
  have b3 : ("'" : Str).length ≤ 1 := by decide +kernel
  have c1 := app_le c_emp b0
  have c2 := app_le c1 l1
  have c3 := app_le c2 b1
  have c4 := app_le c3 l2
  have c5 := app_le c4 b1
  have c6 := app_le c5 l3
  have c7 := app_le c6 b2
  have c8 := app_le c7 l4
  have c9 := app_le c8 b3
  refine ⟨_, rfl, t, _, rfl, .inl (.inl ht), rfl, ?_⟩
  refine ⟨_, _, rfl, _, _, rfl, _, _, rfl, _, _, rfl, _, _, rfl, _, _, rfl, rfl, ?_⟩
  refine ⟨_, rfl, fit c1, _, rfl, .inr (.inl ⟨_, rfl, num_log a1 a2, _, rfl, fit c2, _, rfl, fit c3, ?_⟩)⟩
  refine ⟨_, rfl, .inr (.inl ⟨_, rfl, num_log a3 (by omega), _, rfl, fit c4, _, rfl, fit c5, ?_⟩)⟩
  refine ⟨_, rfl, .inr (.inl ⟨_, rfl, num_log a5 (by omega), _, rfl, fit c6, _, rfl, fit c7, ?_⟩)⟩
  refine ⟨_, rfl, .inl ⟨_, rfl, fit l4, _, rfl, fit c8, _, rfl, fit c9, ?_⟩⟩
  refine ⟨fun σ' H' => ∃ F : Str, σ' = [some (.ref t), some (.int r.num), some (.int r.ac), some (.int r.we), some (.str r.sh), some (.str r.fo), some (.bl r.dr), some (.str F), none] ∧ H' = H ∧ F.length ≤ 250 ∧ ∀ X, TL.tl F ++ X = TL.tl "Bead(" ++ (nL r.num ++ (TL.tl ", " ++ (nL r.ac ++ (TL.tl ", " ++ (nL r.we ++ (TL.tl ", " ++ ([39] ++ (TL.tl r.sh ++ ([39] ++ ((if r.fo = "round" then [] else TL.tl ", form=" ++ ([39] ++ (TL.tl r.fo ++ [39]))) ++ X)))))))))), ?_, ?_⟩
  · have hq : TL.tl ", '" = TL.tl ", " ++ [39] := by decide +kernel
    have hq1 : TL.tl "'" = [39] := by decide +kernel
    have hq2 : TL.tl ", form='" = TL.tl ", form=" ++ [39] := by decide +kernel
    have f1 : (", form='" : Str).length ≤ 8 := by decide +kernel
    have k1 := app_le c_emp f1
    have k2 := app_le k1 l5
    have k3 := app_le k2 b3
    have kF := app_le c9 k3
    refine ⟨_, rfl, rfl, _, rfl, ite2 (fun e => ?_) (fun e => ?_)⟩
    · refine ⟨_, rfl, _, rfl, fit k1, _, rfl, .inl ⟨_, rfl, fit l5, _, rfl, fit k2, _, rfl, fit k3, _, _, rfl, rfl, fit2 kF, ?_⟩⟩
      have hf : ¬ r.fo = "round" := fun z => by
        rw [z, decide_eq_true rfl] at e
        cases e
      refine ⟨_, rfl, rfl, Nat.le_trans kF (by decide), fun X => ?_⟩
      rw [if_neg hf]
      unfold nL
      simp only [TL.tl_append, List.append_assoc, hq, hq1, hq2]
      rfl
    · have hf : r.fo = "round" := by
        cases h : decide (V.str r.fo = V.str "round") with
        | false => rw [h] at e; exact absurd rfl e
        | true =>
          have := of_decide_eq_true h
          injection this
      refine ⟨_, rfl, rfl, Nat.le_trans c9 (by decide), fun X => ?_⟩
      rw [if_pos hf]
      unfold nL
      simp only [TL.tl_append, List.append_assoc, hq, hq1, hq2]
      rfl
  · rintro σ' H' ⟨F, rfl, rfl, hF, tF⟩
    have b4 : ("/" : Str).length ≤ 1 := by decide +kernel
    have d1 := app_le c_emp l2
    have d2 := app_le d1 b4
    have d3 := app_le d2 l3
    refine ⟨_, rfl, _, rfl, num_log a1 a2, ?_⟩
    refine ⟨_, rfl, .inr (.inl ⟨_, rfl, num_log a3 (by omega), _, rfl, fit d1, _, rfl, fit d2, ?_⟩)⟩
    refine ⟨_, rfl, .inr (.inl ⟨_, rfl, num_log a5 (by omega), _, rfl, fit d3, ?_⟩)⟩
    refine ⟨_, rfl, _, rfl, (by show 4 ≤ sizeLine; decide), fun la hla => ?_⟩
    refine ⟨(by show 1 ≤ sizeLine; decide), fun lb hlb => ?_⟩
    have s1 := same_upd hla (o := .lst [V.str (Str.ofString (toString r.num)), V.str (Str.empty ++ Str.ofString (toString r.ac) ++ "/" ++ Str.ofString (toString r.we)), .str r.sh, .str r.fo])
    have s2 := same_upd hlb (o := .lst [V.str "drilled"])
    have hrep : (List.replicate (if r.dr = true then (1 : Int) else 0).toNat [V.str "drilled"]).flatten = (if r.dr = true then ["drilled"] else [] : List Str).map V.str := by
      cases r.dr <;> rfl
    have hb1 : ("drilled" : Str).length ≤ 7 := by decide +kernel
    refine ⟨_, rfl, .inr ⟨_, rfl, ?_⟩⟩
    refine ⟨lb, _, _, rfl, rfl, upd_same, by split <;> decide, by split <;> decide, by split <;> decide, fun lc hlc => ?_⟩
    rw [hrep]
    have s3 := same_upd hlc (o := .lst ((if r.dr = true then ["drilled"] else [] : List Str).map V.str))
    refine ⟨la, lc, _, _, rfl, rfl, s3 _ _ (s2 _ _ upd_same), upd_same, ?_, fun ld hld => ?_⟩
    · cases r.dr
      · show 4 + 0 ≤ sizeLine
        decide
      · show 4 + 1 ≤ sizeLine
        decide
    have hl : ([V.str (Str.ofString (toString r.num)), V.str (Str.empty ++ Str.ofString (toString r.ac) ++ "/" ++ Str.ofString (toString r.we)), .str r.sh, .str r.fo] ++ (if r.dr = true then ["drilled"] else [] : List Str).map V.str) = ([(Str.ofString (toString r.num)), (Str.empty ++ Str.ofString (toString r.ac) ++ "/" ++ Str.ofString (toString r.we)), r.sh, r.fo] ++ (if r.dr = true then ["drilled"] else [] : List Str)).map V.str := by
      rw [List.map_append]
      rfl
    rw [hl]
    have s4 := same_upd hld (o := .lst (([(Str.ofString (toString r.num)), (Str.empty ++ Str.ofString (toString r.ac) ++ "/" ++ Str.ofString (toString r.we)), r.sh, r.fo] ++ (if r.dr = true then ["drilled"] else [] : List Str)).map V.str))
    have b5 : (", drilled=True" : Str).length ≤ 14 := by decide +kernel
    have b6 : (")" : Str).length ≤ 1 := by decide +kernel
    have t1 : (if r.dr = true then (", drilled=True" : Str) else Str.empty).length ≤ 14 := by
      split
      · exact b5
      · exact Nat.zero_le _
    have x1 := app_le hF t1
    have x2 := app_le x1 b6
    refine ⟨_, rfl, _, rfl, .inr ⟨_, rfl, _, r.dr, rfl, rfl, fit b5, _, _, rfl, rfl, fit2 x1, ?_⟩⟩
    refine ⟨_, _, rfl, rfl, fit2 x2, ?_⟩
    refine ⟨rfl, _, rfl, _, ld, [Str.ofString (toString r.num), Str.empty ++ Str.ofString (toString r.ac) ++ "/" ++ Str.ofString (toString r.we), r.sh, r.fo] ++ (if r.dr = true then ["drilled"] else [] : List Str), rfl, rfl, .inl (SqL.of upd_same), ?_, (by show 2 ≤ sizeLine; decide), fun p hp => ?_⟩
    · have e1 : (" " : Str).length = 1 := by decide +kernel
      rw [e1]
      cases r.dr
      · simp only [Bool.false_eq_true, if_false, List.append_nil, List.map_cons, List.map_nil, List.sum_cons, List.sum_nil, List.length_cons, List.length_nil]
        omega
      · simp only [if_true, List.cons_append, List.nil_append, List.map_cons, List.map_nil, List.sum_cons, List.sum_nil, List.length_cons, List.length_nil]
        omega
    · have z := (((s1.trans s2).trans s3).trans s4).trans (same_upd hp (o := .tup [V.str ((F ++ (if r.dr = true then (", drilled=True" : Str) else Str.empty)) ++ ")"), V.str (Txt.join " " ([Str.ofString (toString r.num), Str.empty ++ Str.ofString (toString r.ac) ++ "/" ++ Str.ofString (toString r.we), r.sh, r.fo] ++ (if r.dr = true then ["drilled"] else [] : List Str)))]))
      have hR : (F ++ (if r.dr = true then (", drilled=True" : Str) else Str.empty)) ++ ")" = reprS r := reprS_of (by
        rw [TL.tl_append, TL.tl_append, List.append_assoc, tF]
        unfold reprL
        have e : TL.tl (if r.dr = true then (", drilled=True" : Str) else Str.empty) = if r.dr = true then TL.tl ", drilled=True" else [] := by cases r.dr <;> rfl
        rw [e]
        rfl)
      have hS : Txt.join " " ([Str.ofString (toString r.num), Str.empty ++ Str.ofString (toString r.ac) ++ "/" ++ Str.ofString (toString r.we), r.sh, r.fo] ++ (if r.dr = true then ["drilled"] else [] : List Str)) = strS r := strS_of (by
        have hd : TL.tl " drilled" = TL.tl " " ++ TL.tl "drilled" := by decide +kernel
        rw [TL.join_eq, TL.tl_join]
        unfold strL nL
        rw [hd]
        cases r.dr
        · simp only [Bool.false_eq_true, if_false, List.append_nil, List.map_cons, List.map_nil, TL.joinL, TL.tl_append, List.append_assoc]
          rfl
        · simp only [if_true, List.cons_append, List.nil_append, List.map_cons, List.map_nil, TL.joinL, TL.tl_append, List.append_assoc]
          rfl)
      refine q _ p z ?_
      rw [← hR, ← hS]
      exact upd_same
end
end KB
namespace KB
open PySem PySem.Spec PyProof.Rows L2 KA LamX
section
variable {P : Program} {w : World} {K : PySem.W.Frag} {mg : Str → Option Value} {base : Heap}
theorem dr_nl {PP : Int → Prop} {d : Addr} {n : Nat} {H H' : Hp} (dr : Dr PP d n H) (b : But d H H') : NL H H' := fun c o hn hc => by
  obtain ⟨_, _, _, e, _⟩ := dr
  exact b c o (fun z => by rw [z, e] at hc; exact hn _ (Option.some.inj hc).symm) hc
theorem ne_nilA {H : Hp} {f e : Addr} {xs : List V} {R : VK} (hx : xs ≠ []) (hf : H f = some (.lst xs)) (he : H e = none) (q : ∀ H', Same H H' → R (.bl true) H') : rEqB true (BList BFlat) (.ref f) (.ref e) (upd H e (.lst [])) R := by
  have hl : ¬ xs.length = ([] : List V).length := fun h => hx (List.length_eq_zero_iff.mp h)
  refine ⟨false, ⟨f, e, _, [], fun _ => true, rfl, rfl, same_upd he _ _ hf, upd_same, fun h => absurd h hl, ?_⟩, fun H' s => q H' ((same_upd he).trans s)⟩
  rw [decide_eq_false hl]
  rfl
theorem sla_of {K : PySem.W.Frag} {a : Addr} {xs : List V} {lo hi : Option Int} {H : Hp} {Q : VK} (ha : H a = some (.tup xs)) (q : ∀ (H' : Hp) (p : Addr), Same H H' → H' p = some (.tup (cutV xs lo hi)) → Q (.ref p) H') : rSlA K (.ref a) lo hi H Q :=
  ⟨a, xs, rfl, .inl (.inl ha), fun h => q H a (Same.refl _) (by rw [cut_full h]; exact ha), fun _ p hp => q _ p (same_upd hp) upd_same⟩
/-- the rows of the law's list -/
def spRows : Sp := fun vs H Q _ => ∃ (d wl : Addr) (n : Nat) (w0 w1 w2 w3' : Str), vs = [.ref d, .ref wl] ∧ Dr PM d n H ∧ n ≤ 1000 ∧ wl ≠ d ∧ H wl = some (.lst [.str w0, .str w1, .str w2, .str w3']) ∧ nm (.str w0) = true ∧ nm (.str w1) = true ∧ nm (.str w2) = true ∧ nm (.str w3') = true ∧
  ∀ (H' : Hp) (l : Addr) (xs : List V) (rs : List Rw), H l = none → H' l = some (.lst xs) → RwL H' xs rs → (∀ r ∈ rs, GoodRw r) → 2 ≤ rs.length → rs.length ≤ 9 → But d H H' → Dr PM d (n + 200) H' → Q (.ref l) H'
theorem ok_rows (T : Tx K mg) : FnOk P w K mg base CX0 3 T.A_rows T.fd_rows ["_law_draws_here", "_law_words_here"] (spRows) := by
  refine T.F_rows.ok sc_rows (fun vs H Q E h => ?_) (fun cdv A outer s H vs Q E hr h => ?_)
  · obtain ⟨d, wl, n, w0, w1, w2, w3', rfl, dr, hn, nwl, hw, g0, g1, g2, g3, q⟩ := h
    rfl
  obtain ⟨d, wl, n, w0, w1, w2, w3', rfl, dr, hn, nwl, hw, g0, g1, g2, g3, q⟩ := h
  refine ⟨_, (pss_cons (ps_set (i := 2) sc_rows.nd rfl (Or.inl rfl) (pe_lst pa_nil))
      (pss_cons (ps_for PassesOwn.never rfl (pi_range1 (by rfl) T.z_range (pa_cons (pe_op op_add pe_int (pe_call (ok_next T) (hr.mono (by decide)) (by rfl) T.g_next T.F_next.kp T.b_next .nil pass0 (pa_cons (pv 0) (pa_cons pe_int pa_nil)))) pa_nil)) (pg_name (i := 3) sc_rows.nd rfl (Or.inl rfl))
        (pss_cons (ps_set (i := 4) sc_rows.nd rfl (Or.inl rfl) (pe_call (ok_row T) (hr.mono (by decide)) (by rfl) T.g_row T.F_row.kp T.b_row .nil pass0 (pa_cons (pv 0) (pa_cons (pe_op op_add pe_int (pe_op op_mod (pe_op op_mul pe_int (pv 3)) pe_int)) (pa_cons (pv 1) (pa_cons (pe_op op_add pe_int (pe_call (ok_next T) (hr.mono (by decide)) (by rfl) T.g_next T.F_next.kp T.b_next .nil pass0 (pa_cons (pv 0) (pa_cons pe_int pa_nil)))) pa_nil))))))
      (pss_cutJ (ps_if (PW.pt (pw_and (pt_cmpR (op_neB (rcB_list true monB_flat eqB_flat) (hr.mono (by decide))) (pv 2) (pe_lst pa_nil) (nomark _)) (pw_and1 (pt_cmpR op_eq (pe_call (ok_next T) (hr.mono (by decide)) (by rfl) T.g_next T.F_next.kp T.b_next .nil pass0 (pa_cons (pv 0) (pa_cons pe_int pa_nil))) pe_int (nomark _))))) (pss_cons (ps_set (i := 4) sc_rows.nd rfl (Or.inl rfl) (pe_op op_catA (pe_slice sl_tupA (pv 4) po_none (po_some pe_int)) (pe_slice sl_tupA (pe_ix ix_list (pv 2) (pe_call (ok_next T) (hr.mono (by decide)) (by rfl) T.g_next T.F_next.kp T.b_next .nil pass0 (pa_cons (pv 0) (pa_cons (pe_callB call_len_seq (by rfl) T.z_len PySem.boot_len (pa_cons (pv 2) pa_nil)) pa_nil))) (fun _ _ => rfl)) (po_some pe_int) po_none)))
      (pss_one (ps_if (pt_cmpR op_eq (pe_call (ok_next T) (hr.mono (by decide)) (by rfl) T.g_next T.F_next.kp T.b_next .nil pass0 (pa_cons (pv 0) (pa_cons pe_int pa_nil))) pe_int (nomark _)) (pss_cons (ps_set (i := 5) sc_rows.nd rfl (Or.inl rfl) (pe_lst (pa_cons (pe_op op_catA (pe_op op_catA (pe_slice sl_tupA (pv 4) po_none (po_some pe_int)) (pe_tup (pa_cons pe_int pa_nil))) (pe_slice sl_tupA (pv 4) (po_some pe_int) po_none)) (pa_cons (pe_op op_catA (pe_op op_catA (pe_slice sl_tupA (pv 4) po_none (po_some pe_int)) (pe_tup (pa_cons pe_int pa_nil))) (pe_slice sl_tupA (pv 4) (po_some pe_int) po_none)) (pa_cons (pe_op op_catA (pe_slice sl_tupA (pv 4) po_none (po_some pe_int)) (pe_tup (pa_cons (pe_not (pe_ix ix_tup (pv 4) pe_int (fun _ _ => rfl))) pa_nil))) pa_nil)))))
      (pss_one (ps_set (i := 4) sc_rows.nd rfl (Or.inl rfl) (pe_ix ix_list (pv 5) (pe_call (ok_next T) (hr.mono (by decide)) (by rfl) T.g_next T.F_next.kp T.b_next .nil pass0 (pa_cons (pv 0) (pa_cons pe_int pa_nil))) (fun _ _ => rfl))))) pss_nil))) pss_nil)
      (pss_one (ps_expr (pe_bm PySem.F.plainAttrs_list PySem.F.slot_list_append PySem.F.type_list_append mt_append (pv 2) (pa_cons (pv 4) pa_nil)))))))
      (pss_one (ps_ret (pv 2))))), ?_⟩
  refine ⟨Nat.zero_le _, fun l hl => ?_⟩
  have nl := dr.ne hl
  refine ⟨_, rfl, d, 8, n, rfl, by decide, log_tiny (by decide) (by decide), dr.upd nl, by omega, fun H1 cnt a1 c1 b1 dr1 => ⟨_, _, rfl, rfl, ?_⟩⟩
  refine ⟨_, rfl, by omega, by omega, ?_⟩
  have bl : But d H H1 := (But.new hl).trans b1
  refine for_range (lo := 0) (n := (2 + cnt).toNat) (fun i σ H' => ∃ (w3 w4 w5 : Option V) (xs : List V) (rs : List Rw), σ = [some (.ref d), some (.ref wl), some (.ref l), w3, w4, w5] ∧ H' l = some (.lst xs) ∧ xs.length = i ∧ RwL H' xs rs ∧ (∀ r ∈ rs, GoodRw r) ∧ But d H H' ∧ Dr PM d (n + 1 + 20 * i) H')
    ⟨_, _, _, [], [], rfl, b1 _ _ nl upd_same, rfl, ⟨rfl, fun i r h => by simp at h⟩, (fun _ h => nomatch h), bl, dr1⟩ ?_ ?_
  · rintro i σ H2 hi ⟨w3, w4, w5, xs, rs, rfl, el, hlen, hR, hG, b2, dr2⟩
    have hi9 : i < 9 := by omega
    have hk := Int.emod_nonneg (7 * (0 + (i : Int))) (by decide : (10 : Int) ≠ 0)
    have hk2 := Int.emod_lt_of_pos (7 * (0 + (i : Int))) (by decide : (0 : Int) < 10)
    refine ⟨_, rfl, _, rfl, _, _, rfl, rfl, .inl ⟨by decide, ?_⟩, _, _, rfl, rfl, (by show (0 : Int) < 10; decide), _, _, rfl, rfl, _, rfl, ?_⟩
    · have e64 : (2 : Int) ^ 64 = 18446744073709551616 := by decide
      rw [e64]
      omega
    refine ⟨_, rfl, d, 3, _, rfl, by decide, log_tiny (by decide) (by decide), dr2, by omega, fun H3 r3 u3 c3 b3 dr3 => ⟨_, _, rfl, rfl, ?_⟩⟩
    have b23 := b2.trans b3
    refine ⟨d, wl, _, _, _, w0, w1, w2, w3', rfl, dr3, by omega, nwl, b23 _ _ nwl hw, g0, g1, g2, g3, by omega, by omega, by omega, by omega, fun H4 t r gr ht b4 dr4 => ?_⟩
    have b24 := b23.trans b4
    have n34 := dr_nl dr3 b4
    have hR4 := (hR.nl (dr_nl dr2 b3)).nl n34
    have el4 := b4 _ _ nl (b3 _ _ nl el)
    refine ⟨fun σ' H' => ∃ (w5 : Option V) (t' : Addr) (r' : Rw), σ' = [some (.ref d), some (.ref wl), some (.ref l), some (.int (0 + i)), some (.ref t'), w5] ∧ GoodRw r' ∧ H' t' = some (.tup (rowVals r')) ∧ H' l = some (.lst xs) ∧ RwL H' xs rs ∧ But d H H' ∧ Dr PM d (n + 1 + 20 * i + 15) H', ?_, ?_⟩
    · refine ⟨_, rfl, Nat.zero_le _, fun e he => ?_⟩
      by_cases hx : xs = []
      · subst hx
        refine nil_ne0 el4 he fun H5 s5 => ⟨_, rfl, iteF (iteF ?_)⟩
        exact ⟨_, t, r, rfl, gr, s5 _ _ ht, s5 _ _ el4, hR4.nl (NL.of s5), b24.trans (But.of s5), (dr4.same s5).mono (by omega)⟩
      · refine ne_nilA hx el4 he fun H5 s5 => ⟨_, rfl, iteT ?_⟩
        refine ⟨_, rfl, d, 2, _, rfl, by decide, log_tiny (by decide) (by decide), dr4.same s5, by omega, fun H6 r6 u6 c6 b6 dr6 => ⟨rfl, _, rfl, ite2 (fun e0 => ?_) (fun e0 => ?_)⟩⟩
        rotate_left
        · have n46 := (NL.of s5).trans (dr_nl (dr4.same s5) b6)
          exact ⟨_, t, r, rfl, gr, n46 _ _ (fun _ z => by cases z) ht, b6 _ _ nl (s5 _ _ el4), hR4.nl n46, (b24.trans (But.of s5)).trans b6, dr6.mono (by omega)⟩
        have n46 := (NL.of s5).trans (dr_nl (dr4.same s5) b6)
        have ht6 : H6 t = some (.tup (rowVals r)) := n46 _ _ (fun _ z => by cases z) ht
        have el6 := b6 _ _ nl (s5 _ _ el4)
        refine ⟨_, rfl, nopart ⟨1, rfl, sla_of ht6 fun H7 p7 s7 e7 => ?_⟩⟩
        have dr7 := dr6.same s7
        have el7 := s7 _ _ el6
        have hpos : 0 < (xs.length : Int) := by
          cases xs with
          | nil => exact absurd rfl hx
          | cons _ _ => rw [List.length_cons]; omega
        refine ⟨_, rfl, _, rfl, _, rfl, l, _, rfl, .inl (SqL.of el7), d, _, _, rfl, hpos, log_tiny hpos (by omega), dr7, by omega, fun H8 r8 u8 c8 b8 dr8 => ?_⟩
        obtain ⟨j, rfl⟩ : ∃ j : Nat, r8 = (j : Int) := ⟨r8.toNat, by omega⟩
        have hj : j < rs.length := by rw [← hR.1]; omega
        have n78 := dr_nl dr7 b8
        have n48 := (n46.trans (NL.of s7)).trans n78
        have hR8 := hR4.nl n48
        obtain ⟨tj, hxj, htj⟩ := hR8.2 j _ (List.getElem?_eq_getElem hj)
        have el8 := b8 _ _ nl el7
        refine ⟨l, _, _, _, rfl, rfl, SqL.of el8, atI_nat hxj, ?_⟩
        refine ⟨1, rfl, nopart (sla_of htj fun H9 p9 s9 e9 => ?_)⟩
        have e79 := s9 _ _ (n78 _ _ (fun _ z => by cases z) e7)
        refine cata_of e79 e9 (by show 1 + 5 ≤ sizeLine; decide) fun Ha t2 sa ea => ?_
        obtain ⟨r2, hr2, gr2⟩ : ∃ r2 : Rw, (cutV (rowVals r) none (some 1) ++ cutV (rowVals rs[j]) (some 1) none) = rowVals r2 ∧ GoodRw r2 := ⟨⟨r.num, rs[j].ac, rs[j].we, rs[j].sh, rs[j].fo, rs[j].dr⟩, rfl, gr.1, (hG _ (List.getElem_mem hj)).2⟩
        rw [hr2] at ea
        have sA := s9.trans sa
        have drA := dr8.same sA
        have nA := n48.trans (NL.of sA)
        have elA := sA _ _ el8
        have bA := (((b24.trans (But.of s5)).trans b6).trans (But.of s7)).trans (b8.trans (But.of sA))
        refine ⟨_, rfl, d, 2, _, rfl, by decide, log_tiny (by decide) (by decide), drA, by omega, fun Hb rb ub cb bb drb => ⟨rfl, _, rfl, ite2 (fun e1 => ?_) (fun e1 => ?_)⟩⟩
        rotate_left
        · have nb := dr_nl drA bb
          exact ⟨_, t2, r2, rfl, gr2, nb _ _ (fun _ z => by cases z) ea, bb _ _ nl elA, hR4.nl (nA.trans nb), bA.trans bb, drb.mono (by omega)⟩
        have nb := dr_nl drA bb
        have hb := nb _ _ (fun _ z => by cases z) ea
        have elb := bb _ _ nl elA
        -- the first
        refine ⟨_, rfl, nopart ⟨1, rfl, sla_of hb fun I1 q1 x1 y1 => ?_⟩⟩
        refine ⟨(by show 1 ≤ sizeLine; decide), fun q2 hq2 => ?_⟩
        have x2 := same_upd hq2 (o := .tup [V.int 9])
        refine cata_of (x2 _ _ y1) upd_same (by show 1 + 1 ≤ sizeLine; decide) fun I3 q3 x3 y3 => ?_
        have x13 := (x1.trans x2).trans x3
        refine ⟨_, rfl, 2, rfl, nopart (sla_of (x13 _ _ hb) fun I4 q4 x4 y4 => ?_)⟩
        refine cata_of (x4 _ _ y3) y4 (by show 2 + 4 ≤ sizeLine; decide) fun I5 q5 x5 y5 => ?_
        have x15 := (x13.trans x4).trans x5
        -- the second
        refine ⟨_, rfl, nopart ⟨2, rfl, sla_of (x15 _ _ hb) fun I6 q6 x6 y6 => ?_⟩⟩
        refine ⟨(by show 1 ≤ sizeLine; decide), fun q7 hq7 => ?_⟩
        have x7 := same_upd hq7 (o := .tup [V.int 9])
        refine cata_of (x7 _ _ y6) upd_same (by show 2 + 1 ≤ sizeLine; decide) fun I8 q8 x8 y8 => ?_
        have x18 := ((x15.trans x6).trans x7).trans x8
        refine ⟨_, rfl, 3, rfl, nopart (sla_of (x18 _ _ hb) fun I9 q9 x9 y9 => ?_)⟩
        refine cata_of (x9 _ _ y8) y9 (by show 3 + 3 ≤ sizeLine; decide) fun J1 m1 z1 v1 => ?_
        have z11 := (x18.trans x9).trans z1
        -- the third
        refine ⟨_, rfl, nopart ⟨5, rfl, sla_of (z11 _ _ hb) fun J2 m2 z2 v2 => ?_⟩⟩
        have z12 := z11.trans z2
        refine ⟨_, rfl, t2, _, _, _, rfl, rfl, .inl (.inl (z12 _ _ hb)), atI_nat (j := 5) rfl, ?_⟩
        refine ⟨_, rfl, ?_⟩
        refine ⟨(by show 1 ≤ sizeLine; decide), fun m3 hm3 => ?_⟩
        have z3 := same_upd hm3 (o := .tup [V.bl !r2.dr])
        refine cata_of (z3 _ _ v2) upd_same (by show 5 + 1 ≤ sizeLine; decide) fun J4 m4 z4 v4 => ?_
        have z14 := (z12.trans z3).trans z4
        refine ⟨(by show 3 ≤ sizeLine; decide), fun lb hlb => ?_⟩
        have z5 := same_upd hlb (o := .lst [V.ref q5, .ref m1, .ref m4])
        have drJ := drb.same z14
        have nlb := drJ.ne hlb
        refine ⟨_, rfl, _, rfl, d, 3, _, rfl, by decide, log_tiny (by decide) (by decide), drJ.same z5, by omega, fun J6 rr uu cc bb6 drr => ?_⟩
        have n6 := dr_nl (drJ.same z5) bb6
        obtain ⟨v, hat, hv⟩ := at3 (a := V.ref q5) (b := V.ref m1) (c := V.ref m4) (i := rr) uu cc
        refine ⟨lb, _, _, v, rfl, rfl, SqL.of (bb6 _ _ nlb upd_same), hat, ?_⟩
        have zN : NL Hb J6 := (NL.of (z14.trans z5)).trans n6
        have elJ := bb6 _ _ nl (z5 _ _ (z14 _ _ elb))
        have hRJ := hR4.nl ((nA.trans nb).trans zN)
        have bJ := (bA.trans bb).trans ((But.of (z14.trans z5)).trans bb6)
        have t1 : J6 q5 = some (.tup (rowVals ⟨r2.num, 9, r2.we, r2.sh, r2.fo, r2.dr⟩)) := n6 _ _ (fun _ z => by cases z) (z5 _ _ (z4 _ _ (z3 _ _ (z2 _ _ (z1 _ _ (x9 _ _ (x8 _ _ (x7 _ _ (x6 _ _ y5)))))))))
        have t2 : J6 m1 = some (.tup (rowVals ⟨r2.num, r2.ac, 9, r2.sh, r2.fo, r2.dr⟩)) := n6 _ _ (fun _ z => by cases z) (z5 _ _ (z4 _ _ (z3 _ _ (z2 _ _ v1))))
        have t3 : J6 m4 = some (.tup (rowVals ⟨r2.num, r2.ac, r2.we, r2.sh, r2.fo, !r2.dr⟩)) := n6 _ _ (fun _ z => by cases z) (z5 _ _ v4)
        have nine : whl (.int 9) 1 1000000 = true := by decide
        obtain ⟨h1, h2, h3, h4, h5⟩ := gr2
        rcases hv with rfl | rfl | rfl
        · exact ⟨_, q5, (⟨r2.num, 9, r2.we, r2.sh, r2.fo, r2.dr⟩ : Rw), rfl, ⟨h1, nine, h3, h4, h5⟩, t1, elJ, hRJ, bJ, drr.mono (by omega)⟩
        · exact ⟨_, m1, (⟨r2.num, r2.ac, 9, r2.sh, r2.fo, r2.dr⟩ : Rw), rfl, ⟨h1, h2, nine, h4, h5⟩, t2, elJ, hRJ, bJ, drr.mono (by omega)⟩
        · exact ⟨_, m4, (⟨r2.num, r2.ac, r2.we, r2.sh, r2.fo, !r2.dr⟩ : Rw), rfl, ⟨h1, h2, h3, h4, h5⟩, t3, elJ, hRJ, bJ, drr.mono (by omega)⟩
    · rintro σ' H' ⟨w5', t', r', rfl, gr', ht', el', hR', b', dr'⟩
      refine ⟨_, rfl, .inl ⟨rfl, _, SqL.of el'⟩, _, rfl, l, _, _, rfl, rfl, el', Nat.lt_of_le_of_lt (by omega : xs.length ≤ 9) (by decide), ?_⟩
      refine ⟨_, _, _, xs ++ [.ref t'], rs ++ [r'], rfl, upd_same, by rw [List.length_append, hlen]; rfl, (hR'.snoc ht').nl (NL.at_ el'), fun x hx => ?_, b'.mut hl, (dr'.mono (by omega)).upd nl⟩
      rcases List.mem_append.mp hx with h | h
      · exact hG x h
      · rw [List.mem_singleton.mp h]
        exact gr'
  · rintro σ H' ⟨w3, w4, w5, xs, rs, rfl, el, hlen, hR, hG, b', dr'⟩
    refine ⟨_, rfl, q H' l xs rs hl el hR hG (by rw [← hR.1]; omega) (by rw [← hR.1]; omega) b' (dr'.mono (by omega))⟩
end
end KB
namespace KA
open PySem PySem.Spec PyProof.Rows L2
theorem rcB_own1 {X : Cx} {n : Nat} {CX : CXT} {C f : Addr} {fd : FuncData} {ps : List Str} {R : Addr → V → Bool → Hp → Prop} {E : XK} (F : FnOk X.prog X.w X.K X.mg X.base CX n f fd ps (spEqO R)) (hs : PySem.W.findIn X.K (.ref C) "__eq__" = some (some (.ref f))) (hf : PySem.W.isFn X.K (.ref f) = true) (hb : Binds X.K fd ps []) (hx : Passes CX X E) :
    RcB X n false (BOwn1 X.K C R) := by
  intro A pins s σ H x y u v b sb I rx ry d
  obtain ⟨a, dx, fs, t, rfl, ha, ty, nf, hR⟩ := d
  cases rx
  obtain ⟨mA, J, _⟩ := ins_get I.hok ha
  obtain ⟨od, J, _⟩ := J.look
  obtain ⟨Pz, Z, p, _⟩ := kit_of I ry ty
  obtain ⟨m, hF⟩ := I.fr
  have fin : (false ^^ b) = b := Bool.false_xor b
  rw [fin]
  exact PySem.W.cmp_K (op := .Eq) (tb := t) sb.room.units0 hF I.ok.mod.kin J (Z.ty _ _ I.kIn p) nf hs hf (run_eqO F hb hx sb I ry hR)
end KA
namespace KB
open PySem PySem.Spec PyProof.Rows L2 KA LamX
section
variable {P : Program} {w : World} {K : PySem.W.Frag} {mg : Str → Option Value} {base : Heap}
theorem rcB_lot {X : Cx} (T : Tx X.K X.mg) : RcB X 1 false (BOwn1 X.K T.C_Lot (Lo.RLot X.K T.C_Rule T.C_Lot)) :=
  rcB_own1 (E := E0) (Lo.ok_Lot_eq (P := X.prog) (w := X.w) (base := X.base) T) T.m_Lot_eq.at_ T.m_Lot_eq.fn T.b_Lot_eq pass0
theorem rcB_lot_ne {X : Cx} (T : Tx X.K X.mg) : RcB X 2 true (BOwn1 X.K T.C_Lot (Lo.RLot X.K T.C_Rule T.C_Lot)) :=
  rcB_ownNe (E := E0) (Lo.ok_Lot_eq (P := X.prog) (w := X.w) (base := X.base) T) T.m_Lot_eq.at_ T.m_Lot_eq.fn T.b_Lot_eq pass0 T.hm_Lot T.hne_Lot
theorem lot_lot {K : PySem.W.Frag} {mg : Str → Option Value} (T : Tx K mg) {H : Hp} {p q : Addr} {u v : Lo.Pt} (h1 : Lo.LotAt T.C_Lot H p u) (g1 : Lo.GoodPt u) (h2 : Lo.LotAt T.C_Lot H q v) (g2 : Lo.GoodPt v) : BOwn1 K T.C_Lot (Lo.RLot K T.C_Rule T.C_Lot) (.ref p) (.ref q) (Lo.likeLot u v) H := by
  obtain ⟨dx, t, a1, a2⟩ := id h1
  obtain ⟨dy, t2, b1, b2⟩ := id h2
  exact ⟨p, dx, _, .ref T.C_Lot, rfl, a1, T.ic_Lot.ty T.cl_Lot b1, by simp [PySem.W.notFirst], u, h1, g1, .inl ⟨q, v, rfl, h2, g2, rfl⟩⟩
theorem SV.nl {CB CR C : Addr} {H H' : Hp} {s : Addr} {rs : List (Option Rw)} {u : Rl} (h : SV CB CR C H s rs u) (z : NL H H') : SV CB CR C H' s rs u := by
  obtain ⟨t, m, xs, ⟨dx, h1⟩, h2, h3, dm, h4⟩ := h.ex
  exact ⟨t, m, xs, ⟨dx, z _ _ (fun _ z => by cases z) h1⟩, z _ _ (fun _ z => by cases z) h2, h3.same z, dm, z _ _ (fun _ z => by cases z) h4⟩
theorem rst_mon {K : PySem.W.Frag} {CB CR C : Addr} : ∀ a y b H H', Ext H H' → RSt K CB CR C a y b H → RSt K CB CR C a y b H' := fun a y b H H' e ⟨rs, u, h, q⟩ =>
  ⟨rs, u, h.same e, q.elim (fun ⟨s2, ss, v, h1, h2, h3⟩ => .inl ⟨s2, ss, v, h1, h2.same e, h3⟩) fun ⟨t, h1, h2, h3⟩ => .inr ⟨t, h1, tyx_same e h2, h3⟩⟩
theorem rcB_st {X : Cx} (T : Tx X.K X.mg) : RcB X 4 false (BOwn1 X.K T.C_String (RSt X.K T.C_Bead T.C_Rule T.C_String)) :=
  rcB_own1 (E := E0) (ok_String_eq (P := X.prog) (w := X.w) (base := X.base) T) T.m_String_eq.at_ T.m_String_eq.fn T.b_String_eq pass0
theorem rcB_st_ne {X : Cx} (T : Tx X.K X.mg) : RcB X 5 true (BOwn1 X.K T.C_String (RSt X.K T.C_Bead T.C_Rule T.C_String)) :=
  rcB_ownNe (E := E0) (ok_String_eq (P := X.prog) (w := X.w) (base := X.base) T) T.m_String_eq.at_ T.m_String_eq.fn T.b_String_eq pass0 T.hm_String T.hne_String
theorem st_st {K : PySem.W.Frag} {mg : Str → Option Value} (T : Tx K mg) {H : Hp} {p q : Addr} {rs ss : List (Option Rw)} {u v : Rl} (h1 : SV T.C_Bead T.C_Rule T.C_String H p rs u) (h2 : SV T.C_Bead T.C_Rule T.C_String H q ss v) : BOwn1 K T.C_String (RSt K T.C_Bead T.C_Rule T.C_String) (.ref p) (.ref q) (likeSt rs ss u v) H := by
  obtain ⟨t, m, xs, ⟨dx, a1⟩, _⟩ := h1.ex
  obtain ⟨t2, m2, ys, ⟨dy, b1⟩, _⟩ := h2.ex
  exact ⟨p, dx, _, .ref T.C_String, rfl, a1, T.ic_String.ty T.cl_String b1, by simp [PySem.W.notFirst], rs, u, h1, .inl ⟨q, ss, v, rfl, h2, rfl⟩⟩
end
end KB
namespace KB
open PySem PySem.Spec PyProof.Rows L2 KA
section
variable {P : Program} {w : World} {K : PySem.W.Frag} {mg : Str → Option Value} {base : Heap}
theorem digs_split : ∀ (a b : List Nat) {c d : Nat} {x y : List Nat}, NumText.AllDigits a → NumText.AllDigits b → ¬ (48 ≤ c ∧ c ≤ 57) → ¬ (48 ≤ d ∧ d ≤ 57) → a ++ c :: x = b ++ d :: y → a = b ∧ c :: x = d :: y
  | [], [], c, d, x, y, _, _, _, _, h => ⟨rfl, h⟩
  | [], e :: b, c, d, x, y, _, hb, hc, _, h => by
    have := List.cons.inj h
    exact absurd (this.1 ▸ hb.head) hc
  | e :: a, [], c, d, x, y, ha, _, _, hd, h => by
    have := List.cons.inj h
    exact absurd (this.1 ▸ ha.head) hd
  | e :: a, f :: b, c, d, x, y, ha, hb, hc, hd, h => by
    obtain ⟨h1, h2⟩ := List.cons.inj h
    obtain ⟨h3, h4⟩ := digs_split a b ha.tail hb.tail hc hd h2
    exact ⟨by rw [h1, h3], h4⟩
theorem num_split {m n : Int} {s : Str} {c : Nat} {cs x y : List Nat} (hm : 0 ≤ m) (hn : 0 ≤ n) (hs : TL.tl s = c :: cs) (hc : ¬ (48 ≤ c ∧ c ≤ 57)) (h : TL.tl (Str.ofString (toString m)) ++ (TL.tl s ++ x) = TL.tl (Str.ofString (toString n)) ++ (TL.tl s ++ y)) : m = n ∧ x = y := by
  rw [tl_pos hm, tl_pos hn, hs, List.cons_append, List.cons_append] at h
  obtain ⟨h1, h2⟩ := digs_split _ _ (TL.numL_digits _) (TL.numL_digits _) hc hc h
  refine ⟨?_, List.append_cancel_left (List.cons.inj h2).2⟩
  have := congrArg NumText.digitsVal h1
  rw [TL.numL_val, TL.numL_val] at this
  omega
theorem rule_tl (u : Rl) : TL.tl (ruleText u) = TL.tl "Rule(least=" ++ (TL.tl (Str.ofString (toString u.lo)) ++ (TL.tl ", most=" ++ (TL.tl (Str.ofString (toString u.hi)) ++ (TL.tl ", match=" ++ (TL.tl (Str.ofString (toString u.far)) ++ (TL.tl ", shades=" ++ (TL.tl (shB u.shd) ++ TL.tl ")"))))))) := by
  unfold ruleText
  simp only [TL.tl_append, List.append_assoc]
  rfl
theorem rule_inj {u v : Rl} (hu : GoodRl u) (hv : GoodRl v) (hs : u.shd = v.shd) (h : ruleText u = ruleText v) : u = v := by
  have h := congrArg TL.tl h
  rw [rule_tl, rule_tl] at h
  obtain ⟨u1, u2, u3⟩ := hu
  obtain ⟨v1, v2, v3⟩ := hv
  have h := List.append_cancel_left h
  obtain ⟨h1, h⟩ := num_split u1 v1 (c := 44) (by decide +kernel : TL.tl ", most=" = 44 :: [32, 109, 111, 115, 116, 61]) (by omega) h
  obtain ⟨h2, h⟩ := num_split (by omega) (by omega) (c := 44) (by decide +kernel : TL.tl ", match=" = 44 :: [32, 109, 97, 116, 99, 104, 61]) (by omega) h
  obtain ⟨h3, h⟩ := num_split u3 v3 (c := 44) (by decide +kernel : TL.tl ", shades=" = 44 :: [32, 115, 104, 97, 100, 101, 115, 61]) (by omega) h
  exact (rl_eq u v).mpr ⟨h1, h2, h3, hs⟩
theorem rule_shown (u : Rl) : (Str.empty ++ "Rule(least=" ++ Str.ofString (toString u.lo) ++ ", most=" ++ Str.ofString (toString u.hi) ++ ", ") ++ (Str.empty ++ "match=" ++ Str.ofString (toString u.far) ++ ", shades=" ++ shB u.shd ++ ")") = ruleText u := by
  apply TL.ext_tl
  rw [rule_tl]
  have hm : TL.tl ", match=" = TL.tl ", " ++ TL.tl "match=" := by decide +kernel
  simp only [TL.tl_append, List.append_assoc, hm]
  rfl
end
end KB
namespace KB
open PySem PySem.Spec PyProof.Rows L2 KA LamX
open Sx (ok_Share_init ok_Share_repr ok_common_part)
open Lo (ok_Lot_init ok_Lot_len ok_Lot_str)
section
variable {P : Program} {w : World} {K : PySem.W.Frag} {mg : Str → Option Value} {base : Heap}
theorem sz64 {n : Int} (h : n.natAbs < 1000) : Sz 64 n := Nat.lt_of_lt_of_le h (by decide)
theorem cmul_in {a b : Int} (ha : a.natAbs < 1000) (hb : b.natAbs < 1000) : CMul a b := by
  have e64 : (2 : Int) ^ 64 = 18446744073709551616 := by decide
  have n64 : (2 : Nat) ^ 64 = 18446744073709551616 := by decide
  refine .inl ⟨?_, ?_⟩
  · first | (rw [e64]; omega) | (rw [n64]; omega)
  · first | (rw [e64]; omega) | (rw [n64]; omega)
/-- the rules of a list -/
def Rls (C : Addr) (H : Hp) (xs : List V) : Prop := ∀ (j : Nat) v, xs[j]? = some v → ∃ p u, v = .ref p ∧ RuleAt C H p u ∧ GoodRl u ∧ u.hi < 1000 ∧ u.far < 1000 ∧ u.shd = true
theorem Rls.nl {C : Addr} {H H' : Hp} {xs : List V} (h : Rls C H xs) (s : NL H H') : Rls C H' xs := fun j v hv => by
  obtain ⟨p, u, h1, ⟨dx, h2⟩, h4⟩ := h j v hv
  exact ⟨p, u, h1, ⟨dx, s _ _ (fun _ z => by cases z) h2⟩, h4⟩
/-- the other things -/
def spOthers : Sp := fun vs H Q _ => ∃ (d wl : Addr) (n : Nat) (w0 w1 w2 w3 : Str), vs = [.ref d, .ref wl] ∧ Dr PM d n H ∧ n ≤ 2000 ∧ wl ≠ d ∧ H wl = some (.lst [.str w0, .str w1, .str w2, .str w3]) ∧ nm (.str w0) = true ∧ nm (.str w1) = true ∧ nm (.str w2) = true ∧ nm (.str w3) = true ∧ w1 ≠ w2 ∧
  ∀ H' : Hp, But d H H' → Q (.bl true) H'
theorem ok_others (T : Tx K mg) : FnOk P w K mg base CX0 12 T.A_others T.fd_others ["_law_draws_here", "_law_words_here"] (spOthers) := by
  refine T.F_others.ok sc_others (fun vs H Q E h => ?_) (fun cdv A outer s H vs Q E hr h => ?_)
  · obtain ⟨d, wl, n, w0, w1, w2, w3, rfl, dr, hn, nwl, hw, g0, g1, g2, g3, w12, q⟩ := h
    rfl
  obtain ⟨d, wl, n, w0, w1, w2, w3, rfl, dr, hn, nwl, hw, g0, g1, g2, g3, w12, q⟩ := h
  refine ⟨_, (pss_cons (ps_set (i := 2) sc_others.nd rfl (Or.inr rfl) (pe_lc (own := [("_law_k", 10)]) (g := gName 10) (tt := tYes) rfl sc_others.nd (pi_range1 (by rfl) T.z_range (pa_cons pe_int pa_nil)) (blkOk_by (N := ["_law_draws_here", "_law_words_here", "_law_numbers", "_law_rules", "_law_one", "_law_other", "_law_shares", "_law_lots", "_law_ordered", "_law_shown_here", "_law_k"]) (sc := defScope s_others) (by decide +kernel)) (fun _ _ _ _ _ => (pg_name (i := 10) sc_others.nd rfl (Or.inl rfl))) (fun _ _ _ _ _ => pts_nil) (fun _ _ _ _ _ => (pe_call (ok_next T) (hr.mono (by decide)) (by rfl) T.g_next T.F_next.kp T.b_next .nil pass0 (pa_cons (pv 0) (pa_cons pe_int pa_nil))))))
      (pss_cons (ps_set (i := 3) sc_others.nd rfl (Or.inl rfl) (pe_op op_cat (pe_lc (own := [("_law_k", 10)]) (g := gName 10) (tt := tYes) rfl sc_others.nd (pi_tup (pe_tup (pa_cons pe_int (pa_cons pe_int (pa_cons pe_int pa_nil))))) (blkOk_by (N := ["_law_draws_here", "_law_words_here", "_law_numbers", "_law_rules", "_law_one", "_law_other", "_law_shares", "_law_lots", "_law_ordered", "_law_shown_here", "_law_k"]) (sc := defScope s_others) (by decide +kernel)) (fun _ _ _ _ _ => (pg_name (i := 10) sc_others.nd rfl (Or.inl rfl))) (fun _ _ _ _ _ => pts_nil) (fun _ _ _ _ _ => (pe_make T.mk_Rule (ok_Rule_init T) (hr.mono (by decide)) (by rfl) T.g_Rule T.bd3_Rule T.hd3_Rule pass0 (pa_cons (pv 10) (pa_cons (pe_op op_add (pv 10) (pe_ix (ix_listK (K' := K) rfl) (pv 2) (pv 10) (fun _ _ => rfl))) (pa_cons (pe_ix (ix_listK (K' := K) rfl) (pv 2) (pe_op op_add (pv 10) pe_int) (fun _ _ => rfl)) pa_nil)))))) (pe_lst (pa_cons (pe_makeN T.mk_Rule (ok_Rule_init T) (hr.mono (by decide)) (by rfl) T.g_Rule T.kb_4 pass0 (pa_cons pe_int (pa_cons (pe_ix ix_list (pv 2) pe_int (fun _ _ => rfl)) pa_nil)) (pk_cons (pe_ix ix_list (pv 2) pe_int (fun _ _ => rfl)) pk_nil)) pa_nil))))
      (pss_cons (ps_par (i := 4) (j := 5) (by rfl) sc_others.nd rfl rfl (by decide) rfl rfl (pa_cons (pe_op op_sub (pe_ix ix_list (pv 2) pe_int (fun _ _ => rfl)) pe_int) (pa_cons (pe_op op_add (pe_ix ix_list (pv 2) pe_int (fun _ _ => rfl)) pe_int) pa_nil)) (by rfl))
      (pss_cons (ps_set (i := 6) sc_others.nd rfl (Or.inl rfl) (pe_lst (pa_cons (pe_make T.mk_Share (ok_Share_init T) (hr.mono (by decide)) (by rfl) T.g_Share T.b_Share_init .nil pass0 (pa_cons (pv 4) (pa_cons (pv 5) pa_nil))) (pa_cons (pe_make T.mk_Share (ok_Share_init T) (hr.mono (by decide)) (by rfl) T.g_Share T.b_Share_init .nil pass0 (pa_cons (pe_op op_sub pe_int (pe_op op_mul pe_int (pv 4))) (pa_cons (pe_op op_sub pe_int (pe_op op_mul pe_int (pv 5))) pa_nil))) (pa_cons (pe_makeK0 T.mk_Share (ok_Share_init T) (hr.mono (by decide)) (by rfl) T.g_Share T.kb_5 pass0 (pk_cons (pe_op op_add (pv 5) pe_int) (pk_cons (pv 4) pk_nil))) pa_nil)))))
      (pss_cons (ps_set (i := 7) sc_others.nd rfl (Or.inl rfl) (pe_lst (pa_cons (pe_makeN T.mk_Lot (ok_Lot_init T) (hr.mono (by decide)) (by rfl) T.g_Lot T.kb_6 pass0 (pa_cons (pe_ix ix_list (pv 1) pe_int (fun _ _ => rfl)) (pa_cons (pe_ix ix_list (pv 2) pe_int (fun _ _ => rfl)) pa_nil)) (pk_cons (pe_tup (pa_cons (pe_ix ix_list (pv 1) pe_int (fun _ _ => rfl)) (pa_cons (pe_ix ix_list (pv 1) pe_int (fun _ _ => rfl)) pa_nil))) pk_nil)) pa_nil)))
      (pss_cons (ps_expr (pe_bm PySem.F.plainAttrs_list PySem.F.slot_list_append PySem.F.type_list_append mt_append (pv 7) (pa_cons (pe_makeN T.mk_Lot (ok_Lot_init T) (hr.mono (by decide)) (by rfl) T.g_Lot T.kb_7 pass0 (pa_cons (pe_ix ix_list (pv 1) pe_int (fun _ _ => rfl)) pa_nil) (pk_cons (pe_tup (pa_cons (pe_ix ix_list (pv 1) pe_int (fun _ _ => rfl)) (pa_cons (pe_ix ix_list (pv 1) pe_int (fun _ _ => rfl)) pa_nil))) (pk_cons (pe_ix ix_list (pv 2) pe_int (fun _ _ => rfl)) pk_nil))) pa_nil)))
      (pss_cons (ps_expr (pe_bm PySem.F.plainAttrs_list PySem.F.slot_list_append PySem.F.type_list_append mt_append (pv 7) (pa_cons (pe_make T.mk_Lot (ok_Lot_init T) (hr.mono (by decide)) (by rfl) T.g_Lot T.b_Lot_init .nil pass0 (pa_cons (pe_ix ix_list (pv 1) pe_int (fun _ _ => rfl)) (pa_cons (pe_ix ix_list (pv 2) pe_int (fun _ _ => rfl)) (pa_cons pe_int (pa_cons (pe_op op_pow pe_int pe_int) (pa_cons (pe_tup (pa_cons (pe_ix ix_list (pv 1) pe_int (fun _ _ => rfl)) pa_nil)) pa_nil)))))) pa_nil)))
      (pss_cons (ps_if (PW.pt (pw_or (pt_cmpR (op_neB (Sx.rcB_ne2 T) (hr.mono (by decide))) (pe_ix ix_list (pv 6) pe_int (fun _ _ => rfl)) (pe_ix ix_list (pv 6) pe_int (fun _ _ => rfl)) (nomark _)) (pw_or1 (pt_cmpR op_ne (pe_cmpR (op_eqB (Sx.rcB_own2 T) (hr.mono (by decide))) (pe_ix ix_list (pv 6) pe_int (fun _ _ => rfl)) (pe_ix ix_list (pv 6) pe_int (fun _ _ => rfl)) (nomark _)) (pe_cmpR op_eq (pv 4) pe_int (nomark _)) (nomark _))))) (pss_one (ps_ret pe_bl)) pss_nil)
      (pss_cons (ps_if (pt_cmpR op_ne (pe_callB (call_reprO (E := E0) (ok_Share_repr T) T.m_Share_repr.at_ T.m_Share_repr.fn T.b_Share_repr pass0 (hr.mono (by decide))) (by rfl) T.z_repr (by decide +kernel) (pa_cons (pe_ix ix_list (pv 6) pe_int (fun _ _ => rfl)) pa_nil)) (pe_callB (call_reprO (E := E0) (ok_Share_repr T) T.m_Share_repr.at_ T.m_Share_repr.fn T.b_Share_repr pass0 (hr.mono (by decide))) (by rfl) T.z_repr (by decide +kernel) (pa_cons (pe_ix ix_list (pv 6) pe_int (fun _ _ => rfl)) pa_nil)) (nomark _)) (pss_one (ps_ret pe_bl)) pss_nil)
      (pss_cons (ps_if (PW.pt (pw_or (pt_cmpR (op_neB (rcB_lot_ne T) (hr.mono (by decide))) (pe_ix ix_list (pv 7) pe_int (fun _ _ => rfl)) (pe_ix ix_list (pv 7) pe_int (fun _ _ => rfl)) (nomark _)) (pw_or (pt_cmpR (op_eqB (rcB_lot T) (hr.mono (by decide))) (pe_ix ix_list (pv 7) pe_int (fun _ _ => rfl)) (pe_ix ix_list (pv 7) pe_int (fun _ _ => rfl)) (nomark _)) (pw_or1 (pt_cmpR op_ne (pe_callB (call_lenO (E := E0) (ok_Lot_len T) T.m_Lot_len.at_ T.m_Lot_len.fn T.b_Lot_len pass0 (hr.mono (by decide))) (by rfl) T.z_len PySem.boot_len (pa_cons (pe_ix ix_list (pv 7) pe_int (fun _ _ => rfl)) pa_nil)) (pe_ix ix_list (pv 2) pe_int (fun _ _ => rfl)) (nomark _)))))) (pss_one (ps_ret pe_bl)) pss_nil)
      (pss_cons (ps_if (PW.pt (pw_or (pt_cmpR op_ne (pe_callTy (call_boolO (E := E0) (ok_Lot_len T) T.bb_Lot T.m_Lot_len.at_ T.m_Lot_len.fn T.b_Lot_len pass0 (hr.mono (by decide))) (by rfl) T.z_bool (by decide +kernel) (pa_cons (pe_ix ix_list (pv 7) pe_int (fun _ _ => rfl)) pa_nil)) (pe_cmpR op_gt (pe_ix ix_list (pv 2) pe_int (fun _ _ => rfl)) pe_int (nomark _)) (nomark _)) (pw_or (pt_cmpR (op_eqB (rcB_lot T) (hr.mono (by decide))) (pe_ix ix_list (pv 7) pe_int (fun _ _ => rfl)) (pe_ix ix_list (pv 3) pe_int (fun _ _ => rfl)) (nomark _)) (pw_or1 (pt_cmpR (op_eqB (Sx.rcB_own2 T) (hr.mono (by decide))) (pe_ix ix_list (pv 6) pe_int (fun _ _ => rfl)) (pv 4) (nomark _)))))) (pss_one (ps_ret pe_bl)) pss_nil)
      (pss_cons (ps_if (pt_cmpR op_ne (pe_callTy (call_strO (E := E0) (ok_Lot_str T) T.m_Lot_str.at_ T.m_Lot_str.fn T.b_Lot_str pass0 (hr.mono (by decide))) (by rfl) T.z_str (by decide +kernel) (pa_cons (pe_ix ix_list (pv 7) pe_int (fun _ _ => rfl)) pa_nil)) (pe_joined (PJ.cons (pe_fmtB (pe_ix ix_list (pv 1) pe_int (fun _ _ => rfl))) (PJ.cons pe_str (PJ.cons (pe_fmtB (pe_ix ix_list (pv 2) pe_int (fun _ _ => rfl))) (PJ.cons pe_str (PJ.cons (pe_fmtB (pe_ix ix_list (pv 1) pe_int (fun _ _ => rfl))) PJ.nil)))))) (nomark _)) (pss_one (ps_ret pe_bl)) pss_nil)
      (pss_cons (ps_for PassesOwn.never rfl (pi_list (pv 3)) (pg_name (i := 8) sc_others.nd rfl (Or.inl rfl))
        (pss_cons (ps_set (i := 9) sc_others.nd rfl (Or.inl rfl) (pe_joined (PJ.cons pe_str (PJ.cons (pe_fmtB (pe_fld (pv 8) rfl)) (PJ.cons pe_str (PJ.cons (pe_fmtB (pe_fld (pv 8) rfl)) (PJ.cons pe_str PJ.nil)))))))
      (pss_cons (ps_set (i := 9) sc_others.nd rfl (Or.inl rfl) (pe_op op_add_str (pv 9) (pe_joined (PJ.cons pe_str (PJ.cons (pe_fmtB (pe_fld (pv 8) rfl)) (PJ.cons pe_str (PJ.cons (pe_fmtB (pe_fld (pv 8) rfl)) (PJ.cons pe_str PJ.nil))))))))
      (pss_cons (ps_if (pt_cmpR op_ne (pe_callB (call_reprO (E := E0) (ok_Rule_repr T) T.m_Rule_repr.at_ T.m_Rule_repr.fn T.b_Rule_repr pass0 (hr.mono (by decide))) (by rfl) T.z_repr (by decide +kernel) (pa_cons (pv 8) pa_nil)) (pv 9) (nomark _)) (pss_one (ps_ret pe_bl)) pss_nil)
      (pss_one (ps_for PassesOwn.never rfl (pi_list (pv 3)) (pg_name (i := 4) sc_others.nd rfl (Or.inl rfl))
        (pss_one (ps_if (pt_cmpR op_ne (pe_cmpR (op_own (E := E0) (ok_Rule_eq T) T.m_Rule_eq.at_ T.m_Rule_eq.fn T.b_Rule_eq pass0 (hr.mono (by decide))) (pv 8) (pv 4) (nomark _)) (pe_cmpR op_eq (pe_callB (call_reprO (E := E0) (ok_Rule_repr T) T.m_Rule_repr.at_ T.m_Rule_repr.fn T.b_Rule_repr pass0 (hr.mono (by decide))) (by rfl) T.z_repr (by decide +kernel) (pa_cons (pv 4) pa_nil)) (pv 9) (nomark _)) (nomark _)) (pss_one (ps_ret pe_bl)) pss_nil))))))))
      (pss_one (ps_ret (pe_cmpR (op_own (E := E0) (ok_Rule_eq T) T.m_Rule_eq.at_ T.m_Rule_eq.fn T.b_Rule_eq pass0 (hr.mono (by decide))) (pe_ix ix_list (pv 3) pe_int (fun _ _ => rfl)) (pe_makeK0 T.mk_Rule (ok_Rule_init T) (hr.mono (by decide)) (by rfl) T.g_Rule T.kb_8 pass0 (pk_cons pe_bl (pk_cons (pe_fld (pe_ix ix_list (pv 3) pe_int (fun _ _ => rfl)) rfl) (pk_cons (pe_fld (pe_ix ix_list (pv 3) pe_int (fun _ _ => rfl)) rfl) (pk_cons (pe_fld (pe_ix ix_list (pv 3) pe_int (fun _ _ => rfl)) rfl) pk_nil))))) (nomark _))))))))))))))))), ?_⟩
  refine ⟨_, rfl, by decide, by decide, fun D hD => ?_⟩
  have nD : D ≠ d := dr.ne hD
  refine lc_range (lo := 0) (n := 6) (fun i H' => ∃ ks : List Int, But d H H' ∧ Dr PM d (n + i) H' ∧ H' D = some (.lst (ks.map V.int)) ∧ ks.length = i ∧ ∀ k ∈ ks, 0 ≤ k ∧ k < 4) ⟨[], But.new hD, dr.upd nD, upd_same, rfl, fun _ h => nomatch h⟩ ?_ ?_
  · rintro i H2 hi ⟨ks, b2, dr2, e2, hl, hk⟩
    refine ⟨rfl, yesT ⟨_, rfl, d, 4, _, rfl, by decide, log_tiny (by decide) (by decide), dr2, by omega, fun H3 r3 u3 c3 b3 dr3 => ?_⟩⟩
    refine ⟨_, b3 _ _ nD e2, ?_, ks ++ [r3], (b2.trans b3).mut hD, (dr3.upd nD).mono (by omega), ?_, ?_, ?_⟩
    · rw [List.length_map, hl]
      exact Nat.lt_of_lt_of_le hi (by decide)
    · rw [List.map_append]
      exact upd_same
    · rw [List.length_append, hl]
      rfl
    · intro k hk'
      rcases List.mem_append.mp hk' with h | h
      · exact hk k h
      · rw [List.mem_singleton.mp h]
        exact ⟨u3, c3⟩
  rintro H1 ⟨ks, b1, dr1, e1, hl, hk⟩
  obtain ⟨k0, k1, k2, k3, k4, k5, rfl⟩ : ∃ k0 k1 k2 k3 k4 k5 : Int, ks = [k0, k1, k2, k3, k4, k5] := by
    match ks, hl with
    | [a, b, c, d, e, f], _ => exact ⟨a, b, c, d, e, f, rfl⟩
  have hw1 := b1 _ _ nwl hw
  obtain ⟨a0, z0⟩ := hk k0 (by simp)
  obtain ⟨a1, z1⟩ := hk k1 (by simp)
  obtain ⟨a2, z2⟩ := hk k2 (by simp)
  obtain ⟨a3, z3⟩ := hk k3 (by simp)
  obtain ⟨a4, z4⟩ := hk k4 (by simp)
  obtain ⟨a5, z5⟩ := hk k5 (by simp)
  replace e1 : H1 D = some (.lst [.int k0, .int k1, .int k2, .int k3, .int k4, .int k5]) := e1
  have bH := b1
  clear hk hl hw dr hn dr1 hD nwl
  refine ⟨(by show 3 ≤ sizeLine; decide), fun t ht => ?_⟩
  have x1 := same_upd ht (o := .tup [V.int 0, .int 1, .int 2])
  refine ⟨t, rfl, ⟨_, .inl (.inl upd_same)⟩, fun D2 hD2 => ?_⟩
  refine lc_genT (K := K) hD2 upd_same (by show 3 ≤ 10000; decide) (fun j v H' => ∃ p u, v = .ref p ∧ RuleAt T.C_Rule H' p u ∧ GoodRl u ∧ u.hi < 1000 ∧ u.far < 1000 ∧ u.shd = true) (fun j v H1 H2 s h => ?_) ?_ ?_
  · obtain ⟨p, u, h1, ⟨dx, h2⟩, h3⟩ := h
    exact ⟨p, u, h1, ⟨dx, s _ _ (fun _ z => by cases z) h2⟩, h3⟩
  · intro i x H2 R C hi s2 hR
    have eD := s2 _ _ (x1 _ _ e1)
    have hi3 : i < 3 := (List.getElem?_eq_some_iff.mp hi).1
    rcases (by omega : i = 0 ∨ i = 1 ∨ i = 2) with rfl | rfl | rfl
    · obtain rfl : V.int 0 = x := Option.some.inj hi
      refine ⟨rfl, yesT ⟨_, rfl, _, rfl, _, rfl, _, rfl, D, _, _, _, rfl, rfl, SqL.of eD, atI_nat (j := 0) rfl, _, _, rfl, rfl, _, rfl, _, rfl, _, _, rfl, rfl, D, _, _, _, rfl, rfl, SqL.of eD, atI_nat (j := 3) rfl, fun p dx np ndx ne => ?_⟩⟩
      refine ⟨p, dx, ⟨0, 0 + k0, k3, true⟩, rfl, upd_same, ⟨(show (0 : Int) ≤ 0 by decide), by show (0 : Int) ≤ 0 + k0; omega, a3⟩, fun H3 h3 kk => ⟨rfl, ?_⟩⟩
      exact hR _ _ (made_same np ndx kk) ⟨p, _, rfl, h3, ⟨(show (0 : Int) ≤ 0 by decide), by show (0 : Int) ≤ 0 + k0; omega, a3⟩, by show 0 + k0 < 1000; omega, by show k3 < 1000; omega, rfl⟩
    · obtain rfl : V.int 1 = x := Option.some.inj hi
      refine ⟨rfl, yesT ⟨_, rfl, _, rfl, _, rfl, _, rfl, D, _, _, _, rfl, rfl, SqL.of eD, atI_nat (j := 1) rfl, _, _, rfl, rfl, _, rfl, _, rfl, _, _, rfl, rfl, D, _, _, _, rfl, rfl, SqL.of eD, atI_nat (j := 4) rfl, fun p dx np ndx ne => ?_⟩⟩
      refine ⟨p, dx, ⟨1, 1 + k1, k4, true⟩, rfl, upd_same, ⟨(show (0 : Int) ≤ 1 by decide), by show (1 : Int) ≤ 1 + k1; omega, a4⟩, fun H3 h3 kk => ⟨rfl, ?_⟩⟩
      exact hR _ _ (made_same np ndx kk) ⟨p, _, rfl, h3, ⟨(show (0 : Int) ≤ 1 by decide), by show (1 : Int) ≤ 1 + k1; omega, a4⟩, by show 1 + k1 < 1000; omega, by show k4 < 1000; omega, rfl⟩
    · obtain rfl : V.int 2 = x := Option.some.inj hi
      refine ⟨rfl, yesT ⟨_, rfl, _, rfl, _, rfl, _, rfl, D, _, _, _, rfl, rfl, SqL.of eD, atI_nat (j := 2) rfl, _, _, rfl, rfl, _, rfl, _, rfl, _, _, rfl, rfl, D, _, _, _, rfl, rfl, SqL.of eD, atI_nat (j := 5) rfl, fun p dx np ndx ne => ?_⟩⟩
      refine ⟨p, dx, ⟨2, 2 + k2, k5, true⟩, rfl, upd_same, ⟨(show (0 : Int) ≤ 2 by decide), by show (2 : Int) ≤ 2 + k2; omega, a5⟩, fun H3 h3 kk => ⟨rfl, ?_⟩⟩
      exact hR _ _ (made_same np ndx kk) ⟨p, _, rfl, h3, ⟨(show (0 : Int) ≤ 2 by decide), by show (2 : Int) ≤ 2 + k2; omega, a5⟩, by show 2 + k2 < 1000; omega, by show k5 < 1000; omega, rfl⟩
  · intro H2 acc s2 eA lA gA
    have x2 := x1.trans s2
    have eD := x2 _ _ e1
    have hw2 := x2 _ _ hw1
    refine ⟨_, rfl, D, _, _, _, rfl, rfl, SqL.of eD, atI_nat (j := 0) rfl, _, rfl, D, _, _, _, rfl, rfl, SqL.of eD, atI_nat (j := 3) rfl, rfl, rfl, fun p dx np ndx ne => ?_⟩
    refine ⟨p, dx, ⟨0, k0, k3, true⟩, rfl, upd_same, ⟨(show (0 : Int) ≤ 0 by decide), a0, a3⟩, fun H3 h3 kk => ⟨rfl, (by show 1 ≤ sizeLine; decide), fun l hl => ?_⟩⟩
    have x3 := made_same np ndx kk
    have x4 := same_upd hl (o := .lst [V.ref p])
    refine ⟨D2, l, acc, _, rfl, rfl, x4 _ _ (x3 _ _ eA), upd_same, by rw [lA]; show 3 + 1 ≤ sizeLine; decide, fun l2 hl2 => ?_⟩
    have x5 := same_upd hl2 (o := .lst (acc ++ [V.ref p]))
    have x25 := (x3.trans x4).trans x5
    have eR : (upd (upd H3 l (.lst [V.ref p])) l2 (.lst (acc ++ [V.ref p]))) l2 = some (.lst (acc ++ [V.ref p])) := upd_same
    have hRl : Rls T.C_Rule (upd (upd H3 l (.lst [V.ref p])) l2 (.lst (acc ++ [V.ref p]))) (acc ++ [V.ref p]) := fun j v hv => by
      by_cases hj : j < acc.length
      · rw [List.getElem?_append_left hj] at hv
        obtain ⟨p', u, h1, ⟨dx', h2⟩, h4⟩ := gA j v hv
        exact ⟨p', u, h1, ⟨dx', x25 _ _ h2⟩, h4⟩
      · rw [List.getElem?_append_right (by omega)] at hv
        have := (List.getElem?_eq_some_iff.mp hv).1
        rw [List.length_singleton] at this
        have e : j - acc.length = 0 := by omega
        rw [e] at hv
        cases hv
        obtain ⟨dx', h2⟩ := h3
        exact ⟨p, _, rfl, ⟨dx', (x4.trans x5) _ _ h2⟩, ⟨(show (0 : Int) ≤ 0 by decide), a0, a3⟩, by show k0 < 1000; omega, by show k3 < 1000; omega, rfl⟩
    have lR : (acc ++ [V.ref p]).length = 4 := by
      rw [List.length_append, lA]
      rfl
    generalize hX : acc ++ [V.ref p] = X at eR hRl lR ⊢
    have eD5 : (upd (upd H3 l (.lst [V.ref p])) l2 (.lst X)) D = some (.lst [.int k0, .int k1, .int k2, .int k3, .int k4, .int k5]) := by
      rw [← hX]
      exact x25 _ _ eD
    have hw5 : (upd (upd H3 l (.lst [V.ref p])) l2 (.lst X)) wl = some (.lst [.str w0, .str w1, .str w2, .str w3]) := by
      rw [← hX]
      exact x25 _ _ hw2
    have kA : Same H1 (upd (upd H3 l (.lst [V.ref p])) l2 (.lst X)) := by
      rw [← hX]
      exact x2.trans x25
    revert eR hRl eD5 hw5 kA
    generalize upd (upd H3 l (.lst [V.ref p])) l2 (.lst X) = H5
    intro eR hRl eD5 hw5 kA
    refine ⟨_, rfl, D, _, _, _, rfl, rfl, SqL.of eD5, atI_nat (j := 0) rfl, _, _, rfl, rfl, _, rfl, D, _, _, _, rfl, rfl, SqL.of eD5, atI_nat (j := 1) rfl, _, _, rfl, rfl, ?_⟩
    refine ⟨_, _, rfl, ?_⟩
    show tSeq _ _ _ [some (.ref d), some (.ref wl), some (.ref D), some (.ref l2), some (.int (k0 - 2)), some (.int (k1 + 1)), none, none, none, none, none] _
    have o0 : k1 + 1 ≠ 0 := by omega
    refine ⟨_, rfl, _, rfl, fun p1 d1 np1 nd1 ne1 => ⟨p1, d1, k0 - 2, k1 + 1, 64, rfl, upd_same, ?_⟩⟩
    refine ⟨o0, sz64 (by omega), by decide, fun I1 h1 k1' => ⟨rfl, ?_⟩⟩
    have y1 := made_same np1 nd1 k1'
    refine ⟨_, rfl, _, _, rfl, rfl, cmul_in (by omega) (by omega), _, _, rfl, rfl, _, rfl, _, _, rfl, rfl, cmul_in (by omega) (by omega), _, _, rfl, rfl, fun p2 d2 np2 nd2 ne2 => ⟨p2, d2, 0 - 3 * (k0 - 2), 0 - 3 * (k1 + 1), 64, rfl, upd_same, by omega, sz64 (by omega), by decide, fun I2 h2 k2' => ⟨rfl, ?_⟩⟩⟩
    have y2 := made_same np2 nd2 k2'
    refine ⟨_, rfl, _, _, rfl, rfl, _, rfl, rfl, rfl, fun p3 d3 np3 nd3 ne3 => ⟨p3, d3, k0 - 2, k1 + 1 + 1, 64, rfl, upd_same, by omega, sz64 (by omega), by decide, fun I3 h3 k3' => ⟨rfl, ?_⟩⟩⟩
    have y3 := made_same np3 nd3 k3'
    refine ⟨(by show 3 ≤ sizeLine; decide), fun l3 hl3 => ?_⟩
    have y4 := same_upd hl3 (o := .lst [V.ref p1, .ref p2, .ref p3])
    have y14 := ((y1.trans y2).trans y3).trans y4
    have eS : (upd I3 l3 (.lst [V.ref p1, .ref p2, .ref p3])) l3 = some (.lst [V.ref p1, .ref p2, .ref p3]) := upd_same
    have sh1 := h1.same (NL.of ((y2.trans y3).trans y4))
    have sh2 := h2.same (NL.of (y3.trans y4))
    have sh3 := h3.same (NL.of y4)
    have eR6 := y14 _ _ eR
    have eD6 := y14 _ _ eD5
    have hw6 := y14 _ _ hw5
    have hRl6 : Rls T.C_Rule (upd I3 l3 (.lst [V.ref p1, .ref p2, .ref p3])) X := fun j v hv => by
      obtain ⟨p', u, h1, ⟨dx', h2⟩, h4⟩ := hRl j v hv
      exact ⟨p', u, h1, ⟨dx', y14 _ _ h2⟩, h4⟩
    have kB := kA.trans y14
    revert eS sh1 sh2 sh3 eR6 eD6 hw6 hRl6 kB
    generalize upd I3 l3 (.lst [V.ref p1, .ref p2, .ref p3]) = H6
    intro eS sh1 sh2 sh3 eR6 eD6 hw6 hRl6 kB
    have gA : ∀ zs : List Str, (∀ z ∈ zs, nm (.str z) = true) → zs.Nodup → zs.length ≤ 8 → Lo.GoodPt ⟨w0, k2, 1, 1000000, zs⟩ := fun zs hz un fw => ⟨g0, a2, (by show k2 ≤ 20; omega), (by show (1 : Int) ≤ 1; omega), (by show (1 : Int) ≤ 1000000; omega), (by show (1000000 : Int) ≤ 1000000; omega), hz, un, fw⟩
    have two : ∀ {x y : Str}, nm (.str x) = true → nm (.str y) = true → ∀ z ∈ [x, y], nm (.str z) = true := fun hx hy z hz => by
      rcases List.mem_cons.mp hz with rfl | hz
      · exact hx
      · rw [List.mem_singleton.mp hz]
        exact hy
    refine ⟨_, rfl, wl, _, _, _, rfl, rfl, SqL.of hw6, atI_nat (j := 0) rfl, _, rfl, D, _, _, _, rfl, rfl, SqL.of eD6, atI_nat (j := 2) rfl, _, rfl, wl, _, _, _, rfl, rfl, SqL.of hw6, atI_nat (j := 1) rfl, _, rfl, wl, _, _, _, rfl, rfl, SqL.of hw6, atI_nat (j := 2) rfl, (by show 2 ≤ sizeLine; decide), fun t1 ht1 => ⟨rfl, rfl, fun q1 c1 nq1 nc1 nqc1 => ?_⟩⟩
    have v1 := same_upd ht1 (o := .tup [V.str w1, .str w2])
    have mk0 : ∀ {J : Hp} {a b : Addr}, J a = none → J b = none → ∀ x o, J x = some o → (upd (upd J b (.own a)) a (.ins T.C_Lot b [])) x = some o := fun h1 h2 x o e => by
      rw [upd_ne (ne_of_none e h1), upd_ne (ne_of_none e h2)]
      exact e
    refine ⟨q1, c1, ⟨w0, k2, 1, 1000000, [w1, w2]⟩, .ref t1, rfl, upd_same, gA _ (two g1 g2) (by simp [w12]) (by show 2 ≤ 8; decide), .inr ⟨t1, rfl, mk0 nq1 nc1 _ _ upd_same⟩, fun L1 hL1 kL1 => ⟨rfl, (by show 1 ≤ sizeLine; decide), fun l4 hl4 => ?_⟩⟩
    have v2 := made_same nq1 nc1 kL1
    have v3 := same_upd hl4 (o := .lst [V.ref q1])
    have v13 := (v1.trans v2).trans v3
    have d1 : l3 ≠ l4 := ne_of_none ((v1.trans v2) _ _ eS) hl4
    have d2 : l2 ≠ l4 := ne_of_none ((v1.trans v2) _ _ eR6) hl4
    have d3 : D ≠ l4 := ne_of_none ((v1.trans v2) _ _ eD6) hl4
    have d4 : wl ≠ l4 := ne_of_none ((v1.trans v2) _ _ hw6) hl4
    have eL : (upd L1 l4 (.lst [V.ref q1])) l4 = some (.lst [V.ref q1]) := upd_same
    have hL1 := hL1.same v3
    have eS7 := v13 _ _ eS
    have eR7 := v13 _ _ eR6
    have eD7 := v13 _ _ eD6
    have hw7 := v13 _ _ hw6
    have sh1 := sh1.same (NL.of v13)
    have sh2 := sh2.same (NL.of v13)
    have sh3 := sh3.same (NL.of v13)
    have hRl7 : Rls T.C_Rule (upd L1 l4 (.lst [V.ref q1])) X := hRl6.nl (NL.of v13)
    clear hRl6 hw6 eD6 eR6 eS
    have kC := kB.trans v13
    have f4 : H1 l4 = none := (kB.trans (v1.trans v2)).free hl4
    revert eL hL1 eS7 eR7 eD7 hw7 sh1 sh2 sh3 hRl7 kC
    generalize upd L1 l4 (.lst [V.ref q1]) = H7
    intro eL hL1 eS7 eR7 eD7 hw7 sh1 sh2 sh3 hRl7 kC
    refine ⟨_, rfl, .inl ⟨rfl, _, SqL.of eL⟩, ?_⟩
    refine ⟨_, rfl, wl, _, _, _, rfl, rfl, SqL.of hw7, atI_nat (j := 0) rfl, _, rfl, wl, _, _, _, rfl, rfl, SqL.of hw7, atI_nat (j := 2) rfl, _, rfl, wl, _, _, _, rfl, rfl, SqL.of hw7, atI_nat (j := 1) rfl, (by show 2 ≤ sizeLine; decide), fun t2 ht2 => ⟨_, rfl, D, _, _, _, rfl, rfl, SqL.of (same_upd ht2 _ _ eD7), atI_nat (j := 2) rfl, rfl, rfl, fun q2 c2 nq2 nc2 nqc2 => ?_⟩⟩
    have u1 := same_upd ht2 (o := .tup [V.str w2, .str w1])
    refine ⟨q2, c2, ⟨w0, k2, 1, 1000000, [w2, w1]⟩, .ref t2, rfl, upd_same, gA _ (two g2 g1) (by simp [w12.symm]) (by show 2 ≤ 8; decide), .inr ⟨t2, rfl, mk0 nq2 nc2 _ _ upd_same⟩, fun L2 hL2 kL2 => ⟨rfl, ?_⟩⟩
    have u2 := made_same nq2 nc2 kL2
    have u12 := u1.trans u2
    refine ⟨l4, _, _, rfl, rfl, u12 _ _ eL, (by show 1 < sizeLine; decide), ?_⟩
    have n8 : NL H7 (upd L2 l4 (.lst ([V.ref q1] ++ [V.ref q2]))) := (NL.of u12).trans (NL.at_ (u12 _ _ eL))
    have k8 : ∀ {b : Addr} {o : HO}, H7 b = some o → b ≠ l4 → (upd L2 l4 (.lst ([V.ref q1] ++ [V.ref q2]))) b = some o := fun h hb => by
      rw [upd_ne hb]
      exact u12 _ _ h
    have eL8 : (upd L2 l4 (.lst ([V.ref q1] ++ [V.ref q2]))) l4 = some (.lst [V.ref q1, .ref q2]) := upd_same
    have hL1 := hL1.nl n8
    have hL2 : Lo.LotAt T.C_Lot (upd L2 l4 (.lst ([V.ref q1] ++ [V.ref q2]))) q2 ⟨w0, k2, 1, 1000000, [w2, w1]⟩ := hL2.nl (NL.at_ (u12 _ _ eL))
    have eS8 := k8 eS7 d1
    have eR8 := k8 eR7 d2
    have eD8 := k8 eD7 d3
    have hw8 := k8 hw7 d4
    have sh1 := sh1.same n8
    have sh2 := sh2.same n8
    have sh3 := sh3.same n8
    have hRl8 : Rls T.C_Rule (upd L2 l4 (.lst ([V.ref q1] ++ [V.ref q2]))) X := hRl7.nl n8
    have kD : Same H1 (upd L2 l4 (.lst ([V.ref q1] ++ [V.ref q2]))) := fun b o e => by
      rw [upd_ne (ne_of_none e f4)]
      exact u12 _ _ (kC _ _ e)
    clear hRl7 hw7 eD7 eR7 eS7 eL n8 k8
    revert eL8 hL1 hL2 eS8 eR8 eD8 hw8 sh1 sh2 sh3 hRl8 kD
    generalize upd L2 l4 (.lst ([V.ref q1] ++ [V.ref q2])) = H8
    intro eL hL1 hL2 eS eR eD hw sh1 sh2 sh3 hRl kD
    refine ⟨_, rfl, .inl ⟨rfl, _, SqL.of eL⟩, ?_⟩
    refine ⟨_, rfl, wl, _, _, _, rfl, rfl, SqL.of hw, atI_nat (j := 0) rfl, _, rfl, D, _, _, _, rfl, rfl, SqL.of eD, atI_nat (j := 2) rfl, _, _, rfl, rfl, ⟨by decide, by decide, by decide⟩, _, rfl, wl, _, _, _, rfl, rfl, SqL.of hw, atI_nat (j := 1) rfl, (by show 1 ≤ sizeLine; decide), fun t3 ht3 q3 c3 nq3 nc3 nqc3 => ?_⟩
    have b1 := same_upd ht3 (o := .tup [V.str w1])
    refine ⟨q3, c3, ⟨w0, k2, 1, 1000000, [w1]⟩, .ref t3, rfl, upd_same, gA _ (fun z hz => by rw [List.mem_singleton.mp hz]; exact g1) (by simp) (by show 1 ≤ 8; decide), .inr ⟨t3, rfl, mk0 nq3 nc3 _ _ upd_same⟩, fun L3 hL3 kL3 => ⟨rfl, ?_⟩⟩
    have b2 := made_same nq3 nc3 kL3
    have b12 := b1.trans b2
    refine ⟨l4, _, _, rfl, rfl, b12 _ _ eL, (by show 2 < sizeLine; decide), ?_⟩
    have n9 : NL H8 (upd L3 l4 (.lst ([V.ref q1, V.ref q2] ++ [V.ref q3]))) := (NL.of b12).trans (NL.at_ (b12 _ _ eL))
    have k9 : ∀ {b : Addr} {o : HO}, H8 b = some o → b ≠ l4 → (upd L3 l4 (.lst ([V.ref q1, V.ref q2] ++ [V.ref q3]))) b = some o := fun h hb => by
      rw [upd_ne hb]
      exact b12 _ _ h
    have eL9 : (upd L3 l4 (.lst ([V.ref q1, V.ref q2] ++ [V.ref q3]))) l4 = some (.lst [V.ref q1, .ref q2, .ref q3]) := upd_same
    have hL1 := hL1.nl n9
    have hL2 := hL2.nl n9
    have hL3 : Lo.LotAt T.C_Lot (upd L3 l4 (.lst ([V.ref q1, V.ref q2] ++ [V.ref q3]))) q3 ⟨w0, k2, 1, 1000000, [w1]⟩ := hL3.nl (NL.at_ (b12 _ _ eL))
    have eS := k9 eS d1
    have eR := k9 eR d2
    have eD := k9 eD d3
    have hw := k9 hw d4
    have sh1 := sh1.same n9
    have sh2 := sh2.same n9
    have sh3 := sh3.same n9
    have hRl : Rls T.C_Rule (upd L3 l4 (.lst ([V.ref q1, V.ref q2] ++ [V.ref q3]))) X := hRl.nl n9
    have gL1 : Lo.GoodPt ⟨w0, k2, 1, 1000000, [w1, w2]⟩ := gA _ (two g1 g2) (by simp [w12]) (by show 2 ≤ 8; decide)
    have gL2 : Lo.GoodPt ⟨w0, k2, 1, 1000000, [w2, w1]⟩ := gA _ (two g2 g1) (by simp [w12.symm]) (by show 2 ≤ 8; decide)
    have gL3 : Lo.GoodPt ⟨w0, k2, 1, 1000000, [w1]⟩ := gA _ (fun z hz => by rw [List.mem_singleton.mp hz]; exact g1) (by simp) (by show 1 ≤ 8; decide)
    have kE : Same H1 (upd L3 l4 (.lst ([V.ref q1, V.ref q2] ++ [V.ref q3]))) := fun b o e => by
      rw [upd_ne (ne_of_none e f4)]
      exact b12 _ _ (kD _ _ e)
    clear n9 k9 eL
    revert eL9 hL1 hL2 hL3 eS eR eD hw sh1 sh2 sh3 hRl kE
    generalize upd L3 l4 (.lst ([V.ref q1, V.ref q2] ++ [V.ref q3])) = H9
    intro eL hL1 hL2 hL3 eS eR eD hw sh1 sh2 sh3 hRl kE
    obtain ⟨hA, hC⟩ : shr (0 - 3 * (k0 - 2)) (0 - 3 * (k1 + 1)) = shr (k0 - 2) (k1 + 1) ∧ Sx.likeS (shr (k0 - 2) (k1 + 1)) (shr (k0 - 2) (k1 + 1 + 1)) = decide (k0 - 2 = 0) := by
      rcases (by omega : k0 = 0 ∨ k0 = 1 ∨ k0 = 2 ∨ k0 = 3) with rfl | rfl | rfl | rfl <;> rcases (by omega : k1 = 0 ∨ k1 = 1 ∨ k1 = 2 ∨ k1 = 3) with rfl | rfl | rfl | rfl <;> decide
    rw [hA] at sh2
    obtain ⟨dx1, hS1⟩ := id sh1
    obtain ⟨dx2, hS2⟩ := id sh2
    refine ⟨_, rfl, l3, _, _, _, rfl, rfl, SqL.of eS, atI_nat (j := 0) rfl, _, rfl, l3, _, _, _, rfl, rfl, SqL.of eS, atI_nat (j := 1) rfl, _, ⟨p1, dx1, _, .ref T.C_Share, rfl, hS1, T.ic_Share.ty T.cl_Share hS2, by simp [PySem.W.notFirst], _, sh1, .inl ⟨p2, _, rfl, sh2, rfl⟩⟩, fun J1 j1 => ⟨_, rfl, ?_⟩⟩
    rw [Sx.likeS_refl]
    refine iteF ?_
    have j1 : Same H9 J1 := j1
    refine ⟨_, rfl, l3, _, _, _, rfl, rfl, SqL.of (j1 _ _ eS), atI_nat (j := 0) rfl, _, rfl, l3, _, _, _, rfl, rfl, SqL.of (j1 _ _ eS), atI_nat (j := 2) rfl, _, Sx.ownS_at T (sh1.same (NL.of j1)) (sh3.same (NL.of j1)), fun J2 j2 => ⟨_, rfl, rfl, rfl, _, rfl, ?_⟩⟩
    have j2 : Same J1 J2 := j2
    have e2 : V.bl (false ^^ Sx.likeS (shr (k0 - 2) (k1 + 1)) (shr (k0 - 2) (k1 + 1 + 1))) = V.bl (decide (V.int (k0 - 2) = V.int 0)) := by
      rw [Bool.false_xor, hC, dec_int]
    rw [decide_eq_true e2]
    refine iteF ?_
    have j12 := j1.trans j2
    obtain ⟨m1, m2⟩ : Sx.Sm (shr (k0 - 2) (k1 + 1)).1 ∧ Sx.Sm (shr (k0 - 2) (k1 + 1)).2 := by
      have big : ∀ i : Int, i.natAbs < 100 → Sx.Sm i := fun i h => Nat.lt_of_lt_of_le h (Nat.le_trans (by decide : 100 ≤ 10 ^ 2) (Nat.pow_le_pow_right (by decide) (by decide)))
      rcases (by omega : k0 = 0 ∨ k0 = 1 ∨ k0 = 2 ∨ k0 = 3) with rfl | rfl | rfl | rfl <;> rcases (by omega : k1 = 0 ∨ k1 = 1 ∨ k1 = 2 ∨ k1 = 3) with rfl | rfl | rfl | rfl <;> exact ⟨big _ (by decide), big _ (by decide)⟩
    refine ⟨_, rfl, l3, _, _, _, rfl, rfl, SqL.of (j12 _ _ eS), atI_nat (j := 0) rfl, p1, dx1, _, rfl, j12 _ _ hS1, p1, _, rfl, sh1.same (NL.of j12), m1, m2, fun J3 y1 hy1 _ j3 => ⟨⟨y1, rfl⟩, ?_⟩⟩
    have j13 := j12.trans j3
    refine ⟨_, rfl, l3, _, _, _, rfl, rfl, SqL.of (j13 _ _ eS), atI_nat (j := 1) rfl, p2, dx2, _, rfl, j13 _ _ hS2, p2, _, rfl, sh2.same (NL.of j13), m1, m2, fun J4 y2 hy2 _ j4 => ⟨⟨y2, rfl⟩, ?_⟩⟩
    obtain rfl : y1 = y2 := TL.ext_tl (hy1.trans hy2.symm)
    refine ⟨rfl, _, rfl, ?_⟩
    rw [decide_eq_true rfl]
    refine iteF ?_
    have j14 := j13.trans j4
    have l12 : Lo.likeLot ⟨w0, k2, 1, 1000000, [w1, w2]⟩ ⟨w0, k2, 1, 1000000, [w2, w1]⟩ = true := by
      unfold Lo.likeLot
      have : ([w1, w2] : List Str).Perm [w2, w1] := List.Perm.swap _ _ _
      simp [this]
    have l13 : Lo.likeLot ⟨w0, k2, 1, 1000000, [w1, w2]⟩ ⟨w0, k2, 1, 1000000, [w1]⟩ = false := by
      unfold Lo.likeLot
      have : ¬ ([w1, w2] : List Str).Perm [w1] := fun h => by
        have := h.length_eq
        simp at this
      simp [this]
    refine ⟨_, rfl, l4, _, _, _, rfl, rfl, SqL.of (j14 _ _ eL), atI_nat (j := 0) rfl, _, rfl, l4, _, _, _, rfl, rfl, SqL.of (j14 _ _ eL), atI_nat (j := 1) rfl, _, lot_lot T (hL1.same j14) gL1 (hL2.same j14) gL2, fun J5 j5 => ⟨_, rfl, ?_⟩⟩
    rw [l12]
    refine iteF ?_
    have j15 : Same H9 J5 := j14.trans j5
    refine ⟨_, rfl, l4, _, _, _, rfl, rfl, SqL.of (j15 _ _ eL), atI_nat (j := 0) rfl, _, rfl, l4, _, _, _, rfl, rfl, SqL.of (j15 _ _ eL), atI_nat (j := 2) rfl, _, lot_lot T (hL1.same j15) gL1 (hL3.same j15) gL3, fun J6 j6 => ⟨_, rfl, ?_⟩⟩
    rw [l13]
    refine iteF ?_
    have j16 : Same H9 J6 := j15.trans j6
    obtain ⟨dL, tL, hLa, hLt⟩ := id (hL1.same j16)
    have k63 : k2 < 2 ^ 63 := by
      have e63 : (2 : Int) ^ 63 = 9223372036854775808 := by decide
      rw [e63]
      omega
    refine ⟨_, rfl, l4, _, _, _, rfl, rfl, SqL.of (j16 _ _ eL), atI_nat (j := 0) rfl, q1, dL, _, rfl, hLa, q1, _, rfl, hL1.same j16, gL1, k2, rfl, a2, k63, ?_⟩
    refine ⟨_, rfl, D, _, _, _, rfl, rfl, SqL.of (j16 _ _ eD), atI_nat (j := 2) rfl, rfl, _, rfl, ?_⟩
    rw [decide_eq_true rfl]
    refine iteF ?_
    refine ⟨_, rfl, l4, _, _, _, rfl, rfl, SqL.of (j16 _ _ eL), atI_nat (j := 0) rfl, q1, dL, _, rfl, hLa, q1, _, rfl, hL1.same j16, gL1, k2, rfl, a2, k63, ?_⟩
    refine ⟨_, rfl, D, _, _, _, rfl, rfl, SqL.of (j16 _ _ eD), atI_nat (j := 2) rfl, _, _, rfl, rfl, rfl, _, rfl, ?_⟩
    have eb : V.bl (k2 != 0) = V.bl (decide (0 < k2)) := by
      congr 1
      by_cases h : k2 = 0
      · subst h
        rfl
      · rw [decide_eq_true (by omega)]
        simpa using h
    rw [decide_eq_true eb]
    refine iteF ?_
    obtain ⟨pr, ur, e0, hru, _⟩ := hRl 0 _ (List.getElem?_eq_getElem (by rw [lR]; decide))
    obtain ⟨dr0, hr0⟩ := id hru
    refine ⟨_, rfl, l4, _, _, _, rfl, rfl, SqL.of (j16 _ _ eL), atI_nat (j := 0) rfl, _, rfl, l2, _, _, _, rfl, rfl, SqL.of (j16 _ _ eR), atI_nat (j := 0) (List.getElem?_eq_getElem (by rw [lR]; decide)), ?_⟩
    rw [e0]
    refine ⟨_, ⟨q1, dL, _, .ref T.C_Rule, rfl, hLa, T.ic_Rule.ty T.cl_Rule (j16 _ _ hr0), T.nf_LR, _, hL1.same j16, gL1, .inr (.inr ⟨pr, ur, rfl, ⟨dr0, j16 _ _ hr0⟩, rfl⟩)⟩, fun J7 j7 => ⟨_, rfl, iteF ?_⟩⟩
    have j17 : Same H9 J7 := j16.trans j7
    refine ⟨_, rfl, l3, _, _, _, rfl, rfl, SqL.of (j17 _ _ eS), atI_nat (j := 0) rfl, _, rfl, _, .inl ⟨p1, dx1, _, .type "int", rfl, j17 _ _ hS1, .base (.int _), T.nfH_int, ⟨_, sh1.same (NL.of j17), .inr ⟨"int", by decide, .base (.int _), rfl⟩⟩, fun e => by cases e⟩, fun J8 j8 => ⟨_, rfl, iteF ?_⟩⟩
    have j18 : Same H9 J8 := j17.trans j8
    obtain ⟨dM, tM, hMa, hMt⟩ := id (hL3.same j18)
    refine ⟨_, rfl, l4, _, _, _, rfl, rfl, SqL.of (j18 _ _ eL), atI_nat (j := 2) rfl, q3, dM, _, rfl, hMa, q3, _, rfl, hL3.same j18, gL3, fun J9 j9 => ⟨⟨_, rfl⟩, ?_⟩⟩
    have j19 : Same H9 J9 := j18.trans j9
    have n0 := (nm_low g0).1
    have n1 := (nm_low g1).1
    have nk := num_le (n := k2) a2 (by omega)
    have b1 : (" " : Str).length ≤ 1 := by decide +kernel
    have b2 : (" 1 1000000 " : Str).length ≤ 11 := by decide +kernel
    have r1 := app_le c_emp n0
    have r2 := app_le r1 b1
    have r3 := app_le r2 nk
    have r4 := app_le r3 b2
    have r5 := app_le r4 n1
    refine ⟨_, rfl, wl, _, _, _, rfl, rfl, SqL.of (j19 _ _ hw), atI_nat (j := 0) rfl, .inl ⟨_, rfl, fit n0, _, rfl, fit r1, _, rfl, fit r2, ?_⟩⟩
    refine ⟨_, rfl, D, _, _, _, rfl, rfl, SqL.of (j19 _ _ eD), atI_nat (j := 2) rfl, .inr (.inl ⟨_, rfl, Lo.num_log0 a2 (by omega), _, rfl, fit r3, _, rfl, fit r4, ?_⟩)⟩
    refine ⟨_, rfl, wl, _, _, _, rfl, rfl, SqL.of (j19 _ _ hw), atI_nat (j := 1) rfl, .inl ⟨_, rfl, fit n1, _, rfl, fit r5, ?_⟩⟩
    refine ⟨rfl, _, rfl, ?_⟩
    have eT : Str.empty ++ w0 ++ " " ++ Str.ofString (toString k2) ++ " 1 1000000 " ++ w1 = Lo.lotS ⟨w0, k2, 1, 1000000, [w1]⟩ := Lo.lotS_of (by
      have hm : TL.tl " 1 1000000 " = TL.tl " " ++ (TL.tl (Str.ofString (toString (1 : Int))) ++ (TL.tl " " ++ (TL.tl (Str.ofString (toString (1000000 : Int))) ++ TL.tl " "))) := by decide +kernel
      unfold Lo.lotL nL
      simp only [TL.tl_append, List.append_assoc, hm]
      have hj : TL.tl (Txt.join "," [w1]) = TL.tl w1 := by
        rw [TL.join_eq, TL.tl_join]
        simp only [List.map_cons, List.map_nil, TL.joinL, List.append_nil]
      simp only [List.isEmpty_cons, Bool.false_eq_true, if_false, hj]
      rfl)
    rw [← eT, decide_eq_true rfl]
    refine iteF ?_
    have kF : Same H1 J9 := kE.trans j19
    have hRl9 : Rls T.C_Rule J9 X := hRl.nl (NL.of j19)
    have eR9 := j19 _ _ eR
    clear hRl kA kB kC kD kE eS eD eL hw sh1 sh2 sh3 hL1 hL2 hL3 j1 j12 j13 j14 j15 j16 j17 j18 j19
    refine ⟨_, rfl, l2, rfl, ⟨_, SqL.of eR9⟩, for_list (K := K) (a := l2) (xs := X) (fun i σ H' => ∃ w4 w8 w9, σ = [some (.ref d), some (.ref wl), some (.ref D), some (.ref l2), w4, some (.int (k1 + 1)), some (.ref l3), some (.ref l4), w8, w9, none] ∧ Same J9 H') ⟨_, _, _, rfl, Same.refl _⟩ (fun i σ H' _ h => ?_) ?_ ?_⟩
    · obtain ⟨_, _, _, _, s⟩ := h
      exact SqL.of (s _ _ eR9)
    · rintro i x σ J hi ⟨w4, w8, w9, rfl, s⟩
      obtain ⟨p', u, rfl, ⟨dp, hp'⟩, gu, hu1, hu2, hu3⟩ := hRl9 i x hi
      have hp := s _ _ hp'
      have sm : SmallRl u := ⟨gu, by omega, by omega⟩
      obtain ⟨g1, g2, g3⟩ := gu
      have n1 := num_le9 (n := u.lo) g1 (by omega)
      have n2 := num_le9 (n := u.hi) (by omega) (by omega)
      have n3 := num_le9 (n := u.far) g3 (by omega)
      have c1 := app_le c_emp (show ("Rule(least=" : Str).length ≤ 20 by decide +kernel)
      have c2 := app_le c1 n1
      have c3 := app_le c2 (show (", most=" : Str).length ≤ 20 by decide +kernel)
      have c4 := app_le c3 n2
      have c5 := app_le c4 (show (", " : Str).length ≤ 20 by decide +kernel)
      have d1 := app_le c_emp (show ("match=" : Str).length ≤ 20 by decide +kernel)
      have d2 := app_le d1 n3
      have d3 := app_le d2 (show (", shades=" : Str).length ≤ 20 by decide +kernel)
      have d4 := app_le d3 (shB_le u.shd)
      have d5 := app_le d4 (show (")" : Str).length ≤ 20 by decide +kernel)
      have cd := app_le c5 d5
      refine ⟨_, rfl, fit c1, _, rfl, p', _, dp, _, _, rfl, hp, T.cl_Rule, T.n_Rule_least, uf_least u, .inr (.inl ⟨_, rfl, num_log9 g1 (by omega), _, rfl, fit c2, _, rfl, fit c3, ?_⟩)⟩
      refine ⟨_, rfl, p', _, dp, _, _, rfl, hp, T.cl_Rule, T.n_Rule_most, uf_most u, .inr (.inl ⟨_, rfl, num_log9 (by omega) (by omega), _, rfl, fit c4, _, rfl, fit c5, ?_⟩)⟩
      refine ⟨_, rfl, _, rfl, fit d1, _, rfl, p', _, dp, _, _, rfl, hp, T.cl_Rule, T.n_Rule_match, uf_match u, .inr (.inl ⟨_, rfl, num_log9 g3 (by omega), _, rfl, fit d2, _, rfl, fit d3, ?_⟩)⟩
      refine ⟨_, rfl, p', _, dp, _, _, rfl, hp, T.cl_Rule, T.n_Rule_shades, uf_shades u, .inr (.inr ⟨_, rfl, _, rfl, fit d4, _, rfl, fit d5, _, _, rfl, rfl, fit2 cd, ?_⟩)⟩
      refine ⟨_, rfl, p', dp, _, rfl, hp, p', u, rfl, ⟨dp, hp⟩, sm, fun J1 j1 => ⟨⟨_, rfl⟩, _, rfl, rfl, _, rfl, ?_⟩⟩
      have s1 := s.trans j1
      refine Eq.mpr (if_neg fun e => of_decide_eq_false ((Bool.not_eq_true' _).mp e) (congrArg V.str (rule_shown u).symm)) ?_
      refine ⟨_, rfl, l2, rfl, ⟨_, SqL.of (s1 _ _ eR9)⟩, for_list (K := K) (a := l2) (xs := X) (fun i σ H' => ∃ w4 w9, σ = [some (.ref d), some (.ref wl), some (.ref D), some (.ref l2), w4, some (.int (k1 + 1)), some (.ref l3), some (.ref l4), some (.ref p'), w9, none] ∧ (∃ z, w9 = some (.str z) ∧ z = ruleText u) ∧ Same J9 H') ⟨_, _, rfl, ⟨_, rfl, rule_shown u⟩, s1⟩ (fun i σ H' _ h => ?_) ?_ ?_⟩
      · obtain ⟨_, _, _, _, s2⟩ := h
        exact SqL.of (s2 _ _ eR9)
      · rintro i2 x2 σ J2 hi2 ⟨w4, w9, rfl, ⟨z, rfl, rfl⟩, s2⟩
        obtain ⟨p2, v, rfl, ⟨dq, hq'⟩, gv, hv1, hv2, hv3⟩ := hRl9 i2 x2 hi2
        have hp2 := s2 _ _ hp'
        have hq2 := s2 _ _ hq'
        refine ⟨_, rfl, _, rfl, p', dp, _, .ref T.C_Rule, rfl, hp2, T.ic_Rule.ty T.cl_Rule hq2, by simp [PySem.W.notFirst], p', p2, u, v, rfl, ⟨dp, hp2⟩, ⟨dq, hq2⟩, ⟨_, rfl⟩, ?_⟩
        refine ⟨_, rfl, p2, dq, _, rfl, hq2, p2, v, rfl, ⟨dq, hq2⟩, ⟨gv, by omega, by omega⟩, fun J3 j3 => ⟨⟨_, rfl⟩, _, rfl, rfl, rfl, _, rfl, ?_⟩⟩
        have ed : V.bl (decide (u = v)) = V.bl (decide (V.str (ruleText v) = V.str (ruleText u))) := congrArg V.bl (decide_eq_decide.mpr ⟨fun h => by rw [h], fun h => by
          injection h with h
          exact (rule_inj gv ⟨g1, g2, g3⟩ (by rw [hv3, hu3]) h).symm⟩)
        rw [decide_eq_true ed]
        exact iteF ⟨_, _, rfl, ⟨_, rfl, rfl⟩, s2.trans j3⟩
      · rintro σ J2 ⟨w4, w9, rfl, ⟨z, rfl, rfl⟩, s2⟩
        exact ⟨_, _, _, rfl, s2⟩
    · rintro σ H' ⟨w4, w8, w9, rfl, s⟩
      obtain ⟨p', u, e0', ⟨dp, hp'⟩, gu, hu1, hu2, hu3⟩ := hRl9 0 _ (List.getElem?_eq_getElem (by rw [lR]; decide))
      have hp := s _ _ hp'
      have hX0 : X[0]? = some (.ref p') := by rw [List.getElem?_eq_getElem (by rw [lR]; decide), e0']
      have ix : ∀ {J : Hp}, Same J9 J → SqL K J l2 X := fun z => SqL.of (z _ _ eR9)
      have at0 : atI X 0 = some (.ref p') := atI_nat (j := 0) hX0
      refine ⟨_, rfl, l2, _, _, _, rfl, rfl, ix s, at0, ?_⟩
      refine ⟨_, rfl, l2, _, _, _, rfl, rfl, ix s, at0, p', _, dp, _, _, rfl, hp, T.cl_Rule, T.n_Rule_match, uf_match u, ?_⟩
      refine ⟨_, rfl, l2, _, _, _, rfl, rfl, ix s, at0, p', _, dp, _, _, rfl, hp, T.cl_Rule, T.n_Rule_most, uf_most u, ?_⟩
      refine ⟨_, rfl, l2, _, _, _, rfl, rfl, ix s, at0, p', _, dp, _, _, rfl, hp, T.cl_Rule, T.n_Rule_least, uf_least u, ?_⟩
      refine ⟨rfl, rfl, fun p2 d2 np2 nd2 ne2 => ⟨p2, d2, u, by rw [← hu3]; rfl, upd_same, gu, fun J2 hJ2 kJ2 => ⟨rfl, ?_⟩⟩⟩
      have sJ := made_same np2 nd2 kJ2
      have hpJ := sJ _ _ hp
      obtain ⟨dJ, eJ⟩ := id hJ2
      refine ⟨p', dp, _, .ref T.C_Rule, rfl, hpJ, T.ic_Rule.ty T.cl_Rule eJ, by simp [PySem.W.notFirst], p', p2, u, u, rfl, ⟨dp, hpJ⟩, hJ2, ?_⟩
      rw [decide_eq_true rfl]
      exact ⟨⟨_, rfl⟩, q _ ((bH.trans (But.of kF)).trans (But.of (s.trans sJ)))⟩
end
end KB
namespace KB
open PySem PySem.Spec PyProof.Rows L2 KA LamX
open Sx (ok_Share_init ok_Share_repr ok_common_part)
open Lo (ok_Lot_init ok_Lot_len ok_Lot_str)
section
variable {P : Program} {w : World} {K : PySem.W.Frag} {mg : Str → Option Value} {base : Heap}
def tailV (r : Rw) : List V := [.int r.ac, .int r.we, .str r.sh, .str r.fo, .bl r.dr]
theorem cut_tail (r : Rw) : cutV (rowVals r) (some 1) none = tailV r := rfl
def tf (r r' : Rw) (i : Nat) : Bool := match (tailV r)[i]?, (tailV r')[i]? with
  | some x, some y => eqV x y
  | _, _ => true
theorem tf_all (r r' : Rw) : (decide ((tailV r).length = (tailV r').length) && allF (tailV r).length (tf r r')) = likeRw r r' := by
  show (true && ((r.ac == r'.ac) && ((r.we == r'.we) && ((r.sh == r'.sh) && ((r.fo == r'.fo) && ((r.dr == r'.dr) && true)))))) = _
  unfold likeRw
  rw [Bool.true_and, Bool.and_true]
  rfl
theorem flat_tail {r : Rw} {x : V} (h : x ∈ tailV r) : flatV x = true := by
  unfold tailV at h
  simp only [List.mem_cons, List.not_mem_nil, or_false] at h
  rcases h with rfl | rfl | rfl | rfl | rfl <;> rfl
theorem tail_tup {H : Hp} {s s' : Addr} {r r' : Rw} (h : H s = some (.tup (tailV r))) (h' : H s' = some (.tup (tailV r'))) : BTup K BFlat (.ref s) (.ref s') (likeRw r r') H := by
  refine ⟨s, s', tailV r, tailV r', tf r r', rfl, rfl, .inl (.inl h), .inl (.inl h'), fun i x y hx hy => ⟨flat_tail (List.mem_of_getElem? hx), flat_tail (List.mem_of_getElem? hy), ?_⟩, (tf_all r r').symm⟩
  unfold tf
  rw [hx, hy]
theorem eqv_int (i : Int) : eqV (.int i) (.int i) = true := by simp [eqV]
theorem eqv_str (i : Str) : eqV (.str i) (.str i) = true := by simp [eqV]
theorem eqv_bl (i : Bool) : eqV (.bl i) (.bl i) = true := by simp [eqV]
theorem row_flat {r : Rw} {x : V} (h : x ∈ rowVals r) : flatV x = true ∧ eqV x x = true := by
  unfold rowVals at h
  simp only [List.mem_cons, List.not_mem_nil, or_false] at h
  rcases h with rfl | rfl | rfl | rfl | rfl | rfl
  · exact ⟨rfl, eqv_int _⟩
  · exact ⟨rfl, eqv_int _⟩
  · exact ⟨rfl, eqv_int _⟩
  · exact ⟨rfl, eqv_str _⟩
  · exact ⟨rfl, eqv_str _⟩
  · exact ⟨rfl, eqv_bl _⟩
theorem key_flat {r : Rw} {x : V} (h : x ∈ keyVals r) : flatV x = true ∧ eqV x x = true := by
  refine row_flat (r := r) ?_
  unfold keyVals at h
  unfold rowVals
  simp only [List.mem_cons, List.not_mem_nil, or_false] at h ⊢
  rcases h with rfl | rfl | rfl | rfl | rfl | rfl <;> simp
/-- whole rows side by side -/
def rowEq (r r' : Rw) : Bool := decide (r.num = r'.num) && likeRw r r'
def rf (r r' : Rw) (i : Nat) : Bool := match (rowVals r)[i]?, (rowVals r')[i]? with
  | some x, some y => eqV x y
  | _, _ => true
theorem rf_all (r r' : Rw) : (decide ((rowVals r).length = (rowVals r').length) && allF (rowVals r).length (rf r r')) = rowEq r r' := by
  show (true && ((r.num == r'.num) && ((r.ac == r'.ac) && ((r.we == r'.we) && ((r.sh == r'.sh) && ((r.fo == r'.fo) && ((r.dr == r'.dr) && true))))))) = _
  unfold rowEq likeRw
  rw [Bool.true_and, Bool.and_true]
  rfl
theorem row_tup {H : Hp} {s s' : Addr} {r r' : Rw} (h : H s = some (.tup (rowVals r))) (h' : H s' = some (.tup (rowVals r'))) : BTup K BFlat (.ref s) (.ref s') (rowEq r r') H := by
  refine ⟨s, s', rowVals r, rowVals r', rf r r', rfl, rfl, .inl (.inl h), .inl (.inl h'), fun i x y hx hy => ⟨(row_flat (List.mem_of_getElem? hx)).1, (row_flat (List.mem_of_getElem? hy)).1, ?_⟩, (rf_all r r').symm⟩
  unfold rf
  rw [hx, hy]
theorem row_inj {r r' : Rw} (h : rowVals r = rowVals r') : r = r' := by
  unfold rowVals at h
  obtain ⟨a, b, c, d, e, f⟩ := r
  obtain ⟨a', b', c', d', e', f'⟩ := r'
  simp only [List.cons.injEq, V.int.injEq, V.str.injEq, V.bl.injEq, and_true] at h
  obtain ⟨rfl, rfl, rfl, rfl, rfl, rfl⟩ := h
  rfl
theorem rowEq_refl (r : Rw) : rowEq r r = true := by
  unfold rowEq
  rw [decide_eq_true rfl, like_refl]
  rfl
theorem like_symm (a b : Rw) : likeRw a b = likeRw b a := by
  rw [Bool.eq_iff_iff, like_iff, like_iff]
  constructor
  · rintro ⟨h1, h2, h3, h4, h5⟩
    exact ⟨h1.symm, h2.symm, h3.symm, h4.symm, h5.symm⟩
  · rintro ⟨h1, h2, h3, h4, h5⟩
    exact ⟨h1.symm, h2.symm, h3.symm, h4.symm, h5.symm⟩
theorem own1_at (T : Tx K mg) {H : Hp} {p p' : Addr} {r r' : Rw} (hp : BeadAt T.C_Bead H p r) (hp' : BeadAt T.C_Bead H p' r') : BOwn1 K T.C_Bead (RB K T.C_Bead) (.ref p) (.ref p') (likeRw r r') H := by
  obtain ⟨dx, h⟩ := id hp
  obtain ⟨dx', h'⟩ := id hp'
  exact ⟨p, dx, _, _, rfl, h, T.ic_Bead.ty T.cl_Bead h', by simp [PySem.W.notFirst], ⟨r, hp, .inl ⟨p', r', rfl, hp', rfl⟩⟩⟩
theorem cnt_len {N : Nat} {f : Nat → Bool} {g : Nat → V} : (((List.range N).filter f).map g).length = cntF N f := by
  rw [List.length_map]
  unfold cntF
  rw [List.countP_eq_length_filter]
/-! ### the law's order of rows -/
def keyL (r : Rw) : PyData := .tuple [.tuple [.int r.ac, .int r.we, .str r.sh, .str r.fo, .bool r.dr], .int r.num]
def DRow : V → PyData → Hp → Prop := fun y k H => ∃ (t : Addr) (r : Rw), y = .ref t ∧ H t = some (.tup (rowVals r)) ∧ k = keyL r
theorem monRow : ∀ x k H H', Ext H H' → DRow x k H → DRow x k H' := fun x k H H' e ⟨t, r, h1, h2, h3⟩ => ⟨t, r, h1, e _ _ h2, h3⟩
theorem row_key {H H1 : Hp} {p1 q2 : Addr} {r : Rw} (s1 : Same H H1) (e1 : H1 p1 = some (.tup (cutV (rowVals r) (some 1) none))) (hq : H1 q2 = none) : Ext H (upd H1 q2 (.tup [.ref p1, .int r.num])) ∧ KD K (upd H1 q2 (.tup [.ref p1, .int r.num])) (.ref q2) (keyL r) :=
  ⟨s1.trans (same_upd hq), .deep (.inl (.inl upd_same)) (.inl (.inl (same_upd hq _ _ e1))) (.cons (.int _) (.cons (.int _) (.cons (.str _) (.cons (.str _) (.cons (.bl _) .nil))))) (.cons (.int _) .nil)⟩
theorem lex_app : ∀ {p q : List (Int ⊕ List Nat)} {x y x' y' : List (Int ⊕ List Nat)}, p.length = q.length → p ≠ q → PyProof.Rows.lexLt PyProof.Rows.itemOrd (p ++ x) (q ++ y) = PyProof.Rows.lexLt PyProof.Rows.itemOrd (p ++ x') (q ++ y')
  | [], [], _, _, _, _, _, n => absurd rfl n
  | [], _ :: _, _, _, _, _, l, _ => by simp at l
  | _ :: _, [], _, _, _, _, l, _ => by simp at l
  | a :: p, b :: q, x, y, x', y', l, n => by
    by_cases h : a = b
    · subst h
      rw [List.cons_append, List.cons_append, List.cons_append, List.cons_append, lex_self, lex_self]
      exact lex_app (by simpa using l) fun e => n (by rw [e])
    · exact (PySem.W.lex_atom h _ _).trans (PySem.W.lex_atom h _ _).symm
theorem lex_mid {p q ta tb : List (Int ⊕ List Nat)} {c d : Int ⊕ List Nat} (h : p.length = q.length) : PyProof.Rows.lexLt PyProof.Rows.itemOrd (c :: (p ++ (d :: ta))) (c :: (q ++ (d :: tb))) = PyProof.Rows.lexLt PyProof.Rows.itemOrd (p ++ ta) (q ++ tb) := by
  rw [lex_self]
  by_cases e : p = q
  · subst e
    rw [PySem.W.lex_pre, PySem.W.lex_pre, lex_self]
  · exact lex_app h e
def fives (r : Rw) : List (Int ⊕ List Nat) := [.inl 1, .inl r.ac, .inl 1, .inl r.we, .inl 1, .inr r.sh.cps.toList, .inl 1, .inr r.fo.cps.toList, .inl 1, .inl (if r.dr = true then 1 else 0)]
theorem toks_D (r : Rw) : PySem.W.keyToks (keyD r) = fives r ++ [.inl 1, .inl r.num, .inl 0] := by
  simp [keyD, fives, PySem.W.keyToks, PySem.W.keyToksAll]
theorem toks_L (r : Rw) : PySem.W.keyToks (keyL r) = .inl 1 :: (fives r ++ (.inl 0 :: [.inl 1, .inl r.num, .inl 0])) := by
  simp [keyL, fives, PySem.W.keyToks, PySem.W.keyToksAll]
theorem le_keys : (PySem.W.dataLe false keyL : Rw → Rw → Bool) = PySem.W.dataLe false keyD := by
  funext a b
  show (!PyProof.Rows.lexLt PyProof.Rows.itemOrd (PySem.W.keyToks (keyL b)) (PySem.W.keyToks (keyL a))) = (!PyProof.Rows.lexLt PyProof.Rows.itemOrd (PySem.W.keyToks (keyD b)) (PySem.W.keyToks (keyD a)))
  rw [toks_D, toks_D, toks_L, toks_L]
  exact congrArg Bool.not (lex_mid (p := fives b) (q := fives a) rfl)
theorem rwl_of {H : Hp} {zs : List (V × Rw)} (h : ∀ z ∈ zs, ∃ p, z.1 = .ref p ∧ H p = some (.tup (rowVals z.2))) : RwL H (zs.map Prod.fst) (zs.map Prod.snd) := by
  refine ⟨by rw [List.length_map, List.length_map], fun i r hr => ?_⟩
  rw [List.getElem?_map] at hr
  cases e : zs[i]? with
  | none => rw [e] at hr; cases hr
  | some z =>
    rw [e] at hr
    cases hr
    obtain ⟨p, h1, h2⟩ := h z (List.mem_of_getElem? e)
    exact ⟨p, by rw [List.getElem?_map, e]; exact congrArg some h1, h2⟩
theorem srt_rowL {H : Hp} {xs : List V} {rs : List Rw} (h : RwL H xs rs) : RwL H (srtV xs (rs.map keyL)) (ordR rs) := by
  have e1 : srtV xs (rs.map keyL) = ((xs.zip rs).mergeSort (PySem.W.dataLe false fun p : V × Rw => keyL p.2)).map Prod.fst := by
    unfold srtV
    have : xs.zip (rs.map keyL) = (xs.zip rs).map fun p => (p.1, keyL p.2) := by
      rw [List.zip_map_right]
      rfl
    have m := List.map_mergeSort (l := xs.zip rs) (f := fun p : V × Rw => (p.1, keyL p.2)) (r := PySem.W.dataLe false fun p : V × Rw => keyL p.2) (s := PySem.W.dataLe false fun p : V × PyData => p.2) (fun a _ b _ => rfl)
    rw [this, ← m, List.map_map]
    rfl
  have e2 : ordR rs = ((xs.zip rs).mergeSort (PySem.W.dataLe false fun p : V × Rw => keyL p.2)).map Prod.snd := by
    unfold ordR
    rw [← le_keys]
    have m := List.map_mergeSort (l := xs.zip rs) (f := fun p : V × Rw => p.2) (r := PySem.W.dataLe false fun p : V × Rw => keyL p.2) (s := PySem.W.dataLe false keyL) (fun a _ b _ => rfl)
    have e : (xs.zip rs).map (fun p : V × Rw => p.2) = rs := List.map_snd_zip (by rw [h.1]; exact Nat.le_refl _)
    rw [e] at m
    exact m.symm
  rw [e1, e2]
  refine rwl_of fun z hz => ?_
  have hz := (List.mergeSort_perm _ _).mem_iff.mp hz
  obtain ⟨i, hi⟩ := List.getElem?_of_mem hz
  rw [List.getElem?_zip_eq_some] at hi
  obtain ⟨p, h1, h2⟩ := h.2 i _ hi.2
  rw [hi.1] at h1
  exact ⟨p, Option.some.inj h1, h2⟩
theorem alike_keyL (rs : List Rw) : PySem.W.AllAlike (rs.map keyL) := fun d hd d' hd' => by
  obtain ⟨a, _, rfl⟩ := List.mem_map.mp hd
  obtain ⟨b, _, rfl⟩ := List.mem_map.mp hd'
  rfl
theorem sortable_keyL (rs : List Rw) : PySem.W.Sortable (rs.map keyL) := .inl fun d hd => by
  obtain ⟨a, _, rfl⟩ := List.mem_map.mp hd
  exact ⟨_, _, rfl⟩
theorem sh_name {z : Str} (h : nm (.str z) = true) : PyData.canLay0 (.str z) = true := by
  have nmE : nm (.str z) = (decide (1 ≤ z.length) && decide (z.length ≤ 8) && z.cps.toList.all lower) := rfl
  rw [nmE] at h
  simp only [Bool.and_eq_true] at h
  show z.cps.all (· < 0x110000) = true
  rw [← Array.all_toList, List.all_eq_true]
  intro c hc
  have := lower_lt (List.all_eq_true.mp h.2 c hc)
  exact decide_eq_true (by omega)
def rowD (r : Rw) : PyData := .tuple [.int r.num, .int r.ac, .int r.we, .str r.sh, .str r.fo, .bool r.dr]
theorem row_dp {H : Hp} {t : Addr} {r : Rw} (h : H t = some (.tup (rowVals r))) : Dp K H (.ref t) (rowD r) :=
  .tup (.inl (.inl h)) (.cons (.int _) (.cons (.int _) (.cons (.int _) (.cons (.str _) (.cons (.str _) (.cons (.bl _) .nil))))))
theorem dpAll_of {H : Hp} : ∀ {vs : List V} {rs : List Rw}, RwL H vs rs → DpAll K H vs (rs.map rowD)
  | [], [], _ => .nil
  | [], _ :: _, h => by have := h.1; simp at this
  | _ :: _, [], h => by have := h.1; simp at this
  | v :: vs, r :: rs, h => by
    refine .cons ?_ (dpAll_of (vs := vs) (rs := rs) ⟨by have := h.1; simpa using this, fun i z hz => h.2 (i + 1) z hz⟩)
    obtain ⟨t, e, ht⟩ := h.2 0 r rfl
    cases e
    exact row_dp ht
theorem rowD_ok {r : Rw} (g : GoodRw r) : PyData.canLay0 (rowD r) = true ∧ PyData.depth (rowD r) ≤ 1 := by
  constructor
  · show (true && (true && (true && (PyData.canLay0 (.str r.sh) && (PyData.canLay0 (.str r.fo) && (true && true)))))) = true
    rw [sh_name g.2.2.2.1, sh_name g.2.2.2.2]
    rfl
  · exact Nat.le_refl _
theorem rowsD_ok : ∀ {rs : List Rw}, (∀ r ∈ rs, GoodRw r) → PyData.canLayAll0 (rs.map rowD) = true ∧ PyData.depthAll (rs.map rowD) ≤ 1
  | [], _ => ⟨rfl, by decide⟩
  | o :: rs, h => by
    obtain ⟨a, b⟩ := rowsD_ok (rs := rs) fun r hr => h r (List.mem_cons_of_mem _ hr)
    obtain ⟨c, d⟩ := rowD_ok (r := o) (h o (List.mem_cons_self ..))
    constructor
    · show (PyData.canLay0 (rowD o) && PyData.canLayAll0 (rs.map rowD)) = true
      rw [a, c]
      rfl
    · show max (PyData.depth (rowD o)) (PyData.depthAll (rs.map rowD)) ≤ 1
      omega
theorem rowsD_shaped {rs : List Rw} (h : ∀ r ∈ rs, GoodRw r) : SeqAt.shaped (.list (rs.map rowD)) = true := by
  obtain ⟨a, b⟩ := rowsD_ok h
  show (PyData.canLayAll0 (rs.map rowD) && decide (PyData.depthAll (rs.map rowD) + 1 ≤ 64)) = true
  rw [a, decide_eq_true (by omega)]
  rfl
theorem atI_0 {xs : List V} {k : Nat} {v : V} (h : xs[k]? = some v) : atI xs (0 + (k : Int)) = some v := by
  rw [Int.zero_add]
  exact atI_nat h
theorem row_comp (T : Tx K mg) {a : Addr} {xs : List V} {rs : List Rw} {H : Hp} {D : Addr} {c : Nat} (hD : H D = none) (hS : SqL K H a xs) (hB : BdL T.C_Bead H xs rs) (hl : xs.length ≤ 10000)
    {vs : List Nat} {σ : L2.St} {Qd : Hp → Prop} (hw : ∀ v, wipe ((wipe σ vs).set c (some v)) vs = wipe σ vs) (hc : ∀ v, ((wipe σ vs).set c (some v))[c]? = some (some v))
    (fin : ∀ H' acc, Same H H' → H' D = some (.lst acc) → RwL H' acc rs → Qd H') :
    ∃ W : Nat → Nat → Hp → Prop, (∃ m, W 0 m (upd H D (.lst []))) ∧ ∀ i m H, W i m H →
      ((Itl K a).stop i H ∧ Qd H) ∨ ((Itl K a).go i H ∧ ∃ Nx : Hp → Prop, (∀ H', Nx H' → ∃ m', m' < m ∧ W (i + 1) m' H') ∧ ∀ x H', (Itl K a).yld i H x H' → gName c x (wipe σ vs) H' fun σ2 H2 => wipe σ2 vs = wipe σ vs ∧ tYes σ2 H2 fun b H3 =>
        if b = true then tMeth T.C_Bead "row" (spRow T.C_Bead) [] E0 (tVar c) tNil σ2 H3 fun y H4 => ∃ acc, H4 D = some (.lst acc) ∧ acc.length < sizeLine ∧ Nx (upd H4 D (.lst (acc ++ [y]))) else Nx H3) := by
  refine lc_gen hD hS hl (fun j v H' => ∀ r, rs[j]? = some r → ∃ t, v = .ref t ∧ H' t = some (.tup (rowVals r))) (fun j v H1 H2 s h r hr => ?_) ?_ ?_
  · obtain ⟨t, h1, h2⟩ := h r hr
    exact ⟨t, h1, s _ _ (fun xs z => by cases z) h2⟩
  · intro i x H2 R C hi s2 hRv
    have hir : i < rs.length := by
      rw [← hB.1]
      exact (List.getElem?_eq_some_iff.mp hi).1
    obtain ⟨p, h1, hp⟩ := hB.2 i _ (List.getElem?_eq_getElem hir)
    rw [h1] at hi
    cases hi
    obtain ⟨dx, h2⟩ := hp.nl (NL.of s2)
    refine ⟨hw _, yesT ⟨_, hc _, p, dx, _, rfl, h2, bf_no _ (by decide +kernel) (by decide +kernel) (by decide +kernel) (by decide +kernel) (by decide +kernel) (by decide +kernel), p, _, rfl, ⟨dx, h2⟩, fun t' ht' => ?_⟩⟩
    refine hRv _ _ (same_upd ht') fun r hr => ?_
    rw [List.getElem?_eq_getElem hir] at hr
    cases hr
    exact ⟨t', rfl, upd_same⟩
  · intro H' acc s e l g
    refine fin H' acc s e ⟨by rw [l, hB.1], fun i r hr => ?_⟩
    have hi : i < acc.length := by
      rw [l, hB.1]
      exact (List.getElem?_eq_some_iff.mp hr).1
    obtain ⟨t, h1, h2⟩ := g i _ (List.getElem?_eq_getElem hi) r hr
    exact ⟨t, by rw [List.getElem?_eq_getElem hi, h1], h2⟩
theorem rows_ne {H : Hp} {l m : Addr} {ys zs : List V} {rs : List Rw} {R : VK} (h1 : H l = some (.lst ys)) (h2 : RwL H ys rs) (h3 : H m = some (.lst zs)) (h4 : RwL H zs rs) (hG : ∀ r ∈ rs, GoodRw r) (q : R (.bl false) H) : rNeD K (.ref l) (.ref m) H R := by
  refine ⟨.list (rs.map rowD), .list (rs.map rowD), .lst (SqL.of h1) (dpAll_of h2), .lst (SqL.of h3) (dpAll_of h4), rowsD_shaped hG, rowsD_shaped hG, ?_⟩
  rw [SeqAt.eqv_refl _ (SeqAt.canLay_of_shaped (rowsD_shaped hG))]
  exact q
theorem nil_ne {H : Hp} {D l0 : Addr} {R : VK} (hD : H D = some (.lst [])) (hl0 : H l0 = none) (q : ∀ H', Same H H' → R (.bl false) H') : rEqB true (BList BFlat) (.ref D) (.ref l0) (upd H l0 (.lst [])) R := by
  have z0 := same_upd hl0 (o := .lst [])
  exact ⟨_, ⟨D, l0, [], [], fun _ => true, rfl, rfl, z0 _ _ hD, upd_same, fun _ i x y _ hy => by simp at hy, rfl⟩, fun H7 x7 => q H7 (z0.trans x7)⟩
end
end KB
namespace KB
open PySem PySem.Spec PyProof.Rows L2 KA LamX
open Sx (ok_Share_init ok_Share_repr ok_common_part)
open Lo (ok_Lot_init ok_Lot_len ok_Lot_str)
section
variable {P : Program} {w : World} {K : PySem.W.Frag} {mg : Str → Option Value} {base : Heap}
def newAt (rs : List Rw) (j : Nat) : Bool := match rs[j]? with
  | some r => !anyF j (lk rs r)
  | none => false
theorem dedv {rs : List Rw} {xs : List V} {H : Hp} (h : RwL H xs rs) : ∀ (i : Nat), i ≤ rs.length → RwL H (((List.range i).filter (newAt rs)).map fun j => xs.getD j .non) (ded rs i)
  | 0, _ => ⟨rfl, fun i r h => by simp [ded] at h⟩
  | i + 1, hi => by
    have ih := dedv h i (by omega)
    have hr : rs[i]? = some rs[i] := List.getElem?_eq_getElem (by omega)
    obtain ⟨t, h1, ht⟩ := h.2 i _ hr
    have hx : xs.getD i .non = .ref t := by rw [List.getD_eq_getElem?_getD, h1]; rfl
    have hn : newAt rs i = !anyF i (lk rs rs[i]) := by
      unfold newAt
      rw [hr]
    have st := ded_step hr
    rw [ded_any i (by omega)] at st
    rw [List.range_succ, List.filter_append, List.map_append]
    by_cases c : anyF i (lk rs rs[i]) = true
    · rw [if_pos c] at st
      rw [st, List.filter_cons_of_neg (by rw [hn, c]; exact Bool.false_ne_true)]
      show RwL H (_ ++ []) _
      rw [List.append_nil]
      exact ih
    · rw [if_neg c] at st
      rw [st, List.filter_cons_of_pos (by rw [hn]; simpa using c)]
      show RwL H (_ ++ [xs.getD i .non]) _
      rw [hx]
      exact ih.snoc ht
theorem tail_inj {r r' : Rw} (h : tailV r = tailV r') : likeRw r r' = true := by
  unfold tailV at h
  simp only [List.cons.injEq, V.int.injEq, V.str.injEq, V.bl.injEq, and_true] at h
  exact like_iff.mpr h
theorem ded_mem {rs : List Rw} {r : Rw} : ∀ {i : Nat}, r ∈ ded rs i → r ∈ rs
  | 0, h => by cases h
  | i + 1, h => by
    unfold ded at h
    split at h
    · rename_i s hs
      split at h
      · exact ded_mem h
      · rcases List.mem_append.mp h with h | h
        · exact ded_mem h
        · rw [List.mem_singleton.mp h]
          exact List.mem_of_getElem? hs
    · exact ded_mem h
theorem first_of {n : Nat} {f : Nat → Bool} {g : Nat → V} : ∀ {i : Nat}, i < n → f i = true → ∃ j0, j0 < n ∧ f j0 = true ∧ (∀ m, m < j0 → f m = false) ∧ (((List.range n).filter f).map g)[0]? = some (g j0) := by
  intro i hi hf
  induction n generalizing i with
  | zero => omega
  | succ n ih =>
    by_cases h : ∃ k, k < n ∧ f k = true
    · obtain ⟨k, hk, fk⟩ := h
      obtain ⟨j0, a, b, c, d⟩ := ih hk fk
      refine ⟨j0, by omega, b, c, ?_⟩
      rw [List.range_succ, List.filter_append, List.map_append, List.getElem?_append_left (by
        have := (List.getElem?_eq_some_iff.mp d).1
        exact this)]
      exact d
    · have none_ : (List.range n).filter f = [] := List.filter_eq_nil_iff.mpr fun k hk e => h ⟨k, List.mem_range.mp hk, e⟩
      have : i = n := by
        by_cases hin : i < n
        · exact absurd ⟨i, hin, hf⟩ h
        · omega
      subst this
      refine ⟨i, by omega, hf, fun m hm => ?_, ?_⟩
      · cases e : f m with
        | false => rfl
        | true => exact absurd ⟨m, hm, e⟩ h
      · rw [List.range_succ, List.filter_append, none_, List.filter_cons_of_pos hf]
        rfl
theorem bead_shows {X : Cx} (T : Tx X.K X.mg) {J : Hp} {ys : List V} {rs : List Rw} (hY : BdL T.C_Bead J ys rs) (hG : ∀ r ∈ rs, GoodRw r) : ∀ (k : Nat) x tx, ys[k]? = some x → (rs.map reprS)[k]? = some tx → Shows X 1 x tx J := by
  intro k x tx hx htx
  have hk : k < rs.length := by
    rw [← hY.1]
    exact (List.getElem?_eq_some_iff.mp hx).1
  obtain ⟨p, h1, dp, hp⟩ := hY.2 k _ (List.getElem?_eq_getElem hk)
  rw [h1] at hx
  cases hx
  rw [List.getElem?_map, List.getElem?_eq_getElem hk] at htx
  cases htx
  refine shows_own (E := E0) (ok_Bead_repr (P := X.prog) (w := X.w) (base := X.base) T) T.m_Bead_repr.at_ T.m_Bead_repr.fn T.b_Bead_repr pass0 hp fun H1 Q s1 q => ?_
  refine ⟨p, rs[k], rfl, ⟨dp, s1 _ _ hp⟩, hG _ (List.getElem_mem hk), fun H' y hy _ s2 => ?_⟩
  rw [reprS_of hy]
  exact q H' s2
def spLBeads (C : Addr) (Tb : List (Addr × Str)) : Sp := fun vs H Q _ => ∃ (l D : Addr) (xs ys : List V) (rs : List Rw), vs = [.ref l, .ref D] ∧ H l = some (.lst xs) ∧ H D = some (.lst ys) ∧ RwL H xs rs ∧ BdL C H ys rs ∧ rs.length ≤ 100 ∧ (∀ r ∈ rs, GoodRw r) ∧ Tabs Tb H ∧ ∀ H', ExtN H H' → Tabs Tb H' → Q (.bl true) H'
theorem ok_beads (T : Tx K mg) (TB : TBs T base) : FnG P w K mg base CX0 13 T.A_beads T.fd_beads ["_law_rows_here", "_law_beads_here"] (spLBeads T.C_Bead (lamT T)) := by
  refine okCG T.F_beads T.cd_beads sc_beads (fun vs H Q E h => ?_) (fun A outer s H vs Q E hr gd h => ?_)
  · obtain ⟨l, D, xs, ys, rs, rfl, el, eD, hX, hY, hlen, hG, hT, q⟩ := h
    rfl
  obtain ⟨l, D, xs, ys, rs, rfl, el, eD, hX, hY, hlen, hG, hT, q⟩ := h
  refine ⟨_, (pss_cons (ps_for PassesOwn.never rfl (pi_zip (by rfl) T.z_zip (pa_cons (pv 0) (pa_cons (pv 1) pa_nil))) (pg_tup (by rfl) (pgs_cons (pg_name (i := 2) sc_beads.nd rfl (Or.inr rfl)) (pgs_cons (pg_name (i := 3) sc_beads.nd rfl (Or.inl rfl)) pgs_nil)))
        (pss_cons (ps_if (pt_cmpR (op_neB (rcB_tup true monB_flat eqB_flat) (hr.mono (by decide))) (pe_tup (pa_cons (pe_callB (call_reprO (E := E0) (ok_Bead_repr T) T.m_Bead_repr.at_ T.m_Bead_repr.fn T.b_Bead_repr pass0 (hr.mono (by decide))) (by rfl) T.z_repr (by decide +kernel) (pa_cons (pv 3) pa_nil)) (pa_cons (pe_callTy (call_strO (E := E0) (ok_Bead_str T) T.m_Bead_str.at_ T.m_Bead_str.fn T.b_Bead_str pass0 (hr.mono (by decide))) (by rfl) T.z_str (by decide +kernel) (pa_cons (pv 3) pa_nil)) pa_nil))) (pe_call (ok_shown T) (hr.mono (by decide)) (by rfl) T.g_shown T.F_shown.kp T.b_shown .nil pass0 (pa_cons (pv 2) pa_nil)) (nomark _)) (pss_one (ps_ret pe_bl)) pss_nil)
      (pss_cons (ps_if (PW.pt (pw_or (pt_cmpR (op_neB (rcB_tup true monB_flat eqB_flat) (hr.mono (by decide))) (pe_meth0 (pv 3) T.cl_Bead T.m_Bead_row (ok_Bead_row T) (hr.mono (by decide)) T.b_Bead_row .nil pass0) (pv 2) (nomark _)) (pw_or1 (pt_cmpR (op_neB (rcB_tup true monB_flat eqB_flat) (hr.mono (by decide))) (pe_meth0 (pv 3) T.cl_Bead T.m_Bead_key (ok_Bead_key T) (hr.mono (by decide)) T.b_Bead_key .nil pass0) (pe_op op_catA (pe_slice sl_tupA (pv 2) (po_some pe_int) po_none) (pe_slice sl_tupA (pv 2) po_none (po_some pe_int))) (nomark _))))) (pss_one (ps_ret pe_bl)) pss_nil)
      (pss_cons (ps_for PassesOwn.never rfl (pi_zip (by rfl) T.z_zip (pa_cons (pv 0) (pa_cons (pv 1) pa_nil))) (pg_tup (by rfl) (pgs_cons (pg_name (i := 4) sc_beads.nd rfl (Or.inl rfl)) (pgs_cons (pg_name (i := 5) sc_beads.nd rfl (Or.inl rfl)) pgs_nil)))
        (pss_one (ps_if (PW.pt (pw_or (pt_cmpR op_ne (pe_cmpR (op_eqB (rcB_all T) (hr.mono (by decide))) (pv 3) (pv 5) (nomark _)) (pe_cmpR (op_eqB (rcB_tup false monB_flat eqB_flat) (hr.mono (by decide))) (pe_slice sl_tupA (pv 2) (po_some pe_int) po_none) (pe_slice sl_tupA (pv 4) (po_some pe_int) po_none) (nomark _)) (nomark _)) (pw_or1 (pt_cmpR op_eq (pe_cmpR (op_neB (rcB_all_ne T) (hr.mono (by decide))) (pv 3) (pv 5) (nomark _)) (pe_cmpR (op_eqB (rcB_tup false monB_flat eqB_flat) (hr.mono (by decide))) (pe_slice sl_tupA (pv 2) (po_some pe_int) po_none) (pe_slice sl_tupA (pv 4) (po_some pe_int) po_none) (nomark _)) (nomark _))))) (pss_one (ps_ret pe_bl)) pss_nil)))
      (pss_cons (ps_setLc (i := 6) (own := [("_law_other", 4)]) (g := gName 4) (tt := _) rfl sc_beads.nd rfl rfl (sw_true rfl rfl rfl (by decide +kernel)) (pi_list (pv 0)) (blkOk_by (N := ["_law_rows_here", "_law_beads_here", "_law_row_here", "_law_bead", "_law_other", "_law_one", "_law_alike", "_law_kept", "_law_order", "_law_first", "_law_k"]) (sc := defScope s_beads) (by decide +kernel)) (fun _ _ _ _ _ => (pg_name (i := 4) sc_beads.nd rfl (Or.inl rfl))) (fun _ _ _ _ _ => (pts_one (pt_cmpR (op_eqB (n := 1) (rcB_tupK (K := K) (ne := false) (n := 0) rfl monB_flat eqB_flat) (hr.mono (by decide))) (pe_slice (sl_tupAK (K' := K) rfl) (pv 4) (po_some pe_int) po_none) (pe_slice (sl_tupAK (K' := K) rfl) (pv 2) (po_some pe_int) po_none) (nomark _)))) (fun _ _ _ _ _ => (pv 4)))
      (pss_cons (ps_if (PW.pt (pw_or (pt_cmpR op_ne (pe_bm PySem.F.plainAttrs_list PySem.F.slot_list_count PySem.F.type_list_count (mt_countB monB_own6 (eqB_own6 T) (hr.mono (by decide))) (pv 1) (pa_cons (pv 3) pa_nil)) (pe_callB call_len_seq (by rfl) T.z_len PySem.boot_len (pa_cons (pv 6) pa_nil)) (nomark _)) (pw_or (pt_cmpR op_ne (pe_call (ok_how_many T) (hr.mono (by decide)) (by rfl) T.g_how_many T.F_how_many.kp T.b_how_many .nil pass0 (pa_cons (pv 1) (pa_cons (pv 3) pa_nil))) (pe_callB call_len_seq (by rfl) T.z_len PySem.boot_len (pa_cons (pv 6) pa_nil)) (nomark _)) (pw_or1 (pt_cmpR (op_notInB monB_own6 (eqB_own6 T) (hr.mono (by decide))) (pv 3) (pv 1) (by rfl)))))) (pss_one (ps_ret pe_bl)) pss_nil)
      (pss_one (ps_if (PW.pt (pw_or (pt_cmpR op_ne (pe_bm PySem.F.plainAttrs_list PySem.F.slot_list_index PySem.F.type_list_index (mt_indexB (monB_own6.or (monB_tupI monB_flat)) ((eqB_own6 T).or (eqB_tupI monB_flat eqB_flat)) (hr.mono (by decide))) (pv 1) (pa_cons (pv 3) pa_nil)) (pe_bm PySem.F.plainAttrs_list PySem.F.slot_list_index PySem.F.type_list_index (mt_indexB (monB_own6.or (monB_tupI monB_flat)) ((eqB_own6 T).or (eqB_tupI monB_flat eqB_flat)) (hr.mono (by decide))) (pv 0) (pa_cons (pe_ix ix_list (pv 6) pe_int (fun _ _ => rfl)) pa_nil)) (nomark _)) (pw_or (pt_cmpR (op_eqB (rcB_all T) (hr.mono (by decide))) (pv 3) (pv 2) (nomark _)) (pw_or1 (pt_cmpR (op_eqB (rcB_all T) (hr.mono (by decide))) (pv 3) (pe_callTy (call_strO (E := E0) (ok_Bead_str T) T.m_Bead_str.at_ T.m_Bead_str.fn T.b_Bead_str pass0 (hr.mono (by decide))) (by rfl) T.z_str (by decide +kernel) (pa_cons (pv 3) pa_nil)) (nomark _)))))) (pss_one (ps_ret pe_bl)) pss_nil))))))))
      (pss_cons (ps_set (i := 7) sc_beads.nd rfl (Or.inl rfl) (pe_callB (call_reprLst (n := 1) gd (hr.mono (by decide))) (by rfl) T.z_repr (by decide +kernel) (pa_cons (pv 1) pa_nil)))
      (pss_cons (ps_setLc (i := 8) (own := [("_law_bead", 3)]) (g := gName 3) (tt := tYes) rfl sc_beads.nd rfl rfl (sw_true rfl rfl rfl (by decide +kernel)) (pi_list (pe_call (ok_in_order T TB) (hr.mono (by decide)) (by rfl) T.g_in_order T.F_in_order.kp T.b_in_order .nil pass0 (pa_cons (pv 1) pa_nil))) (blkOk_by (N := ["_law_rows_here", "_law_beads_here", "_law_row_here", "_law_bead", "_law_other", "_law_one", "_law_alike", "_law_kept", "_law_order", "_law_first", "_law_k"]) (sc := defScope s_beads) (by decide +kernel)) (fun _ _ _ _ _ => (pg_name (i := 3) sc_beads.nd rfl (Or.inl rfl))) (fun _ _ _ _ _ => pts_nil) (fun _ _ _ _ _ => (pe_meth0 (pv 3) T.cl_Bead T.m_Bead_row (ok_Bead_row T) (hr.mono (by decide)) T.b_Bead_row .nil pass0)))
      (pss_cons (ps_setLc (i := 9) (own := [("_law_k", 10), ("_law_row_here", 2)]) (g := gTup K 2 (gCons (gName 10) (gCons (gName 2) gNil))) (tt := _) rfl sc_beads.nd rfl rfl (sw_true rfl rfl rfl (by decide +kernel)) (pi_enum (by rfl) T.z_enumerate (pa_cons (pv 0) pa_nil)) (blkOk_by (N := ["_law_rows_here", "_law_beads_here", "_law_row_here", "_law_bead", "_law_other", "_law_one", "_law_alike", "_law_kept", "_law_order", "_law_first", "_law_k"]) (sc := defScope s_beads) (by decide +kernel)) (fun _ _ _ _ _ => (pg_tupK (K' := K) rfl (by rfl) (pgs_cons (pg_name (i := 10) sc_beads.nd rfl (Or.inl rfl)) (pgs_cons (pg_name (i := 2) sc_beads.nd rfl (Or.inl rfl)) pgs_nil)))) (fun _ _ _ _ _ => (pts_one (pt_cmpR (op_notInB (monB_tupI (K := K) monB_flat) (eqB_tupIK (K := K) (n := 0) rfl monB_flat eqB_flat) (hr.mono (by decide))) (pe_slice (sl_tupAK (K' := K) rfl) (pv 2) (po_some pe_int) po_none) (pe_lc (own := [("_law_other", 4)]) (g := gName 4) (tt := tYes) rfl sc_beads.nd (pi_listK (K' := K) rfl (pe_slice (sl_listK (K' := K) rfl) (pv 0) po_none (po_some (pv 10)))) (blkOk_by (N := ["_law_rows_here", "_law_beads_here", "_law_row_here", "_law_bead", "_law_other", "_law_one", "_law_alike", "_law_kept", "_law_order", "_law_first", "_law_k"]) (by rfl)) (fun _ _ _ _ _ => (pg_name (i := 4) sc_beads.nd rfl (Or.inl rfl))) (fun _ _ _ _ _ => pts_nil) (fun _ _ _ _ _ => (pe_slice (sl_tupAK (K' := K) rfl) (pv 4) (po_some pe_int) po_none))) (by rfl)))) (fun _ _ _ _ _ => (pv 2)))
      (pss_cons (ps_if (PW.pt (pw_or (pt_cmpR (op_neD hr.units) (pv 8) (pe_sortLam (n := 2) (T := lamT T) (N := ["_law_row_here"]) (a := "_law_row_here") (D := DRow) (by rfl) T.z_sorted (pa_cons (pv 0) pa_nil) TB.t_beads rfl (List.mem_cons.mpr (Or.inr (List.mem_cons.mpr (Or.inl rfl)))) (hu_beads T) ⟨rfl, rfl, rfl, by decide +kernel, rfl, by decide +kernel, by decide +kernel⟩ (fun f A outer s H cdv hr => (pe_tup (pa_cons (pe_slice (sl_tupAK (K' := K) rfl) (pv 0) (po_some pe_int) po_none) (pa_cons (pe_ix (ix_tupK (K' := K) rfl) (pv 0) pe_int (fun _ _ => rfl)) pa_nil)))) (fun y k H hd => by obtain ⟨t, r, rfl, ht, rfl⟩ := hd; exact ⟨_, rfl, 1, rfl, nopart (sla_of ht fun H1 p1 s1 e1 => ⟨_, rfl, t, _, _, _, rfl, rfl, .inl (.inl (s1 _ _ ht)), atI_nat (j := 0) rfl, (by show 2 ≤ sizeLine; decide), fun q2 hq2 => row_key s1 e1 hq2⟩)⟩) monRow (hr.mono (by decide))) (nomark _)) (pw_or1 (pt_cmpR op_ne (pe_callB (call_reprLst (n := 1) gd (hr.mono (by decide))) (by rfl) T.z_repr (by decide +kernel) (pa_cons (pv 1) pa_nil)) (pv 7) (nomark _))))) (pss_one (ps_ret pe_bl)) pss_nil)
      (pss_one (ps_ret (pe_cmpR (op_eqD hr.units) (pe_lc (own := [("_law_bead", 3)]) (g := gName 3) (tt := tYes) rfl sc_beads.nd (pi_list (pe_call (ok_unlike T) (hr.mono (by decide)) (by rfl) T.g_unlike T.F_unlike.kp T.b_unlike .nil pass0 (pa_cons (pv 1) pa_nil))) (blkOk_by (N := ["_law_rows_here", "_law_beads_here", "_law_row_here", "_law_bead", "_law_other", "_law_one", "_law_alike", "_law_kept", "_law_order", "_law_first", "_law_k"]) (sc := defScope s_beads) (by decide +kernel)) (fun _ _ _ _ _ => (pg_name (i := 3) sc_beads.nd rfl (Or.inl rfl))) (fun _ _ _ _ _ => pts_nil) (fun _ _ _ _ _ => (pe_meth0 (pv 3) T.cl_Bead T.m_Bead_row (ok_Bead_row T) (hr.mono (by decide)) T.b_Bead_row .nil pass0))) (pv 9) (nomark _))))))))), ?_⟩
  have hxl := hX.1
  have hyl := hY.1
  refine ⟨_, rfl, _, rfl, l, D, xs, ys, rfl, SqL.of el, SqL.of eD, for_it (walk_zip (K := K) (a := l) (b := D) (xs := xs) (ys := ys) rfl) (fun i σ H' => ∃ w2 w3 w4 w5 w6, σ = [some (.ref l), some (.ref D), w2, w3, w4, w5, w6, none, none, none, none] ∧ Same H H') ⟨_, _, _, _, _, rfl, Same.refl _⟩ (fun i σ H' _ h => ?_) ?_ ?_⟩
  · obtain ⟨_, _, _, _, _, _, s⟩ := h
    exact ⟨SqL.of (s _ _ el), SqL.of (s _ _ eD)⟩
  · rintro i x σ H6 H7 hi ⟨w2, w3, w4, w5, w6, rfl, s6⟩ ⟨tt, x1, x2, rfl, nt, rfl, c1, c2⟩
    have hir : i < rs.length := by omega
    obtain ⟨t, h1, ht⟩ := hX.2 i _ (List.getElem?_eq_getElem hir)
    obtain ⟨pb, g1, hpb⟩ := hY.2 i _ (List.getElem?_eq_getElem hir)
    have c1 : xs[i]? = some x1 := c1
    have c2 : ys[i]? = some x2 := c2
    rw [h1] at c1
    cases c1
    rw [g1] at c2
    cases c2
    have gr := hG _ (List.getElem_mem hir)
    have hri : rs[i]? = some rs[i] := List.getElem?_eq_getElem hir
    generalize rs[i] = r at ht hpb gr hri
    have st := same_upd nt (o := .tup [V.ref t, .ref pb])
    refine ⟨tt, _, rfl, .inl (.inl upd_same), rfl, _, _, rfl, _, _, rfl, rfl, ?_⟩
    have s7 := s6.trans st
    obtain ⟨dx, hp0⟩ := id hpb
    have hp7 := s7 _ _ hp0
    clear hp7
    revert s7
    generalize upd H6 tt (.tup [V.ref t, .ref pb]) = H7
    intro s7
    have hp7 := s7 _ _ hp0
    refine ⟨_, rfl, pb, dx, _, rfl, hp7, pb, _, rfl, ⟨dx, hp7⟩, gr, fun H8 z1 hz1 _ s8 => ⟨⟨z1, rfl⟩, ?_⟩⟩
    have s78 := s7.trans s8
    have hp8 := s78 _ _ hp0
    refine ⟨_, rfl, pb, dx, _, rfl, hp8, pb, _, rfl, ⟨dx, hp8⟩, gr, fun H9 z2 hz2 _ s9 => ⟨⟨z2, rfl⟩, ?_⟩⟩
    obtain rfl := reprS_of hz1
    obtain rfl := strS_of hz2
    refine ⟨(by show 2 ≤ sizeLine; decide), fun t10 ht10 => ?_⟩
    have s10 := same_upd ht10 (o := .tup [.str (reprS r), .str (strS r)])
    have y10 := (s78.trans s9).trans s10
    refine ⟨_, rfl, t, _, rfl, y10 _ _ ht, gr, fun H11 p11 s11 e11 => ?_⟩
    refine ⟨_, flat_same (.inl (.inl (s11 _ _ upd_same))) (.inl (.inl e11)) (fun x hx => by simp only [List.mem_cons, List.not_mem_nil, or_false] at hx; rcases hx with rfl | rfl <;> rfl) (fun x hx => by simp only [List.mem_cons, List.not_mem_nil, or_false] at hx; rcases hx with rfl | rfl <;> exact eqv_str _), fun H12 s12 => ⟨_, rfl, iteF ?_⟩⟩
    have y12 : Same H H12 := (y10.trans s11).trans s12
    have hp12 := y12 _ _ hp0
    refine ⟨_, rfl, pb, dx, _, rfl, hp12, bf_no _ (by decide +kernel) (by decide +kernel) (by decide +kernel) (by decide +kernel) (by decide +kernel) (by decide +kernel), pb, _, rfl, ⟨dx, hp12⟩, fun t13 ht13 => ?_⟩
    have s13 := same_upd ht13 (o := .tup (rowVals r))
    refine ⟨_, rfl, _, flat_same (.inl (.inl upd_same)) (.inl (.inl (s13 _ _ (y12 _ _ ht)))) (fun x hx => (row_flat hx).1) (fun x hx => (row_flat hx).2), fun H14 s14 => ⟨_, rfl, iteF ?_⟩⟩
    have y14 : Same H H14 := (y12.trans s13).trans s14
    have hp14 := y14 _ _ hp0
    refine ⟨_, rfl, pb, dx, _, rfl, hp14, bf_no _ (by decide +kernel) (by decide +kernel) (by decide +kernel) (by decide +kernel) (by decide +kernel) (by decide +kernel), pb, _, rfl, ⟨dx, hp14⟩, fun t15 ht15 => ?_⟩
    have s15 := same_upd ht15 (o := .tup (keyVals r))
    refine ⟨_, rfl, 1, rfl, nopart (sla_of ((y14.trans s15) _ _ ht) fun H16 p16 s16 e16 => ?_)⟩
    refine ⟨_, rfl, nopart ⟨1, rfl, sla_of (((y14.trans s15).trans s16) _ _ ht) fun H17 p17 s17 e17 => ?_⟩⟩
    refine cata_of (s17 _ _ e16) e17 (by show 5 + 1 ≤ sizeLine; decide) fun H18 p18 s18 e18 => ?_
    have s1518 := (s16.trans s17).trans s18
    refine ⟨_, flat_same (xs := keyVals r) (.inl (.inl (s1518 _ _ upd_same))) (.inl (.inl e18)) (fun x hx => (key_flat hx).1) (fun x hx => (key_flat hx).2), fun H19 s19 => ⟨_, rfl, iteF ?_⟩⟩
    have y19 : Same H H19 := ((y14.trans s15).trans s1518).trans s19
    clear y14 y12 y10 s78 hp7 hp8 hp12 hp14 s7 s8 s9 s10 s11 s12 s13 s14 s15 s16 s17 s18 s19 s1518 e16 e17 e18 e11 hz1 hz2
    refine ⟨_, rfl, _, rfl, l, D, xs, ys, rfl, SqL.of (y19 _ _ el), SqL.of (y19 _ _ eD), for_it (walk_zip (K := K) (a := l) (b := D) (xs := xs) (ys := ys) rfl) (fun i σ H' => ∃ w4 w5, σ = [some (.ref l), some (.ref D), some (.ref t), some (.ref pb), w4, w5, w6, none, none, none, none] ∧ Same H H') ⟨_, _, rfl, y19⟩ (fun i σ H' _ h => ?_) ?_ ?_⟩
    · obtain ⟨_, _, _, s⟩ := h
      exact ⟨SqL.of (s _ _ el), SqL.of (s _ _ eD)⟩
    · rintro i' x' σ I6 I7 hi' ⟨w4, w5, rfl, s6⟩ ⟨tt', x1, x2, rfl, nt', rfl, c1, c2⟩
      have hir' : i' < rs.length := by omega
      obtain ⟨t', h1', ht'⟩ := hX.2 i' _ (List.getElem?_eq_getElem hir')
      obtain ⟨pb', g1', hpb'⟩ := hY.2 i' _ (List.getElem?_eq_getElem hir')
      have c1 : xs[i']? = some x1 := c1
      have c2 : ys[i']? = some x2 := c2
      rw [h1'] at c1
      cases c1
      rw [g1'] at c2
      cases c2
      generalize rs[i'] = r' at ht' hpb'
      have st := same_upd nt' (o := .tup [V.ref t', .ref pb'])
      refine ⟨tt', _, rfl, .inl (.inl upd_same), rfl, _, _, rfl, _, _, rfl, rfl, ?_⟩
      have s7 := s6.trans st
      revert s7
      generalize upd I6 tt' (.tup [V.ref t', .ref pb']) = I7
      intro s7
      refine ⟨_, rfl, _, rfl, _, .inl (own_at T (hpb.nl (NL.of s7)) (hpb'.nl (NL.of s7))), fun I8 s8 => ?_⟩
      have y8 : Same H I8 := s7.trans s8
      refine ⟨_, rfl, 1, rfl, nopart (sla_of (y8 _ _ ht) fun I9 p9 s9 e9 => ?_)⟩
      have y9 := y8.trans s9
      refine ⟨_, rfl, 1, rfl, nopart (sla_of (y9 _ _ ht') fun I10 p10 s10 e10 => ?_)⟩
      refine ⟨_, tail_tup (s10 _ _ e9) e10, fun I11 s11 => ⟨rfl, _, rfl, ?_⟩⟩
      have y11 : Same H I11 := (y9.trans s10).trans s11
      rw [decide_eq_true rfl]
      refine iteF ?_
      refine ⟨_, rfl, _, rfl, _, own1_at T (hpb.nl (NL.of y11)) (hpb'.nl (NL.of y11)), fun I12 s12 => ?_⟩
      have y12 : Same H I12 := y11.trans s12
      refine ⟨_, rfl, 1, rfl, nopart (sla_of (y12 _ _ ht) fun I13 p13 s13 e13 => ?_)⟩
      have y13 := y12.trans s13
      refine ⟨_, rfl, 1, rfl, nopart (sla_of (y13 _ _ ht') fun I14 p14 s14 e14 => ?_)⟩
      refine ⟨_, tail_tup (s14 _ _ e13) e14, fun I15 s15 => ⟨rfl, _, rfl, ?_⟩⟩
      have y15 : Same H I15 := (y13.trans s14).trans s15
      rw [decide_eq_false (show ¬ V.bl (true ^^ likeRw r r') = V.bl (false ^^ likeRw r r') from fun e => by injection e with e; cases h : likeRw r r' <;> rw [h] at e <;> cases e)]
      exact iteF ⟨_, _, rfl, y15⟩
    rintro σ I6 ⟨w4, w5, rfl, s6⟩
    clear y19
    refine ⟨_, rfl, l, rfl, ⟨_, SqL.of (s6 _ _ el)⟩, fun D4 hD4 => lc_someX (K := K) (a := l) hD4 (SqL.of (s6 _ _ el)) (by omega) (lk rs r) (fun j => xs.getD j .non) ?_ ?_⟩
    · intro j x I7 R C hj s7 hR hC
      have hjr : j < rs.length := by
        rw [← hxl]
        exact (List.getElem?_eq_some_iff.mp hj).1
      have lkj : lk rs r j = likeRw rs[j] r := by
        unfold lk
        rw [List.getElem?_eq_getElem hjr]
      have hx2 : xs.getD j .non = x := by
        rw [List.getD_eq_getElem?_getD, hj]
        rfl
      rw [hx2] at hR
      rw [lkj] at hR hC
      obtain ⟨tj, htj, hrj⟩ := hX.2 j _ (List.getElem?_eq_getElem hjr)
      rw [htj] at hj
      cases hj
      have y7 : Same H I7 := s6.trans s7
      refine ⟨rfl, _, rfl, 1, rfl, nopart (sla_of (y7 _ _ hrj) fun I9 p9 s9 e9 => ?_)⟩
      have y9 := y7.trans s9
      refine ⟨_, rfl, 1, rfl, nopart (sla_of (y9 _ _ ht) fun I10 p10 s10 e10 => ?_)⟩
      refine ⟨_, tail_tup (s10 _ _ e9) e10, fun I11 s11 => ⟨_, rfl, ?_⟩⟩
      have s5 : Same I7 I11 := (s9.trans s10).trans s11
      rw [Bool.false_xor]
      refine ite2 (fun e => ?_) (fun e => ?_)
      · exact ⟨_, rfl, hR e _ s5⟩
      · exact hC (by simpa using e) _ s5
    intro I7 s7 e7
    rw [hxl] at e7
    have y7 : Same H I7 := s6.trans s7
    have hal : (((List.range rs.length).filter (lk rs r)).map fun j => xs.getD j V.non).length = cntF rs.length (lk rs r) := cnt_len
    obtain ⟨j0, hj0, hf0, hm0, hat0⟩ : ∃ j0, j0 < rs.length ∧ lk rs r j0 = true ∧ (∀ m, m < j0 → lk rs r m = false) ∧ (((List.range rs.length).filter (lk rs r)).map fun j => xs.getD j V.non)[0]? = some (xs.getD j0 .non) := first_of hir (by unfold lk; rw [hri]; exact like_refl r)
    generalize (((List.range rs.length).filter (lk rs r)).map fun j => xs.getD j V.non) = al at e7 hal hat0
    have hpb7 := y7 _ _ hp0
    refine ⟨_, rfl, .inl ⟨rfl, _, SqL.of (y7 _ _ eD)⟩, _, rfl, D, ys, .ref pb, _, rfl, rfl, y7 _ _ eD, its_at T (hY.nl (NL.of y7)) (hpb.nl (NL.of y7)), fun I8 s8 => ⟨_, rfl, D4, _, rfl, .inl (SqL.of (s8 _ _ e7)), rfl, _, rfl, ?_⟩⟩
    rw [hyl, hal, decide_eq_true rfl]
    refine iteF ?_
    have y8 : Same H I8 := y7.trans s8
    refine ⟨_, rfl, _, rfl, D, pb, ys, rs, r, rfl, y8 _ _ eD, hY.nl (NL.of y8), hpb.nl (NL.of y8), fun I9 s9 => ⟨_, rfl, D4, _, rfl, .inl (SqL.of ((s8.trans s9) _ _ e7)), rfl, _, rfl, ?_⟩⟩
    rw [hal, decide_eq_true rfl]
    refine iteF ?_
    have y9 := y8.trans s9
    refine ⟨_, rfl, _, rfl, D, ys, _, rfl, y9 _ _ eD, its_at T (hY.nl (NL.of y9)) (hpb.nl (NL.of y9)), fun I10 s10 => ⟨_, rfl, ?_⟩⟩
    have hany : anyF ys.length (lk rs r) = true := anyF_iff.mpr ⟨i, by omega, by unfold lk; rw [hri]; exact like_refl r⟩
    rw [hany]
    refine iteF ?_
    have y10 : Same H I10 := y9.trans s10
    obtain ⟨t0, h0, ht0⟩ := hX.2 j0 _ (List.getElem?_eq_getElem hj0)
    have hx0 : xs.getD j0 .non = .ref t0 := by
      rw [List.getD_eq_getElem?_getD, h0]
      rfl
    rw [hx0] at hat0
    have e10 := (s8.trans s9).trans s10
    refine ⟨_, rfl, .inl ⟨rfl, _, SqL.of (y10 _ _ eD)⟩, _, rfl, D, ys, .ref pb, lk rs r, j0, rfl, rfl, y10 _ _ eD, fun k z hz => .inl (its_at T (hY.nl (NL.of y10)) (hpb.nl (NL.of y10)) k z hz), by omega, hf0, hm0, fun I11 s11 => ?_⟩
    have y11 : Same H I11 := y10.trans s11
    refine ⟨_, rfl, .inl ⟨rfl, _, SqL.of (y11 _ _ el)⟩, _, rfl, D4, _, _, _, rfl, rfl, SqL.of (s11 _ _ (e10 _ _ e7)), atI_nat (j := 0) hat0, l, xs, .ref t0, (fun m => match rs[m]? with | some s => rowEq s rs[j0] | none => false), j0, rfl, rfl, y11 _ _ el, fun k z hz => .inr ?_, by omega, ?_, fun m hm => ?_, fun I12 s12 => ?_⟩
    · have hk : k < rs.length := by
        rw [← hxl]
        exact (List.getElem?_eq_some_iff.mp hz).1
      obtain ⟨tk, hk1, htk⟩ := hX.2 k _ (List.getElem?_eq_getElem hk)
      rw [hk1] at hz
      cases hz
      show BTupI _ _ _ _ (match rs[k]? with | some s => rowEq s rs[j0] | none => false) _
      rw [List.getElem?_eq_getElem hk]
      refine ⟨row_tup (y11 _ _ htk) (y11 _ _ ht0), fun e => ?_⟩
      injection e with e
      subst e
      rw [htk] at ht0
      injection ht0 with e2
      injection e2 with e2
      rw [row_inj e2]
      exact rowEq_refl _
    · show (match rs[j0]? with | some s => rowEq s rs[j0] | none => false) = true
      rw [List.getElem?_eq_getElem hj0]
      exact rowEq_refl _
    · show (match rs[m]? with | some s => rowEq s rs[j0] | none => false) = false
      have hmr : m < rs.length := by omega
      rw [List.getElem?_eq_getElem hmr]
      have hl := hm0 m hm
      unfold lk at hl hf0
      rw [List.getElem?_eq_getElem hmr] at hl
      rw [List.getElem?_eq_getElem hj0] at hf0
      have hl : likeRw rs[m] r = false := hl
      have hf0 : likeRw rs[j0] r = true := hf0
      cases c : rowEq rs[m] rs[j0] with
      | false => exact c
      | true =>
        unfold rowEq at c
        rw [Bool.and_eq_true] at c
        have := like_trans c.2 hf0
        rw [hl] at this
        cases this
    have y12 : Same H I12 := y11.trans s12
    refine ⟨rfl, _, rfl, ?_⟩
    rw [decide_eq_true rfl]
    refine iteF ?_
    have hp12 := y12 _ _ hp0
    have ht12 := y12 _ _ ht
    refine ⟨_, rfl, _, rfl, _, .inl (.inl ⟨pb, dx, _, .type "tuple", rfl, hp12, .base (.tup ht12), T.nf_tuple, ⟨r, ⟨dx, hp12⟩, .inr ⟨"tuple", by decide, .base (.tup ht12), rfl⟩⟩, fun e => by
      injection e with e
      rw [e, hp12] at ht12
      cases ht12⟩), fun I13 s13 => ⟨_, rfl, iteF ?_⟩⟩
    have hp13 := s13 _ _ hp12
    refine ⟨_, rfl, _, rfl, pb, dx, _, rfl, hp13, pb, _, rfl, ⟨dx, hp13⟩, gr, fun I14 z2 hz2 _ s14 => ⟨⟨z2, rfl⟩, ?_⟩⟩
    have hp14 := s14 _ _ hp13
    refine ⟨_, .inl (.inl ⟨pb, dx, _, .type "str", rfl, hp14, .base (.str _), T.nf_str, ⟨r, ⟨dx, hp14⟩, .inr ⟨"str", by decide, .base (.str _), rfl⟩⟩, fun e => by cases e⟩), fun I15 s15 => ⟨_, rfl, iteF ?_⟩⟩
    exact ⟨_, _, _, _, _, rfl, (y12.trans s13).trans (s14.trans s15)⟩
  · rintro σ H6 ⟨w2, w3, w4, w5, w6, rfl, s6⟩
    have eD6 := s6 _ _ eD
    have el6 := s6 _ _ el
    have hY6 := hY.nl (NL.of s6)
    have hX6 := hX.nl (NL.of s6)
    have T6 := hT.ext s6
    have pl := piled_le (m := 300) (ts := rs.map reprS) fun z hz => by
      obtain ⟨r, hr, rfl⟩ := List.mem_map.mp hz
      exact reprS_len (hG r hr)
    rw [List.length_map] at pl
    have ll : (listText (rs.map reprS)).length ≤ 60600 := by
      have := list_le (rs.map reprS)
      have : rs.length * 302 ≤ 100 * 302 := Nat.mul_le_mul_right _ hlen
      omega
    refine ⟨_, rfl, D, ys, rs.map reprS, rfl, eD6, by rw [List.length_map, hyl], bead_shows T hY6 hG, fit ll, fun H7 s7 => ?_⟩
    have s7 : Same H6 H7 := s7
    have hol : (ordR rs).length = rs.length := (List.mergeSort_perm _ _).length_eq
    refine ⟨_, rfl, D, ys, rs, rfl, s7 _ _ eD6, hY6.nl (NL.of s7), by omega, T6.ext s7, fun H8 lo yo n8 T8 ne8 eo hYo => ⟨lo, rfl, ⟨_, SqL.of eo⟩, fun D9 hD9 => row_comp T hD9 (SqL.of eo) hYo (by rw [hYo.1, hol]; omega) (fun _ => rfl) (fun _ => rfl) fun H9 acc9 s9 e9 hR9 => ?_⟩⟩
    have n9 : ExtN H6 H9 := ((ExtN.of s7).trans n8).trans (ExtN.of s9)
    have el9 := lst_exn n9 el6
    have hX9 := hX6.exn n9
    refine ⟨_, rfl, l, xs, rfl, SqL.of el9, fun D10 hD10 => lc_enumX (K := K) (a := l) hD10 (SqL.of el9) (by omega) (newAt rs) (fun j => xs.getD j .non) ?_ ?_⟩
    · intro i x T0 I2 R C hi s2 eT hR hC
      have hir : i < rs.length := by
        rw [← hxl]
        exact (List.getElem?_eq_some_iff.mp hi).1
      obtain ⟨t, h1, ht⟩ := hX9.2 i _ (List.getElem?_eq_getElem hir)
      have hx : xs.getD i .non = .ref t := by rw [List.getD_eq_getElem?_getD, h1]; rfl
      rw [hx] at hR
      rw [h1] at hi
      cases hi
      have hn : newAt rs i = !anyF i (lk rs rs[i]) := by
        unfold newAt
        rw [List.getElem?_eq_getElem hir]
      refine ⟨T0, _, rfl, .inl (.inl eT), rfl, _, _, rfl, _, _, rfl, rfl, ?_⟩
      refine ⟨rfl, _, rfl, 1, rfl, nopart (sla_of (s2 _ _ ht) fun I3 p3 s3 e3 => ?_)⟩
      have y3 := s2.trans s3
      refine ⟨_, rfl, _, rfl, _, rfl, l, xs, rfl, SqL.of (y3 _ _ el9), fun g1 hg1 => ?_⟩
      rw [cut_to]
      have s4 := same_upd hg1 (o := .lst (xs.take i))
      have y4 := y3.trans s4
      refine ⟨g1, rfl, ⟨_, SqL.of upd_same⟩, fun D5 hD5 => ?_⟩
      refine lc_gen (K := K) (a := g1) hD5 (SqL.of upd_same) (by rw [List.length_take]; omega) (fun j v H' => ∀ r, rs[j]? = some r → ∃ t, v = .ref t ∧ H' t = some (.tup (tailV r))) (fun j v Ha Hb sn h r hr => ?_) ?_ ?_
      · obtain ⟨t, h1, h2⟩ := h r hr
        exact ⟨t, h1, sn _ _ (fun _ z => by cases z) h2⟩
      · intro j z I5 R C hj s5 hRv
        have hji : j < i := by
          have := (List.getElem?_eq_some_iff.mp hj).1
          rw [List.length_take] at this
          omega
        have hjr : j < rs.length := by omega
        rw [List.getElem?_take, if_pos hji] at hj
        obtain ⟨tj, htj, hrj⟩ := hX9.2 j _ (List.getElem?_eq_getElem hjr)
        rw [htj] at hj
        cases hj
        refine ⟨rfl, yesT ⟨_, rfl, 1, rfl, nopart (sla_of ((y4.trans s5) _ _ hrj) fun I6 p6 s6 e6 => ?_)⟩⟩
        refine hRv _ _ s6 fun r' hr' => ?_
        rw [List.getElem?_eq_getElem hjr] at hr'
        cases hr'
        exact ⟨p6, rfl, e6⟩
      intro I7 acc s7 e7 l7 g7
      have la : acc.length = i := by
        rw [l7, List.length_take]
        omega
      have e37 : I7 p3 = some (.tup (tailV rs[i])) := (s4.trans s7) _ _ e3
      refine ⟨D5, acc, lk rs rs[i], rfl, e7, fun k z hz => ?_, fun I8 s8 => ⟨_, rfl, ?_⟩⟩
      · have hki : k < i := by
          rw [← la]
          exact (List.getElem?_eq_some_iff.mp hz).1
        have hkr : k < rs.length := by omega
        obtain ⟨tk, rfl, htk⟩ := g7 k z hz _ (List.getElem?_eq_getElem hkr)
        have lkk : lk rs rs[i] k = likeRw rs[k] rs[i] := by
          unfold lk
          rw [List.getElem?_eq_getElem hkr]
        rw [lkk]
        refine ⟨tail_tup htk e37, fun e => ?_⟩
        injection e with e
        subst e
        rw [htk] at e37
        injection e37 with e37
        injection e37 with e37
        exact tail_inj e37
      have y8 : Same I2 I8 := (s3.trans s4).trans (s7.trans s8)
      rw [la, Bool.true_xor, ← hn]
      refine ite2 (fun e => ?_) (fun e => ?_)
      · exact ⟨_, rfl, hR e _ y8⟩
      · exact hC (by simpa using e) _ y8
    intro H10 s10 e10
    have s10 : Same H9 H10 := s10
    rw [hxl] at e10
    have hF10 := dedv (hX9.nl (NL.of s10)) rs.length (Nat.le_refl _)
    generalize (((List.range rs.length).filter (newAt rs)).map fun j => xs.getD j V.non) = fl at e10 hF10
    have hR10 := hR9.nl (NL.of s10)
    have n10 := n9.trans (ExtN.of s10)
    have T10 := (T8.ext s9).ext s10
    have hX10 := hX9.nl (NL.of s10)
    refine ⟨_, rfl, _, rfl, T10, fun H11 f c' eN T11 hf hc => ?_⟩
    have hX11 := hX10.exn eN
    refine ⟨l, f, xs, rs.map keyL, rfl, rfl, SqL.of (lst_exn (n10.trans eN) el6), small1000 (by omega), by rw [List.length_map, hxl], alike_keyL rs, sortable_keyL rs, fun d hd => ?_, fun i x k hx hk => ?_, fun H12 l12 x12 e12 hl12 => ?_⟩
    · obtain ⟨a, _, rfl⟩ := List.mem_map.mp hd
      show PyData.depth (.tuple _) ≤ 8
      simp [PyData.depth, PyData.depthAll]
    · rw [List.getElem?_map] at hk
      cases e : rs[i]? with
      | none => rw [e] at hk; cases hk
      | some r =>
        rw [e] at hk
        cases hk
        obtain ⟨p, h1, h2⟩ := hX11.2 i r e
        rw [hx] at h1
        cases h1
        exact ⟨c', hf, hc, p, r, rfl, h2, rfl⟩
    have n12 := (n10.trans eN).trans (ExtN.of x12)
    have n912 := ((ExtN.of s10).trans eN).trans (ExtN.of x12)
    have hS12 := srt_rowL (hX11.nl (NL.of x12))
    have hGo : ∀ r ∈ ordR rs, GoodRw r := fun r hr => hG r ((List.mergeSort_perm _ _).mem_iff.mp hr)
    refine rows_ne (lst_exn n912 e9) (hR9.exn n912) e12 hS12 hGo ⟨_, rfl, iteF ?_⟩
    have T12 := T11.ext x12
    refine ⟨_, rfl, D, ys, rs.map reprS, rfl, lst_exn n12 eD6, by rw [List.length_map, hyl], bead_shows T (hY6.exn n12) hG, fit ll, fun H13 s13 => ⟨_, rfl, rfl, _, rfl, ?_⟩⟩
    have s13 : Same H12 H13 := s13
    rw [decide_eq_true rfl]
    refine iteF ?_
    have n13 := n12.trans (ExtN.of s13)
    have e13 := s13 _ _ (lst_exn (eN.trans (ExtN.of x12)) e10)
    have hF13 := hF10.exn ((eN.trans (ExtN.of x12)).trans (ExtN.of s13))
    refine ⟨_, rfl, D, ys, rs, rfl, lst_exn n13 eD6, hY6.exn n13, by omega, fun H14 lu yu hlu s14 eu hU => ⟨lu, rfl, ⟨_, SqL.of eu⟩, fun D15 hD15 => row_comp T hD15 (SqL.of eu) hU (by rw [hU.1]; exact Nat.le_trans (ded_len rs _) (by omega)) (fun _ => rfl) (fun _ => rfl) fun H15 acc s15 e15 hR15 => ?_⟩⟩
    have s1315 := s14.trans s15
    have hGd : ∀ r ∈ ded rs rs.length, GoodRw r := fun r hr => hG r (ded_mem hr)
    refine ⟨_, rfl, .list ((ded rs rs.length).map rowD), .list ((ded rs rs.length).map rowD), .lst (SqL.of e15) (dpAll_of hR15), .lst (SqL.of (s1315 _ _ e13)) (dpAll_of (hF13.nl (NL.of s1315))), rowsD_shaped hGd, rowsD_shaped hGd, ?_⟩
    rw [SeqAt.eqv_refl _ (SeqAt.canLay_of_shaped (rowsD_shaped hGd))]
    exact q _ ((ExtN.of s6).trans (n13.trans (ExtN.of s1315))) ((T12.ext s13).ext s1315)
end
end KB
namespace KB
open PySem PySem.Spec PyProof.Rows L2 KA LamX
open Sx (ok_Share_init ok_Share_repr ok_common_part)
open Lo (ok_Lot_init ok_Lot_len ok_Lot_str)
section
variable {P : Program} {w : World} {K : PySem.W.Frag} {mg : Str → Option Value} {base : Heap}
def partD : Option Rw → PyData
  | none => .none
  | some r => .tuple [.int r.ac, .int r.we, .str r.sh, .str r.fo, .bool r.dr]
theorem part_eqv (o o' : Option Rw) : PyData.eqv (partD o) (partD o') = sameO o o' := by
  cases o with
  | none => cases o' <;> rfl
  | some r => cases o' with
    | none => rfl
    | some r' =>
      unfold partD sameO likeRw
      simp only [PyData.eqv, PyData.eqvAll, Bool.and_true]
      rfl
def likeP : List (Option Rw) → List (Option Rw) → Bool
  | [], [] => true
  | o :: rs, o' :: ss => sameO o o' && likeP rs ss
  | _, _ => false
theorem parts_eqv : ∀ rs ss : List (Option Rw), PyData.eqv (.list (rs.map partD)) (.list (ss.map partD)) = likeP rs ss := by
  have all : ∀ rs ss : List (Option Rw), PyData.eqvAll (rs.map partD) (ss.map partD) = likeP rs ss := by
    intro rs
    induction rs with
    | nil => intro ss; cases ss <;> rfl
    | cons o rs ih =>
      intro ss
      cases ss with
      | nil => rfl
      | cons o' ss =>
        rw [List.map_cons, List.map_cons, PySem.W.eqv_all_cons, part_eqv, ih]
        rfl
  intro rs ss
  rw [← all]
  simp only [PyData.eqv]
theorem allF_succ {n : Nat} {f : Nat → Bool} : allF (n + 1) f = (f 0 && allF n fun i => f (i + 1)) := by
  unfold allF
  rw [List.range_succ_eq_map, List.all_cons, List.all_map]
  rfl
theorem like_p : ∀ rs ss : List (Option Rw), likeL rs ss = likeP rs ss
  | [], [] => rfl
  | [], _ :: _ => rfl
  | _ :: _, [] => by
    unfold likeL
    rw [decide_eq_false (by simp)]
    rfl
  | o :: rs, o' :: ss => by
    have ih := like_p rs ss
    unfold likeP
    rw [← ih]
    unfold likeL
    rw [List.length_cons, List.length_cons, allF_succ]
    have e : decide (rs.length + 1 = ss.length + 1) = decide (rs.length = ss.length) := by
      rw [decide_eq_decide]
      omega
    rw [e]
    show (_ && (sameO o o' && allF rs.length fun i => sameO (rs.getD i none) (ss.getD i none))) = _
    cases sameO o o' <;> simp
theorem likeL_refl (rs : List (Option Rw)) : likeL rs rs = true := by
  rw [like_p]
  induction rs with
  | nil => rfl
  | cons o rs ih =>
    unfold likeP
    rw [sameO_refl, ih]
    rfl
/-- the rows of a string without the beads' numbers -/
def PartV (H : Hp) (v : V) (o : Option Rw) : Prop := (v = .non ∧ o = none) ∨ ∃ t r, v = .ref t ∧ o = some r ∧ H t = some (.tup (tailV r))
structure Pts (H : Hp) (vs : List V) (rs : List (Option Rw)) : Prop where
  len : vs.length = rs.length
  at_ : ∀ (i : Nat) v, vs[i]? = some v → ∃ o, rs[i]? = some o ∧ PartV H v o
theorem PartV.nl {H H' : Hp} {v : V} {o : Option Rw} (h : PartV H v o) (s : NL H H') : PartV H' v o := by
  rcases h with h | ⟨t, r, h1, h2, h3⟩
  · exact .inl h
  · exact .inr ⟨t, r, h1, h2, s _ _ (fun _ z => by cases z) h3⟩
theorem Pts.nl {H H' : Hp} {vs : List V} {rs : List (Option Rw)} (h : Pts H vs rs) (s : NL H H') : Pts H' vs rs := ⟨h.len, fun i v hv => by
  obtain ⟨o, h1, h2⟩ := h.at_ i v hv
  exact ⟨o, h1, h2.nl s⟩⟩
theorem PartV.dp {K : PySem.W.Frag} {H : Hp} {v : V} {o : Option Rw} (h : PartV H v o) : Dp K H v (partD o) := by
  rcases h with ⟨rfl, rfl⟩ | ⟨p, r, rfl, rfl, hp⟩
  · exact .non
  · exact .tup (.inl (.inl hp)) (.cons (.int _) (.cons (.int _) (.cons (.str _) (.cons (.str _) (.cons (.bl _) .nil)))))
theorem pts_dpAll {K : PySem.W.Frag} {H : Hp} : ∀ {vs : List V} {rs : List (Option Rw)}, Pts H vs rs → DpAll K H vs (rs.map partD)
  | [], [], _ => .nil
  | [], _ :: _, h => by have := h.len; simp at this
  | _ :: _, [], h => by have := h.len; simp at this
  | v :: vs, r :: rs, h => by
    refine .cons ?_ (pts_dpAll (vs := vs) (rs := rs) ⟨by have := h.len; simpa using this, fun i z hz => h.at_ (i + 1) z hz⟩)
    obtain ⟨o, e, ht⟩ := h.at_ 0 v rfl
    cases e
    exact ht.dp
theorem partD_ok {o : Option Rw} (h : ∀ r, o = some r → GoodRw r) : PyData.canLay0 (partD o) = true ∧ PyData.depth (partD o) ≤ 1 := by
  cases o with
  | none => exact ⟨rfl, by decide⟩
  | some r =>
    have g := h r rfl
    constructor
    · show (true && (true && (PyData.canLay0 (.str r.sh) && (PyData.canLay0 (.str r.fo) && (true && true))))) = true
      rw [sh_name g.2.2.2.1, sh_name g.2.2.2.2]
      rfl
    · exact Nat.le_refl _
theorem partsD_ok : ∀ {rs : List (Option Rw)}, (∀ r, some r ∈ rs → GoodRw r) → PyData.canLayAll0 (rs.map partD) = true ∧ PyData.depthAll (rs.map partD) ≤ 1
  | [], _ => ⟨rfl, by decide⟩
  | o :: rs, h => by
    obtain ⟨a, b⟩ := partsD_ok (rs := rs) fun r hr => h r (List.mem_cons_of_mem _ hr)
    obtain ⟨c, d⟩ := partD_ok (o := o) fun r hr => h r (by rw [hr]; exact List.mem_cons_self ..)
    constructor
    · show (PyData.canLay0 (partD o) && PyData.canLayAll0 (rs.map partD)) = true
      rw [a, c]
      rfl
    · show max (PyData.depth (partD o)) (PyData.depthAll (rs.map partD)) ≤ 1
      omega
theorem partsD_shaped {rs : List (Option Rw)} (h : ∀ r, some r ∈ rs → GoodRw r) : SeqAt.shaped (.list (rs.map partD)) = true := by
  obtain ⟨a, b⟩ := partsD_ok h
  show (PyData.canLayAll0 (rs.map partD) && decide (PyData.depthAll (rs.map partD) + 1 ≤ 64)) = true
  rw [a, decide_eq_true (by omega)]
  rfl
theorem Pts.rev {H : Hp} {vs : List V} {rs : List (Option Rw)} (h : Pts H vs rs) : Pts H vs.reverse rs.reverse := by
  refine ⟨by rw [List.length_reverse, List.length_reverse]; exact h.len, ?_⟩
  intro i v hv
  have hi : i < vs.length := by
    have := (List.getElem?_eq_some_iff.mp hv).1
    rwa [List.length_reverse] at this
  rw [List.getElem?_reverse hi] at hv
  obtain ⟨o, h1, h2⟩ := h.at_ _ v hv
  refine ⟨o, ?_, h2⟩
  rw [List.getElem?_reverse (by rw [← h.len]; exact hi), ← h.len]
  exact h1
/-- one bead at most in a row of gaps -/
theorem one_mid {a b : Nat} {ss : List (Option Rw)} (h : ss.length ≤ 1) : One (List.replicate a none ++ ss ++ List.replicate b none) := by
  have at_a : ∀ (i : Nat) (r : Rw), (List.replicate a none ++ ss ++ List.replicate b none)[i]? = some (some r) → i = a := by
    intro i r hi
    by_cases h1 : i < a
    · rw [List.append_assoc, List.getElem?_append_left (by rw [List.length_replicate]; exact h1), List.getElem?_replicate, if_pos h1] at hi
      cases hi
    · rw [List.append_assoc, List.getElem?_append_right (by rw [List.length_replicate]; omega), List.length_replicate] at hi
      by_cases h2 : i - a < ss.length
      · omega
      · rw [List.getElem?_append_right (by omega), List.getElem?_replicate] at hi
        split at hi <;> cases hi
  intro i j r s hi hj
  rw [at_a i r hi, at_a j s hj]
theorem one_single (o : Option Rw) : One [o] := one_mid (a := 0) (b := 0) (ss := [o]) (Nat.le_refl _)
theorem good_mid {a b : Nat} {ss : List (Option Rw)} (h : ∀ r, some r ∈ ss → GoodRw r) : ∀ r, some r ∈ List.replicate a none ++ ss ++ List.replicate b none → GoodRw r := fun r hr => by
  rcases List.mem_append.mp hr with hr | hr
  · rcases List.mem_append.mp hr with hr | hr
    · exact absurd (List.eq_of_mem_replicate hr) (by simp)
    · exact h r hr
  · exact absurd (List.eq_of_mem_replicate hr) (by simp)
theorem Bds.mid {C : Addr} {H : Hp} {xs : List V} {ss : List (Option Rw)} (h : Bds C H xs ss) (a b : Nat) : Bds C H (List.replicate a .non ++ xs ++ List.replicate b .non) (List.replicate a none ++ ss ++ List.replicate b none) := by
  have hl := h.len
  refine ⟨by simp [hl], fun i v hv => ?_⟩
  by_cases h1 : i < a
  · rw [List.append_assoc, List.getElem?_append_left (by rw [List.length_replicate]; exact h1), List.getElem?_replicate, if_pos h1] at hv ⊢
    cases hv
    exact ⟨none, rfl, .inl ⟨rfl, rfl⟩⟩
  · rw [List.append_assoc, List.getElem?_append_right (by rw [List.length_replicate]; omega), List.length_replicate] at hv ⊢
    by_cases h2 : i - a < xs.length
    · rw [List.getElem?_append_left h2] at hv
      rw [List.getElem?_append_left (by omega)]
      exact h.at_ _ v hv
    · rw [List.getElem?_append_right (by omega), List.getElem?_replicate] at hv
      rw [List.getElem?_append_right (by omega), List.getElem?_replicate, ← hl]
      split at hv
      · cases hv
        rename_i c
        rw [if_pos c]
        exact ⟨none, rfl, .inl ⟨rfl, rfl⟩⟩
      · cases hv
theorem bds_of {C : Addr} {H : Hp} {xs : List V} {rs : List Rw} (h : BdL C H xs rs) : Bds C H xs (rs.map some) := ⟨by rw [List.length_map]; exact h.1, fun i v hv => by
  have hi : i < rs.length := by
    rw [← h.1]
    exact (List.getElem?_eq_some_iff.mp hv).1
  obtain ⟨p, h1, h2⟩ := h.2 i _ (List.getElem?_eq_getElem hi)
  rw [h1] at hv
  cases hv
  exact ⟨some rs[i], by rw [List.getElem?_map, List.getElem?_eq_getElem hi]; rfl, .inr ⟨p, _, rfl, rfl, h2⟩⟩⟩
theorem mid_cut {C : Addr} {H : Hp} {xs : List V} {rs : List Rw} (h : BdL C H xs rs) (hG : ∀ r ∈ rs, GoodRw r) (k : Nat) : ∃ ss, Bds C H (cutV xs (some (k : Int)) (some ((k : Int) + 1))) ss ∧ ss.length ≤ 1 ∧ ∀ r, some r ∈ ss → GoodRw r := by
  have hb := bds_of h
  unfold cutV
  rw [show HT.sIx xs.length 0 (some (k : Int)) = min k xs.length from HT.sIx_nat xs.length 0 k, show HT.sIx xs.length xs.length (some ((k : Int) + 1)) = min (k + 1) xs.length from HT.sIx_nat xs.length xs.length (k + 1)]
  refine ⟨((rs.map some).drop (min k xs.length)).take (min (k + 1) xs.length - min k xs.length), ⟨?_, fun i v hv => ?_⟩, ?_, fun r hr => ?_⟩
  · simp [h.1]
  · by_cases hkj : i < min (k + 1) xs.length - min k xs.length
    · rw [List.getElem?_take_of_lt hkj, List.getElem?_drop] at hv ⊢
      exact hb.at_ _ v hv
    · rw [List.getElem?_eq_none (by rw [List.length_take]; omega)] at hv
      cases hv
  · rw [List.length_take]
    omega
  · have := List.mem_of_mem_drop (List.mem_of_mem_take hr)
    rw [List.mem_map] at this
    obtain ⟨r', h1, h2⟩ := this
    cases h2
    exact hG r h1
/-- the row of a string that a law's turn made -/
def GoodS (rs : List (Option Rw)) : Prop := One rs ∧ rs.length ≤ 10 ∧ ∀ r, some r ∈ rs → GoodRw r
end
end KB
namespace KB
open PySem PySem.Spec PyProof.Rows L2 KA LamX
open Sx (ok_Share_init ok_Share_repr ok_common_part)
open Lo (ok_Lot_init ok_Lot_len ok_Lot_str)
section
variable {P : Program} {w : World} {K : PySem.W.Frag} {mg : Str → Option Value} {base : Heap}
/-- what the law holds of the strings to be: their rows as lists of beads and as lists of parts -/
def RowAt (C d sl pl : Addr) (H : Hp) (v u : V) (rs : List (Option Rw)) : Prop := ∃ (a p : Addr) (xs ps : List V), v = .ref a ∧ u = .ref p ∧ (a ≠ d ∧ a ≠ sl ∧ a ≠ pl) ∧ (p ≠ d ∧ p ≠ sl ∧ p ≠ pl) ∧ H a = some (.lst xs) ∧ Bds C H xs rs ∧ H p = some (.lst ps) ∧ Pts H ps rs
structure RowsAt (C d sl pl : Addr) (H : Hp) (RS : List (List (Option Rw))) : Prop where
  ex : ∃ acc pac : List V, H sl = some (.lst acc) ∧ H pl = some (.lst pac) ∧ acc.length = RS.length ∧ pac.length = RS.length ∧ ∀ (j : Nat) rs, RS[j]? = some rs → ∃ v u, acc[j]? = some v ∧ pac[j]? = some u ∧ RowAt C d sl pl H v u rs
theorem RowAt.step {C d sl pl : Addr} {H H' : Hp} {v u : V} {rs : List (Option Rw)} (h : RowAt C d sl pl H v u rs) (nl : NL H H') (kp : ∀ b o, b ≠ d → b ≠ sl → b ≠ pl → H b = some o → H' b = some o) : RowAt C d sl pl H' v u rs := by
  obtain ⟨a, p, xs, ps, h1, h2, n1, n2, h3, h4, h5, h6⟩ := h
  exact ⟨a, p, xs, ps, h1, h2, n1, n2, kp _ _ n1.1 n1.2.1 n1.2.2 h3, h4.same nl, kp _ _ n2.1 n2.2.1 n2.2.2 h5, h6.nl nl⟩
theorem RowsAt.but {C d sl pl : Addr} {H H' : Hp} {RS : List (List (Option Rw))} (n1 : sl ≠ d) (n2 : pl ≠ d) (h : RowsAt C d sl pl H RS) (nl : NL H H') (b : But d H H') : RowsAt C d sl pl H' RS := by
  obtain ⟨acc, pac, e1, e2, l1, l2, g⟩ := h.ex
  refine ⟨acc, pac, b _ _ n1 e1, b _ _ n2 e2, l1, l2, fun j rs hj => ?_⟩
  obtain ⟨v, u, h1, h2, h3⟩ := g j rs hj
  exact ⟨v, u, h1, h2, h3.step nl fun c o m _ _ e => b c o m e⟩
theorem bds_shows {X : Cx} (T : Tx X.K X.mg) {J : Hp} {ys : List V} {rs : List (Option Rw)} (hY : Bds T.C_Bead J ys rs) (hG : ∀ r, some r ∈ rs → GoodRw r) : ∀ (k : Nat) x tx, ys[k]? = some x → (rs.map beadR)[k]? = some tx → Shows X 1 x tx J := by
  intro k x tx hx htx
  obtain ⟨o, ho, hv⟩ := hY.at_ k x hx
  rw [List.getElem?_map, ho] at htx
  cases htx
  rcases hv with ⟨rfl, rfl⟩ | ⟨p, r, rfl, rfl, dp, hp⟩
  · exact shows_non
  · refine shows_own (E := E0) (ok_Bead_repr (P := X.prog) (w := X.w) (base := X.base) T) T.m_Bead_repr.at_ T.m_Bead_repr.fn T.b_Bead_repr pass0 hp fun H1 Q s1 q => ?_
    refine ⟨p, r, rfl, ⟨dp, s1 _ _ hp⟩, hG r (List.mem_of_getElem? ho), fun H' y hy _ s2 => ?_⟩
    rw [reprS_of hy]
    exact q H' s2
theorem rep_flat (a : Nat) : (List.replicate ((a : Int)).toNat [V.non]).flatten = List.replicate a V.non := by
  rw [Int.toNat_natCast]
  induction a with
  | zero => rfl
  | succ a ih => rw [List.replicate_succ, List.flatten_cons, ih, List.replicate_succ]; rfl
def u0 : Rl := ⟨0, 10 ^ 9, 10 ^ 6, false⟩
def u1 : Rl := ⟨0, 10 ^ 9, 10 ^ 6, true⟩
def spStrings (C : Addr) : Sp := fun vs H Q _ => ∃ (d l D : Addr) (n : Nat) (xs ys : List V) (rs : List Rw), vs = [.ref d, .ref l, .ref D] ∧ Dr PM d n H ∧ n ≤ 1000 ∧ l ≠ d ∧ D ≠ d ∧ H l = some (.lst xs) ∧ H D = some (.lst ys) ∧ RwL H xs rs ∧ BdL C H ys rs ∧ 2 ≤ rs.length ∧ rs.length ≤ 100 ∧ (∀ r ∈ rs, GoodRw r) ∧ ∀ H', But d H H' → Dr PM d (n + 8) H' → Q (.bl true) H'
theorem ok_strings (T : Tx K mg) : FnG P w K mg base CX0 13 T.A_strings T.fd_strings ["_law_draws_here", "_law_rows_here", "_law_beads_here"] (spStrings T.C_Bead) := by
  refine fun_okG T.F_strings sc_strings (fun vs H Q E h => ?_) (fun cdv A outer s H vs Q E hr gd h => ?_)
  · obtain ⟨d, l, D, n, xs, ys, rs, rfl, dr, hn, nld, nDd, el, eD, hX, hY, h2r, hlen, hG, q⟩ := h
    rfl
  obtain ⟨d, l, D, n, xs, ys, rs, rfl, dr, hn, nld, nDd, el, eD, hX, hY, h2r, hlen, hG, q⟩ := h
  refine ⟨_, (pss_cons (ps_set (i := 3) sc_strings.nd rfl (Or.inr rfl) (pe_makeK0 T.mk_Rule (ok_Rule_init T) (hr.mono (by decide)) (by rfl) T.g_Rule T.kb_3 pass0 (pk_cons (pe_op op_pow pe_int pe_int) (pk_cons (pe_op op_pow pe_int pe_int) (pk_cons pe_bl pk_nil)))))
      (pss_cons (ps_setLc (i := 4) (own := [("_law_bead", 14)]) (g := gName 14) (tt := tYes) rfl sc_strings.nd rfl rfl (sw_true rfl rfl rfl (by decide +kernel)) (pi_list (pe_slice sl_list (pv 2) po_none (po_some pe_int))) (blkOk_by (N := ["_law_draws_here", "_law_rows_here", "_law_beads_here", "_law_ordered", "_law_some", "_law_parts", "_law_k", "_law_gap", "_law_strings_here", "_law_string", "_law_part", "_law_other", "_law_one", "_law_text", "_law_bead", "_law_row_here"]) (sc := defScope s_strings) (by decide +kernel)) (fun _ _ _ _ _ => (pg_name (i := 14) sc_strings.nd rfl (Or.inl rfl))) (fun _ _ _ _ _ => pts_nil) (fun _ _ _ _ _ => (pe_lst (pa_cons (pv 14) pa_nil))))
      (pss_cons (ps_setLc (i := 5) (own := [("_law_row_here", 15)]) (g := gName 15) (tt := tYes) rfl sc_strings.nd rfl rfl (sw_true rfl rfl rfl (by decide +kernel)) (pi_list (pe_slice sl_list (pv 1) po_none (po_some pe_int))) (blkOk_by (N := ["_law_draws_here", "_law_rows_here", "_law_beads_here", "_law_ordered", "_law_some", "_law_parts", "_law_k", "_law_gap", "_law_strings_here", "_law_string", "_law_part", "_law_other", "_law_one", "_law_text", "_law_bead", "_law_row_here"]) (sc := defScope s_strings) (by decide +kernel)) (fun _ _ _ _ _ => (pg_name (i := 15) sc_strings.nd rfl (Or.inl rfl))) (fun _ _ _ _ _ => pts_nil) (fun _ _ _ _ _ => (pe_lst (pa_cons (pe_slice (sl_tupAK (K' := K) rfl) (pv 15) (po_some pe_int) po_none) pa_nil))))
      (pss_cons (ps_for PassesOwn.never rfl (pi_range1 (by rfl) T.z_range (pa_cons pe_int pa_nil)) (pg_name (i := 6) sc_strings.nd rfl (Or.inl rfl))
        (pss_cons (ps_set (i := 7) sc_strings.nd rfl (Or.inl rfl) (pe_call (ok_next T) (hr.mono (by decide)) (by rfl) T.g_next T.F_next.kp T.b_next .nil pass0 (pa_cons (pv 0) (pa_cons pe_int pa_nil))))
      (pss_cons (ps_expr (pe_bm PySem.F.plainAttrs_list PySem.F.slot_list_append PySem.F.type_list_append mt_append (pv 4) (pa_cons (pe_op op_cat (pe_op op_cat (pe_op op_rep (pe_lst (pa_cons pe_non pa_nil)) (pv 7)) (pe_slice sl_list (pv 2) (po_some (pv 6)) (po_some (pe_op op_add (pv 6) pe_int)))) (pe_op op_rep (pe_lst (pa_cons pe_non pa_nil)) (pe_call (ok_next T) (hr.mono (by decide)) (by rfl) T.g_next T.F_next.kp T.b_next .nil pass0 (pa_cons (pv 0) (pa_cons pe_int pa_nil))))) pa_nil)))
      (pss_one (ps_expr (pe_bm PySem.F.plainAttrs_list PySem.F.slot_list_append PySem.F.type_list_append mt_append (pv 5) (pa_cons (pe_lc (own := [("_law_bead", 14)]) (g := gName 14) (tt := tYes) rfl sc_strings.nd (pi_list (pe_ix ix_list (pv 4) (pe_un un_neg pe_int) (fun _ _ => rfl))) (blkOk_by (N := ["_law_draws_here", "_law_rows_here", "_law_beads_here", "_law_ordered", "_law_some", "_law_parts", "_law_k", "_law_gap", "_law_strings_here", "_law_string", "_law_part", "_law_other", "_law_one", "_law_text", "_law_bead", "_law_row_here"]) (sc := defScope s_strings) (by decide +kernel)) (fun _ _ _ _ _ => (pg_name (i := 14) sc_strings.nd rfl (Or.inl rfl))) (fun _ _ _ _ _ => pts_nil) (fun _ _ _ _ _ => (pe_ifExp (pt_cmpR op_isN (pv 14) pe_non (nomark _)) pe_non (pe_slice (sl_tupAK (K' := K) rfl) (pe_meth0 (pv 14) T.cl_Bead T.m_Bead_row (ok_Bead_row T) (hr.mono (by decide)) T.b_Bead_row .nil pass0) (po_some pe_int) po_none)))) pa_nil)))))))
      (pss_cons (ps_setLc (i := 8) (own := [("_law_one", 12)]) (g := gName 12) (tt := tYes) rfl sc_strings.nd rfl rfl (sw_true rfl rfl rfl (by decide +kernel)) (pi_list (pv 4)) (blkOk_by (N := ["_law_draws_here", "_law_rows_here", "_law_beads_here", "_law_ordered", "_law_some", "_law_parts", "_law_k", "_law_gap", "_law_strings_here", "_law_string", "_law_part", "_law_other", "_law_one", "_law_text", "_law_bead", "_law_row_here"]) (sc := defScope s_strings) (by decide +kernel)) (fun _ _ _ _ _ => (pg_name (i := 12) sc_strings.nd rfl (Or.inl rfl))) (fun _ _ _ _ _ => pts_nil) (fun _ _ _ _ _ => (pe_make T.mk_String (ok_String_init T) (hr.mono (by decide)) (by rfl) T.g_String T.b_String_init .nil pass0 (pa_cons (pe_callTy (call_list_ofK (K' := K) rfl) (by rfl) T.z_list (by decide +kernel) (pa_cons (pv 12) pa_nil)) (pa_cons (pv 3) pa_nil)))))
      (pss_cons (ps_for PassesOwn.never rfl (pi_zip (by rfl) T.z_zip (pa_cons (pv 8) (pa_cons (pv 5) pa_nil))) (pg_tup (by rfl) (pgs_cons (pg_name (i := 9) sc_strings.nd rfl (Or.inl rfl)) (pgs_cons (pg_name (i := 10) sc_strings.nd rfl (Or.inl rfl)) pgs_nil)))
        (pss_cons (ps_if (PW.pt (pw_or (pt_cmpR op_ne (pe_callB (call_lenO (E := E0) (ok_String_len T) T.m_String_len.at_ T.m_String_len.fn T.b_String_len pass0 (hr.mono (by decide))) (by rfl) T.z_len PySem.boot_len (pa_cons (pv 9) pa_nil)) (pe_callB call_len_seq (by rfl) T.z_len PySem.boot_len (pa_cons (pv 10) pa_nil)) (nomark _)) (pw_or (pt_cmpR op_ne (pe_callTy (call_boolO (E := E0) (ok_String_len T) T.bb_String T.m_String_len.at_ T.m_String_len.fn T.b_String_len pass0 (hr.mono (by decide))) (by rfl) T.z_bool (by decide +kernel) (pa_cons (pv 9) pa_nil)) (pe_cmpR (op_neB (rcB_list true monB_flat eqB_flat) (hr.mono (by decide))) (pv 10) (pe_lst pa_nil) (nomark _)) (nomark _)) (pw_or1 (pt_cmpR (op_neB (rcB_st_ne T) (hr.mono (by decide))) (pe_meth0 (pv 9) T.cl_String T.m_String_turned (ok_String_turned T) (hr.mono (by decide)) T.b_String_turned .nil pass0) (pv 9) (nomark _)))))) (pss_one (ps_ret pe_bl)) pss_nil)
      (pss_cons (ps_for PassesOwn.never rfl (pi_zip (by rfl) T.z_zip (pa_cons (pv 8) (pa_cons (pv 5) pa_nil))) (pg_tup (by rfl) (pgs_cons (pg_name (i := 11) sc_strings.nd rfl (Or.inl rfl)) (pgs_cons (pg_name (i := 12) sc_strings.nd rfl (Or.inl rfl)) pgs_nil)))
        (pss_one (ps_if (pt_cmpR op_ne (pe_cmpR (op_eqB (rcB_st T) (hr.mono (by decide))) (pv 9) (pv 11) (nomark _)) (pe_or (pe_cmpR (op_eqD hr.units) (pv 10) (pv 12) (nomark _)) (pe_one (pe_cmpR (op_eqD hr.units) (pv 10) (pe_revL (pv 12)) (nomark _)))) (nomark _)) (pss_one (ps_ret pe_bl)) pss_nil)))
      (pss_cons (ps_set (i := 13) sc_strings.nd rfl (Or.inl rfl) (pe_bm PySem.F.plainAttrs_str PySem.F.slot_str_join PySem.F.type_str_join mt_join pe_str (pa_cons (pe_lc (own := [("_law_bead", 14)]) (g := gName 14) (tt := tYes) rfl sc_strings.nd (pi_list (pe_meth0 (pv 9) T.cl_String T.m_String_beads (ok_String_beads T) (hr.mono (by decide)) T.b_String_beads .nil pass0)) (blkOk_by (N := ["_law_draws_here", "_law_rows_here", "_law_beads_here", "_law_ordered", "_law_some", "_law_parts", "_law_k", "_law_gap", "_law_strings_here", "_law_string", "_law_part", "_law_other", "_law_one", "_law_text", "_law_bead", "_law_row_here"]) (sc := defScope s_strings) (by decide +kernel)) (fun _ _ _ _ _ => (pg_name (i := 14) sc_strings.nd rfl (Or.inl rfl))) (fun _ _ _ _ _ => pts_nil) (fun _ _ _ _ _ => (pe_ifExp (pt_cmpR op_isN (pv 14) pe_non (nomark _)) pe_str (pe_callTy (call_strO (E := E0) (ok_Bead_str T) T.m_Bead_str.at_ T.m_Bead_str.fn T.b_Bead_str pass0 (hr.mono (by decide))) (by rfl) T.z_str (by decide +kernel) (pa_cons (pv 14) pa_nil))))) pa_nil)))
      (pss_one (ps_if (PW.pt (pw_or (pt_cmpR op_ne (pe_callTy (call_strO (E := E0) (ok_String_str T) T.m_String_str.at_ T.m_String_str.fn T.b_String_str pass0 (hr.mono (by decide))) (by rfl) T.z_str (by decide +kernel) (pa_cons (pv 9) pa_nil)) (pv 13) (nomark _)) (pw_or1 (pt_cmpR op_ne (pe_callB (call_reprOG (E := E0) (ok_String_repr T) T.m_String_repr.at_ T.m_String_repr.fn T.b_String_repr pass0 (hr.mono (by decide)) gd) (by rfl) T.z_repr (by decide +kernel) (pa_cons (pv 9) pa_nil)) (pe_joined (PJ.cons pe_str (PJ.cons (pe_fmtRL (n := 1) gd (hr.mono (by decide)) (pe_meth0 (pv 9) T.cl_String T.m_String_beads (ok_String_beads T) (hr.mono (by decide)) T.b_String_beads .nil pass0)) (PJ.cons pe_str (PJ.cons (pe_fmtRO (E := E0) (ok_Rule_repr T) T.m_Rule_repr.at_ T.m_Rule_repr.fn T.b_Rule_repr pass0 (hr.mono (by decide)) (pv 3)) (PJ.cons pe_str PJ.nil)))))) (nomark _))))) (pss_one (ps_ret pe_bl)) pss_nil))))))
      (pss_cons (ps_set (i := 11) sc_strings.nd rfl (Or.inl rfl) (pe_make T.mk_String (ok_String_init T) (hr.mono (by decide)) (by rfl) T.g_String T.b_String_init .nil pass0 (pa_cons (pe_callTy call_list_of (by rfl) T.z_list (by decide +kernel) (pa_cons (pe_ix ix_list (pv 4) pe_int (fun _ _ => rfl)) pa_nil)) (pa_cons (pe_makeK0 T.mk_Rule (ok_Rule_init T) (hr.mono (by decide)) (by rfl) T.g_Rule T.kb_3 pass0 (pk_cons (pe_op op_pow pe_int pe_int) (pk_cons (pe_op op_pow pe_int pe_int) (pk_cons pe_bl pk_nil)))) pa_nil))))
      (pss_one (ps_ret (pe_and (pe_cmpR (op_neB (rcB_st_ne T) (hr.mono (by decide))) (pe_ix ix_list (pv 8) pe_int (fun _ _ => rfl)) (pv 11) (nomark _)) (pe_and (pe_cmpR (op_neB (rcB_st_ne T) (hr.mono (by decide))) (pe_ix ix_list (pv 8) pe_int (fun _ _ => rfl)) (pe_ix ix_list (pv 4) pe_int (fun _ _ => rfl)) (nomark _)) (pe_one (pe_cmpR (op_own (E := E0) (ok_Rule_eq T) T.m_Rule_eq.at_ T.m_Rule_eq.fn T.b_Rule_eq pass0 (hr.mono (by decide))) (pe_fld (pv 11) rfl) (pe_make T.mk_Rule (ok_Rule_init T) (hr.mono (by decide)) (by rfl) T.g_Rule T.b_Rule_init .nil pass0 (pa_cons pe_int (pa_cons (pe_op op_pow pe_int pe_int) (pa_cons (pe_op op_pow pe_int pe_int) (pa_cons pe_bl pa_nil))))) (nomark _)))))))))))))), ?_⟩
  have hxl := hX.1
  have hyl := hY.1
  refine ⟨_, _, rfl, rfl, ⟨by decide, by decide, by decide⟩, _, _, rfl, rfl, ⟨by decide, by decide, by decide⟩, rfl, rfl, fun mo dm nmo ndm ne => ⟨mo, dm, u0, rfl, upd_same, ⟨by decide, by decide, by decide⟩, fun H1 hM1 kM => ⟨rfl, ?_⟩⟩⟩
  have s1 := made_same nmo ndm kM
  -- the single beads
  refine ⟨_, rfl, _, rfl, D, ys, rfl, SqL.of (s1 _ _ eD), fun g1 hg1 => ?_⟩
  have c4 : ∀ zs : List V, cutV zs none (some (4 : Int)) = zs.take 4 := fun zs => cut_to zs 4
  rw [c4]
  have s2 := s1.trans (same_upd hg1 (o := .lst (ys.take 4)))
  refine ⟨g1, rfl, ⟨_, SqL.of upd_same⟩, fun sl hsl => ?_⟩
  have nsd : sl ≠ d := (dr.same s2).ne hsl
  refine lc_genD (K := K) (a := g1) hsl (SqL.of upd_same) (by rw [List.length_take]; omega) (fun j v H' => ∀ r, (rs.take 4)[j]? = some r → ∃ a p, v = .ref a ∧ a ≠ sl ∧ a ≠ d ∧ p ≠ sl ∧ H' a = some (.lst [.ref p]) ∧ BeadAt T.C_Bead H' p r) (fun j v Ha Hb sn h r hr => ?_) ?_ ?_
  · obtain ⟨a, p, h1, n1, n2, n3, h2, dp, h3⟩ := h r hr
    exact ⟨a, p, h1, n1, n2, n3, sn _ _ n1 h2, dp, sn _ _ n3 h3⟩
  · intro j x I2 R C hj z2 hsl2 hRv
    have hj4 : j < (ys.take 4).length := (List.getElem?_eq_some_iff.mp hj).1
    rw [List.length_take] at hj4
    have hjr : j < rs.length := by omega
    obtain ⟨p, h1, dp, hp⟩ := hY.2 j _ (List.getElem?_eq_getElem hjr)
    rw [List.getElem?_take, if_pos (by omega), h1] at hj
    cases hj
    refine ⟨rfl, yesT ⟨_, rfl, (by show 1 ≤ sizeLine; decide), fun a ha => ?_⟩⟩
    have za := same_upd ha (o := .lst [V.ref p])
    refine hRv _ _ za fun r hr => ?_
    rw [List.getElem?_take, if_pos (by omega), List.getElem?_eq_getElem hjr] at hr
    cases hr
    have hp2 := (s2.trans z2) _ _ hp
    refine ⟨a, p, rfl, fun e => ?_, ((dr.same s2).same z2).ne ha, ne_of_none (s2 _ _ hp) hsl, upd_same, dp, za _ _ hp2⟩
    obtain ⟨acc, e2⟩ := hsl2
    rw [e, e2] at ha
    cases ha
  intro H4 acc s4 esl lacc gacc
  have m4 := (same_upd hg1 (o := .lst (ys.take 4))).trans s4
  have s4 := s2.trans s4
  have lacc : acc.length = (rs.take 4).length := by rw [lacc, List.length_take, List.length_take, hyl]
  -- the single rows
  refine ⟨_, rfl, _, rfl, l, xs, rfl, SqL.of (s4 _ _ el), fun g5 hg5 => ?_⟩
  rw [c4]
  have z5 := same_upd hg5 (o := .lst (xs.take 4))
  have s5 := s4.trans z5
  refine ⟨g5, rfl, ⟨_, SqL.of upd_same⟩, fun pl hpl => ?_⟩
  have npd : pl ≠ d := (dr.same s5).ne hpl
  have nps : pl ≠ sl := (ne_of_none (z5 _ _ esl) hpl).symm
  refine lc_genD (K := K) (a := g5) hpl (SqL.of upd_same) (by rw [List.length_take]; omega) (fun j v H' => ∀ r, (rs.take 4)[j]? = some r → ∃ p t, v = .ref p ∧ (p ≠ d ∧ p ≠ sl ∧ p ≠ pl) ∧ t ≠ pl ∧ H' p = some (.lst [.ref t]) ∧ H' t = some (.tup (tailV r))) (fun j v Ha Hb sn h r hr => ?_) ?_ ?_
  · obtain ⟨a, p, h1, n1, n2, h2, h3⟩ := h r hr
    exact ⟨a, p, h1, n1, n2, sn _ _ n1.2.2 h2, sn _ _ n2 h3⟩
  · intro j x I2 R C hj z2 hpl2 hRv
    have hj4 : j < (xs.take 4).length := (List.getElem?_eq_some_iff.mp hj).1
    rw [List.length_take] at hj4
    have hjr : j < rs.length := by omega
    obtain ⟨t, h1, ht⟩ := hX.2 j _ (List.getElem?_eq_getElem hjr)
    rw [List.getElem?_take, if_pos (by omega), h1] at hj
    cases hj
    obtain ⟨pacc, epl2⟩ := hpl2
    refine ⟨rfl, yesT ⟨_, rfl, 1, rfl, nopart (sla_of ((s5.trans z2) _ _ ht) fun I3 t3 z3 e3 => ?_)⟩⟩
    refine ⟨(by show 1 ≤ sizeLine; decide), fun a ha => ?_⟩
    have za := same_upd ha (o := .lst [V.ref t3])
    refine hRv _ _ (z3.trans za) fun r hr => ?_
    rw [List.getElem?_take, if_pos (by omega), List.getElem?_eq_getElem hjr] at hr
    cases hr
    have k3 : Same H I3 := (s5.trans z2).trans z3
    refine ⟨a, t3, rfl, ⟨(dr.same k3).ne ha, (ne_of_none ((z5.trans (z2.trans z3)) _ _ esl) ha).symm, (ne_of_none (z3 _ _ epl2) ha).symm⟩, fun e => ?_, upd_same, za _ _ e3⟩
    have := z3 _ _ epl2
    rw [← e, e3] at this
    cases this
  intro H6 pac s6 epl lpac gpac
  have s6' := z5.trans s6
  have s06 := s4.trans s6'
  have lpac : pac.length = (rs.take 4).length := by rw [lpac, List.length_take, List.length_take, hxl]
  have esl6 := s6' _ _ esl
  have hR6 : RowsAt T.C_Bead d sl pl H6 ((rs.take 4).map fun r => [some r]) := ⟨acc, pac, esl6, epl, by rw [List.length_map, lacc], by rw [List.length_map, lpac], fun j ss hj => by
    rw [List.getElem?_map] at hj
    cases hr : (rs.take 4)[j]? with
    | none => rw [hr] at hj; cases hj
    | some r =>
      rw [hr] at hj
      cases hj
      have hjl : j < (rs.take 4).length := (List.getElem?_eq_some_iff.mp hr).1
      obtain ⟨a, p, h1, n1, n2, n3, h2, h3⟩ := gacc j _ (List.getElem?_eq_getElem (by omega)) r hr
      obtain ⟨p', t, k1, m1, m2, k2, k3⟩ := gpac j _ (List.getElem?_eq_getElem (by omega)) r hr
      refine ⟨_, _, List.getElem?_eq_getElem (by omega), List.getElem?_eq_getElem (by omega), a, p', [.ref p], [.ref t], h1, k1, ⟨n2, n1, ne_of_none (z5 _ _ h2) hpl⟩, m1, s6' _ _ h2, ⟨rfl, fun i v hv => ?_⟩, k2, ⟨rfl, fun i v hv => ?_⟩⟩
      · match i, hv with
        | 0, hv =>
          cases hv
          obtain ⟨dp, hp⟩ := h3
          exact ⟨some r, rfl, .inr ⟨p, r, rfl, rfl, dp, s6' _ _ hp⟩⟩
        | i + 1, hv => simp at hv
      · match i, hv with
        | 0, hv =>
          cases hv
          exact ⟨some r, rfl, .inr ⟨t, r, rfl, rfl, k3⟩⟩
        | i + 1, hv => simp at hv⟩
  have hS6 : ∀ ss ∈ (rs.take 4).map (fun r => [some r]), GoodS ss := fun ss hss => by
    obtain ⟨r, hr, rfl⟩ := List.mem_map.mp hss
    exact ⟨one_single _, by show 1 ≤ 10; decide, fun r' hr' => by
      rw [List.mem_singleton] at hr'
      cases hr'
      exact hG r (List.mem_of_mem_take hr)⟩
  have l1 : 1 ≤ ((rs.take 4).map fun r => [some r]).length := by rw [List.length_map, List.length_take]; omega
  have l4 : ((rs.take 4).map fun r => [some r]).length ≤ 4 := by rw [List.length_map, List.length_take]; omega
  generalize (rs.take 4).map (fun r => [some r]) = RS0 at hR6 hS6 l1 l4
  obtain ⟨dm2, hM⟩ := hM1
  clear gacc gpac epl esl lacc lpac
  have mod_ : mo ≠ d := dr.ne nmo
  have nsl : H sl = none := s2.free hsl
  have npl : H pl = none := s5.free hpl
  refine ⟨_, rfl, by decide, by decide, for_range (lo := 0) (n := 4) (fun i σ H' => ∃ w6 w7 RS, σ = [some (.ref d), some (.ref l), some (.ref D), some (.ref mo), some (.ref sl), some (.ref pl), w6, w7, none, none, none, none, none, none, none, none] ∧ RowsAt T.C_Bead d sl pl H' RS ∧ (∀ ss ∈ RS, GoodS ss) ∧ RS.length ≤ 4 + i ∧ 1 ≤ RS.length ∧ But d H H' ∧ Dr PM d (n + 2 * i) H' ∧ RuleAt T.C_Rule H' mo u0) ⟨_, _, RS0, rfl, hR6, hS6, l4, l1, But.of s06, dr.same s06, dm2, ?_⟩ ?_ ?_⟩
  · exact (m4.trans s6') _ _ hM
  · rintro i σ H7 hi ⟨w6, w7, RS, rfl, hR, hS, hl4, hl1, b7, dr7, hM7⟩
    obtain ⟨acc, pac, esl, epl, la, lp, g⟩ := hR.ex
    have e63 : (2 : Int) ^ 63 = 9223372036854775808 := by decide
    rw [show (0 + (i : Int)) = i from Int.zero_add _]
    refine ⟨_, rfl, d, 3, _, rfl, by decide, log_tiny (by decide) (by decide), dr7, by omega, fun H8 v1 a1 c1 b8 dr8 => ?_⟩
    obtain ⟨a, rfl⟩ : ∃ a : Nat, v1 = (a : Int) := ⟨v1.toNat, by omega⟩
    refine ⟨_, rfl, .inl ⟨rfl, _, SqL.of (b8 _ _ nsd esl)⟩, ?_⟩
    refine ⟨(by show 1 ≤ sizeLine; decide), fun q1 hq1 => ⟨_, rfl, q1, _, _, rfl, rfl, upd_same, by rw [e63]; omega, by rw [e63]; omega, Nat.le_trans (show 1 * ((a : Int)).toNat ≤ 100 by omega) (by decide), fun q2 hq2 => ?_⟩⟩
    rw [rep_flat]
    have z1 := same_upd hq1 (o := .lst [V.non])
    have z2 := same_upd hq2 (o := .lst (List.replicate a V.non))
    refine ⟨_, rfl, _, rfl, _, rfl, _, rfl, _, _, rfl, rfl, _, rfl, D, ys, rfl, SqL.of (z2 _ _ (z1 _ _ (b8 _ _ nDd (b7 _ _ nDd eD)))), fun q3 hq3 => ?_⟩
    have z3 := same_upd hq3 (o := .lst (cutV ys (some (i : Int)) (some ((i : Int) + 1))))
    obtain ⟨ss, hB0, hs1, hsG⟩ := mid_cut (hY.nl ((dr_nl dr b7).trans (dr_nl dr7 b8))) hG i
    have lcut : (cutV ys (some (i : Int)) (some ((i : Int) + 1))).length ≤ 1 := by rw [hB0.len]; exact hs1
    generalize cutV ys (some (i : Int)) (some ((i : Int) + 1)) = cs at hB0 lcut z3
    refine ⟨q2, q3, _, _, rfl, rfl, z3 _ _ upd_same, upd_same, Nat.le_trans (show (List.replicate a V.non).length + cs.length ≤ 100 by rw [List.length_replicate]; omega) (by decide), fun q4 hq4 => ?_⟩
    have z4 := same_upd hq4 (o := .lst (List.replicate a V.non ++ cs))
    refine ⟨(by show 1 ≤ sizeLine; decide), fun q5 hq5 => ?_⟩
    have z5 := same_upd hq5 (o := .lst [V.non])
    have z14 := (z1.trans z2).trans (z3.trans z4)
    have z15 := z14.trans z5
    have dr5 := dr8.same z15
    have n4d : q4 ≠ d := (dr8.same ((z1.trans z2).trans z3)).ne hq4
    have n5d : q5 ≠ d := (dr8.same z14).ne hq5
    refine ⟨_, rfl, d, 3, _, rfl, by decide, log_tiny (by decide) (by decide), dr5, by omega, fun H9 v2 a2 c2 b9 dr9 => ?_⟩
    obtain ⟨b, rfl⟩ : ∃ b : Nat, v2 = (b : Int) := ⟨v2.toNat, by omega⟩
    refine ⟨q5, _, _, rfl, rfl, b9 _ _ n5d upd_same, by rw [e63]; omega, by rw [e63]; omega, Nat.le_trans (show 1 * ((b : Int)).toNat ≤ 100 by omega) (by decide), fun q6 hq6 => ?_⟩
    rw [rep_flat]
    have z6 := same_upd hq6 (o := .lst (List.replicate b V.non))
    refine ⟨q4, q6, _, _, rfl, rfl, z6 _ _ (b9 _ _ n4d (z5 _ _ upd_same)), upd_same, Nat.le_trans (show (List.replicate a V.non ++ cs).length + (List.replicate b V.non).length ≤ 100 by rw [List.length_append, List.length_replicate, List.length_replicate]; omega) (by decide), fun q7 hq7 => ?_⟩
    have z7 := same_upd hq7 (o := .lst (List.replicate a V.non ++ cs ++ List.replicate b V.non))
    have z67 := z6.trans z7
    -- all that stood
    have bA : But d H7 (upd (upd H9 q6 (.lst (List.replicate b V.non))) q7 (.lst (List.replicate a V.non ++ cs ++ List.replicate b V.non))) := (b8.trans (But.of z15)).trans (b9.trans (But.of z67))
    have nlA : NL H7 (upd (upd H9 q6 (.lst (List.replicate b V.non))) q7 (.lst (List.replicate a V.non ++ cs ++ List.replicate b V.non))) := ((dr_nl dr7 b8).trans (NL.of z15)).trans ((dr_nl dr5 b9).trans (NL.of z67))
    have drA := dr9.same z67
    have hBA := ((hB0.same (NL.of z15)).same ((dr_nl dr5 b9).trans (NL.of z67))).mid a b
    have e7A : (upd (upd H9 q6 (.lst (List.replicate b V.non))) q7 (.lst (List.replicate a V.non ++ cs ++ List.replicate b V.non))) q7 = some (.lst (List.replicate a V.non ++ cs ++ List.replicate b V.non)) := upd_same
    have n7d : q7 ≠ d := (dr9.same z6).ne hq7
    have n7s : q7 ≠ sl := (ne_of_none (z6 _ _ (b9 _ _ nsd (z15 _ _ (b8 _ _ nsd esl)))) hq7).symm
    have n7p : q7 ≠ pl := (ne_of_none (z6 _ _ (b9 _ _ npd (z15 _ _ (b8 _ _ npd epl)))) hq7).symm
    revert bA nlA drA hBA e7A
    generalize upd (upd H9 q6 (.lst (List.replicate b V.non))) q7 (.lst (List.replicate a V.non ++ cs ++ List.replicate b V.non)) = HA
    have gsN : GoodS (List.replicate a none ++ ss ++ List.replicate b none) := ⟨one_mid hs1, by rw [List.length_append, List.length_append, List.length_replicate, List.length_replicate]; omega, good_mid hsG⟩
    have lN : (List.replicate a V.non ++ cs ++ List.replicate b V.non).length ≤ 100 := by rw [List.length_append, List.length_append, List.length_replicate, List.length_replicate]; omega
    generalize List.replicate a V.non ++ cs ++ List.replicate b V.non = vN at lN ⊢
    generalize List.replicate a none ++ ss ++ List.replicate b none = rN at gsN ⊢
    intro bA nlA drA hBA e7A
    clear z1 z2 z3 z4 z5 z6 z7 z14 z15 z67 b8 b9 dr8 dr9 dr5 hB0 hs1 hsG lcut n4d n5d
    have eslA := bA _ _ nsd esl
    refine ⟨sl, acc, _, rfl, rfl, eslA, Nat.lt_of_le_of_lt (show acc.length ≤ 100 by omega) (by decide), ?_⟩
    have nB : NL HA (upd HA sl (.lst (acc ++ [.ref q7]))) := NL.at_ eslA
    have bB : But sl HA (upd HA sl (.lst (acc ++ [.ref q7]))) := But.at_
    have drB := drA.upd nsd (o := .lst (acc ++ [.ref q7]))
    have eslB : (upd HA sl (.lst (acc ++ [.ref q7]))) sl = some (.lst (acc ++ [.ref q7])) := upd_same
    revert nB bB drB eslB
    generalize upd HA sl (.lst (acc ++ [.ref q7])) = HB
    intro nB bB drB eslB
    have eplB := bB _ _ nps (bA _ _ npd epl)
    have e7B := bB _ _ n7s e7A
    have hBB := hBA.same nB
    refine ⟨_, rfl, .inl ⟨rfl, _, SqL.of eplB⟩, ?_⟩
    refine ⟨_, rfl, _, rfl, sl, _, _, _, rfl, rfl, SqL.of eslB, atI_last _ _, q7, rfl, ⟨_, SqL.of e7B⟩, fun D8 hD8 => ?_⟩
    refine lc_gen (K := K) (a := q7) hD8 (SqL.of e7B) (by omega) (fun j v H' => ∀ o, rN[j]? = some o → PartV H' v o) (fun j v Ha Hb sn h o ho => (h o ho).nl sn) ?_ ?_
    · intro j x I2 R C hj z2 hRv
      obtain ⟨o, ho, hv⟩ := hBB.at_ j x hj
      rcases hv with ⟨rfl, rfl⟩ | ⟨p, r, rfl, rfl, hp⟩
      · refine ⟨rfl, yesT ⟨_, rfl, rfl, _, rfl, iteT ?_⟩⟩
        refine hRv _ _ (Same.refl _) fun o' ho' => ?_
        rw [ho] at ho'
        cases ho'
        exact .inl ⟨rfl, rfl⟩
      · obtain ⟨dp, hp2⟩ := hp.nl (NL.of z2)
        refine ⟨rfl, yesT ⟨_, rfl, rfl, _, rfl, iteF ?_⟩⟩
        refine ⟨_, rfl, p, dp, _, rfl, hp2, bf_no _ (by decide +kernel) (by decide +kernel) (by decide +kernel) (by decide +kernel) (by decide +kernel) (by decide +kernel), p, r, rfl, ⟨dp, hp2⟩, fun t ht => ?_⟩
        have zt := same_upd ht (o := .tup (rowVals r))
        refine ⟨1, rfl, nopart (sla_of upd_same fun I3 t3 z3 e3 => ?_)⟩
        refine hRv _ _ (zt.trans z3) fun o' ho' => ?_
        rw [ho] at ho'
        cases ho'
        exact .inr ⟨t3, r, rfl, rfl, e3⟩
    intro H10 vp s10 e10 lvp gvp
    have hP10 : Pts H10 vp rN := ⟨by rw [lvp, hBB.len], fun j v hv => by
      have hjr : j < rN.length := by
        rw [← hBB.len, ← lvp]
        exact (List.getElem?_eq_some_iff.mp hv).1
      exact ⟨_, List.getElem?_eq_getElem hjr, gvp j v hv _ (List.getElem?_eq_getElem hjr)⟩⟩
    have epl10 := s10 _ _ eplB
    have nC := NL.at_ epl10 (o := .lst (pac ++ [.ref D8]))
    have n8d : D8 ≠ d := drB.ne hD8
    have n8s : D8 ≠ sl := (ne_of_none eslB hD8).symm
    have n8p : D8 ≠ pl := (ne_of_none eplB hD8).symm
    refine ⟨pl, pac, _, rfl, rfl, epl10, Nat.lt_of_le_of_lt (show pac.length ≤ 100 by omega) (by decide), ?_⟩
    have nAll : NL H7 (upd H10 pl (.lst (pac ++ [.ref D8]))) := ((nlA.trans nB).trans (NL.of s10)).trans nC
    have kAll : ∀ c o, c ≠ d → c ≠ sl → c ≠ pl → H7 c = some o → (upd H10 pl (.lst (pac ++ [.ref D8]))) c = some o := fun c o n1 n2 n3 e => by
      rw [upd_ne n3]
      exact s10 _ _ (bB _ _ n2 (bA _ _ n1 e))
    refine ⟨_, _, RS ++ [rN], rfl, ⟨acc ++ [.ref q7], pac ++ [.ref D8], ?_, upd_same, by rw [List.length_append, List.length_append, la]; rfl, by rw [List.length_append, List.length_append, lp]; rfl, fun j rr hj => ?_⟩, fun rr hr => ?_, by rw [List.length_append, List.length_singleton]; omega, by rw [List.length_append]; omega, fun c o n1 e => ?_, (((drB.same s10).upd npd).mono (by omega)), ?_⟩
    · rw [upd_ne nps.symm]
      exact s10 _ _ eslB
    · by_cases hjl : j < RS.length
      · rw [List.getElem?_append_left hjl] at hj
        obtain ⟨v, u, h1, h2, h3⟩ := g j rr hj
        exact ⟨v, u, by rw [List.getElem?_append_left (by omega)]; exact h1, by rw [List.getElem?_append_left (by omega)]; exact h2, h3.step nAll kAll⟩
      · rw [List.getElem?_append_right (by omega)] at hj
        have hj0 : j - RS.length = 0 := by
          have := (List.getElem?_eq_some_iff.mp hj).1
          rw [List.length_singleton] at this
          omega
        have hje : j = RS.length := by omega
        rw [hj0] at hj
        cases hj
        refine ⟨.ref q7, .ref D8, by rw [List.getElem?_append_right (by omega), la, hj0]; rfl, by rw [List.getElem?_append_right (by omega), lp, hj0]; rfl, q7, D8, vN, vp, rfl, rfl, ⟨n7d, n7s, n7p⟩, ⟨n8d, n8s, n8p⟩, ?_, hBB.same ((NL.of s10).trans nC), ?_, hP10.nl nC⟩
        · rw [upd_ne n7p]
          exact s10 _ _ e7B
        · rw [upd_ne n8p]
          exact e10
    · rcases List.mem_append.mp hr with h | h
      · exact hS rr h
      · rw [List.mem_singleton.mp h]
        exact gsN
    · have n2 : c ≠ sl := ne_of_none e nsl
      have n3 : c ≠ pl := ne_of_none e npl
      exact kAll c o n1 n2 n3 (b7 _ _ n1 e)
    · obtain ⟨dq, hq⟩ := hM7
      exact ⟨dq, nAll _ _ (fun _ z => by cases z) hq⟩
  · rintro σ H7 ⟨w6, w7, RS, rfl, hR, hS, hl4, hl1, b7, dr7, hM7⟩
    obtain ⟨acc, pac, esl, epl, la, lp, g⟩ := hR.ex
    have e63 : (2 : Int) ^ 63 = 9223372036854775808 := by decide
    refine ⟨_, rfl, sl, rfl, ⟨_, SqL.of esl⟩, fun st hst => ?_⟩
    refine lc_gen (K := K) (a := sl) hst (SqL.of esl) (by omega) (fun j v H' => ∀ ss, RS[j]? = some ss → ∃ s, v = .ref s ∧ SV T.C_Bead T.C_Rule T.C_String H' s ss u0) (fun j v Ha Hb sn h ss hs => ?_) ?_ ?_
    · obtain ⟨s, h1, h2⟩ := h ss hs
      exact ⟨s, h1, h2.nl sn⟩
    · intro j x I2 R C hj z2 hRv
      have hjr : j < RS.length := by
        rw [← la]
        exact (List.getElem?_eq_some_iff.mp hj).1
      obtain ⟨v, u, h1, h2, a, p, xs', ps, rfl, rfl, n1, n2, h3, h4, h5, h6⟩ := g j _ (List.getElem?_eq_getElem hjr)
      rw [h1] at hj
      cases hj
      have gs := hS _ (List.getElem_mem hjr)
      refine ⟨rfl, yesT ⟨_, rfl, a, xs', rfl, .inl (SqL.of (z2 _ _ h3)), fun b hb => ⟨_, rfl, fun s dx ns ndx ne => ?_⟩⟩⟩
      have zb := same_upd hb (o := .lst xs')
      have zs : Same (upd I2 b (.lst xs')) (upd (upd (upd I2 b (.lst xs')) dx (.own s)) s (.ins T.C_String dx [])) := fun c o e => by
        rw [upd_ne (ne_of_none e ns), upd_ne (ne_of_none e ndx)]
        exact e
      have zz := (z2.trans zb).trans zs
      obtain ⟨dq, hq⟩ := hM7
      refine ⟨s, dx, b, mo, xs', RS[j], u0, rfl, upd_same, SqL.of (zs _ _ upd_same), h4.same (NL.of zz), ⟨dq, zz _ _ hq⟩, by have := gs.2.1; omega, one_bar gs.1 (by decide), fun H' t hs ht k => ⟨rfl, ?_⟩⟩
      have z3 : Same I2 H' := fun c o e => k c o ((zb.trans zs) _ _ e) (ne_of_none (zb _ _ e) ns)
      refine hRv _ _ z3 fun ss hss => ?_
      rw [List.getElem?_eq_getElem hjr] at hss
      cases hss
      have z4 := z2.trans z3
      exact ⟨s, rfl, t, mo, xs', hs, ht, h4.same (NL.of z4), dq, z4 _ _ hq⟩
    intro H8 sv s8 est lsv gsv
    have lsv : sv.length = RS.length := by rw [lsv, la]
    have epl8 := s8 _ _ epl
    have g8 : ∀ (j : Nat) ss, RS[j]? = some ss → ∃ s p ps, sv[j]? = some (.ref s) ∧ pac[j]? = some (.ref p) ∧ SV T.C_Bead T.C_Rule T.C_String H8 s ss u0 ∧ H8 p = some (.lst ps) ∧ Pts H8 ps ss := fun j ss hj => by
      have hjr := (List.getElem?_eq_some_iff.mp hj).1
      obtain ⟨v, u, h1, h2, a, p, xs', ps, rfl, rfl, n1, n2, h3, h4, h5, h6⟩ := g j ss hj
      obtain ⟨s, k1, k2⟩ := gsv j _ (List.getElem?_eq_getElem (by omega)) ss hj
      exact ⟨s, p, ps, by rw [List.getElem?_eq_getElem (by omega), k1], h2, k2, s8 _ _ h5, h6.nl (NL.of s8)⟩
    have mn : min sv.length pac.length = RS.length := by omega
    refine ⟨_, rfl, _, rfl, st, pl, sv, pac, rfl, SqL.of est, SqL.of epl8, for_it (walk_zip (K := K) (a := st) (b := pl) (xs := sv) (ys := pac) rfl) (fun i σ H' => ∃ w9 w10 w11 w12 w13, σ = [some (.ref d), some (.ref l), some (.ref D), some (.ref mo), some (.ref sl), some (.ref pl), w6, w7, some (.ref st), w9, w10, w11, w12, w13, none, none] ∧ Same H8 H') ⟨_, _, _, _, _, rfl, Same.refl _⟩ (fun i σ H' _ h => ?_) ?_ ?_⟩
    · obtain ⟨_, _, _, _, _, _, z⟩ := h
      exact ⟨SqL.of (z _ _ est), SqL.of (z _ _ epl8)⟩
    · rintro i x σ I1 I2 hi ⟨w9, w10, w11, w12, w13, rfl, y1⟩ ⟨tt, x1, x2, rfl, nt, rfl, c1, c2⟩
      have hir : i < RS.length := by omega
      obtain ⟨s, p, ps, h1, h2, hsv, hp, hP⟩ := g8 i _ (List.getElem?_eq_getElem hir)
      have c1 : sv[i]? = some x1 := c1
      have c2 : pac[i]? = some x2 := c2
      rw [h1] at c1
      cases c1
      rw [h2] at c2
      cases c2
      have gs := hS _ (List.getElem_mem hir)
      generalize RS[i] = ss at hsv hP gs
      have zt := same_upd nt (o := .tup [V.ref s, .ref p])
      refine ⟨tt, _, rfl, .inl (.inl upd_same), rfl, _, _, rfl, _, _, rfl, rfl, ?_⟩
      have y2 := y1.trans zt
      revert y2
      generalize upd I1 tt (.tup [V.ref s, .ref p]) = I2
      intro y2
      clear y1 zt nt
      obtain ⟨t0, m0, xs0, ⟨dx, hs8⟩, ht8, hB8, dm8, hm8⟩ := id hsv.ex
      have hs2 := y2 _ _ hs8
      have hlen := gs.2.1
      refine ⟨_, rfl, s, dx, _, rfl, hs2, s, ss, u0, rfl, hsv.same y2, by omega, _, rfl, by omega, by rw [e63]; omega, ?_⟩
      refine ⟨_, rfl, p, ps, rfl, .inl (SqL.of (y2 _ _ hp)), rfl, _, rfl, ?_⟩
      rw [decide_eq_true (show V.int ((ss.length : Nat) : Int) = V.int ((ps.length : Nat) : Int) by rw [hP.len])]
      refine iteF ?_
      refine ⟨_, rfl, s, dx, _, rfl, hs2, s, ss, u0, rfl, hsv.same y2, by omega, _, rfl, by omega, by rw [e63]; omega, ?_⟩
      refine ⟨_, rfl, Nat.zero_le _, fun l0 hl0 => ?_⟩
      have z3 := same_upd hl0 (o := .lst [])
      refine ⟨_, ⟨p, l0, ps, [], fun _ => true, rfl, rfl, z3 _ _ (y2 _ _ hp), upd_same, fun _ i x y _ hy => by simp at hy, rfl⟩, fun I4 z4 => ⟨rfl, _, rfl, ?_⟩⟩
      have y4 : Same H8 I4 := (y2.trans z3).trans z4
      have eb : V.bl (((ss.length : Nat) : Int) != 0) = V.bl (true ^^ (decide (ps.length = ([] : List V).length) && allF ps.length fun _ => true)) := by
        rw [← hP.len]
        cases ps with
        | nil => rfl
        | cons x r =>
          rw [decide_eq_false (by simp)]
          refine congrArg V.bl ?_
          simp
          omega
      rw [decide_eq_true eb]
      refine iteF ?_
      have hs4 := y4 _ _ hs8
      refine ⟨_, rfl, s, dx, _, rfl, hs4, sf_no _ _ (by decide +kernel) (by decide +kernel), s, ss, u0, rfl, hsv.same y4, by omega, one_bar gs.1.rev (by decide), fun I5 s' z5 ns' hsv' => ?_⟩
      have y5 := y4.trans z5
      refine ⟨_, rfl, _, st_st T hsv' (hsv.same y5), fun I6 z6 => ⟨_, rfl, ?_⟩⟩
      have y6 : Same H8 I6 := y5.trans z6
      have lk1 : likeSt ss.reverse ss u0 u0 = true := by
        unfold likeSt
        rw [decide_eq_true rfl, likeL_refl, Bool.or_true]
        rfl
      rw [lk1]
      refine iteF ?_
      refine ⟨_, rfl, _, rfl, st, pl, sv, pac, rfl, SqL.of (y6 _ _ est), SqL.of (y6 _ _ epl8), for_it (walk_zip (K := K) (a := st) (b := pl) (xs := sv) (ys := pac) rfl) (fun i σ H' => ∃ w11 w12, σ = [some (.ref d), some (.ref l), some (.ref D), some (.ref mo), some (.ref sl), some (.ref pl), w6, w7, some (.ref st), some (.ref s), some (.ref p), w11, w12, w13, none, none] ∧ Same H8 H') ⟨_, _, rfl, y6⟩ (fun i σ H' _ h => ?_) ?_ ?_⟩
      · obtain ⟨_, _, _, z⟩ := h
        exact ⟨SqL.of (z _ _ est), SqL.of (z _ _ epl8)⟩
      · rintro i2 x σ J1 J2 hi2 ⟨w11, w12, rfl, v1⟩ ⟨tt2, x1, x2, rfl, nt2, rfl, c1, c2⟩
        have hir2 : i2 < RS.length := by omega
        obtain ⟨s2, p2, ps2, h12, h22, hsv2, hp2, hP2⟩ := g8 i2 _ (List.getElem?_eq_getElem hir2)
        have c1 : sv[i2]? = some x1 := c1
        have c2 : pac[i2]? = some x2 := c2
        rw [h12] at c1
        cases c1
        rw [h22] at c2
        cases c2
        have gs2 := hS _ (List.getElem_mem hir2)
        generalize RS[i2] = ss2 at hsv2 hP2 gs2
        have zt2 := same_upd nt2 (o := .tup [V.ref s2, .ref p2])
        refine ⟨tt2, _, rfl, .inl (.inl upd_same), rfl, _, _, rfl, _, _, rfl, rfl, ?_⟩
        have v2 := v1.trans zt2
        revert v2
        generalize upd J1 tt2 (.tup [V.ref s2, .ref p2]) = J2
        intro v2
        refine ⟨_, rfl, _, rfl, _, st_st T (hsv.same v2) (hsv2.same v2), fun J3 w3 => ?_⟩
        have v3 : Same H8 J3 := v2.trans w3
        refine ⟨_, rfl, _, rfl, .list (ss.map partD), .list (ss2.map partD), .lst (SqL.of (v3 _ _ hp)) (pts_dpAll (hP.nl (NL.of v3))), .lst (SqL.of (v3 _ _ hp2)) (pts_dpAll (hP2.nl (NL.of v3))), partsD_shaped gs.2.2, partsD_shaped gs2.2.2, _, rfl, ?_⟩
        have lks : likeSt ss ss2 u0 u0 = (likeP ss ss2 || likeP ss ss2.reverse) := by
          unfold likeSt
          rw [decide_eq_true rfl, like_p, like_p, Bool.true_and]
        rw [parts_eqv, lks]
        cases hb : likeP ss ss2 with
        | true =>
          refine iteT ⟨rfl, _, rfl, ?_⟩
          rw [Bool.true_or, Bool.false_xor, decide_eq_true rfl]
          exact iteF ⟨_, _, rfl, v3⟩
        | false =>
          refine iteF ?_
          refine ⟨_, rfl, _, rfl, p2, ps2, rfl, SqL.of (v3 _ _ hp2), fun rv hrv => ?_⟩
          have zr := same_upd hrv (o := .lst ps2.reverse)
          have v4 := v3.trans zr
          refine ⟨.list (ss.map partD), .list (ss2.reverse.map partD), .lst (SqL.of (v4 _ _ hp)) (pts_dpAll (hP.nl (NL.of v4))), .lst (SqL.of upd_same) (pts_dpAll (hP2.nl (NL.of v4)).rev), partsD_shaped gs.2.2, partsD_shaped (fun r hr => gs2.2.2 r (List.mem_reverse.mp hr)), rfl, _, rfl, ?_⟩
          rw [parts_eqv, Bool.false_or, Bool.false_xor, decide_eq_true rfl]
          exact iteF ⟨_, _, rfl, v4⟩
      rintro σ J1 ⟨w11, w12, rfl, v1⟩
      clear y6 y5 y4 y2 z3 z4 z5 z6 hs2 hs4
      have hsJ := v1 _ _ hs8
      refine ⟨rfl, _, rfl, s, dx, _, rfl, hsJ, sf_no _ _ (by decide +kernel) (by decide +kernel), s, t0, m0, xs0, rfl, ⟨dx, hsJ⟩, v1 _ _ ht8, fun lb hlb => ?_⟩
      have zl := same_upd hlb (o := .lst xs0)
      have v2 := v1.trans zl
      refine ⟨lb, rfl, ⟨_, SqL.of upd_same⟩, fun Dt hDt => ?_⟩
      have hl0 := hB8.len
      refine lc_gen (K := K) (a := lb) hDt (SqL.of upd_same) (by omega) (fun j v H' => ∀ o, ss[j]? = some o → v = .str (beadS o)) (fun j v H1 H2 sn h => h) ?_ ?_
      · intro j x I2 R C hj w2 hRv
        have v3 := v2.trans w2
        obtain ⟨o, ho, hv⟩ := (hB8.same (NL.of v3)).at_ j x hj
        rcases hv with ⟨rfl, rfl⟩ | ⟨p', r, rfl, rfl, hp'⟩
        · refine ⟨rfl, yesT ⟨_, rfl, rfl, _, rfl, iteT ?_⟩⟩
          exact hRv _ _ (Same.refl _) fun o' ho' => by
            rw [ho] at ho'
            cases ho'
            rfl
        · obtain ⟨dp, hp2⟩ := id hp'
          refine ⟨rfl, yesT ⟨_, rfl, rfl, _, rfl, iteF ?_⟩⟩
          refine ⟨_, rfl, p', dp, _, rfl, hp2, p', r, rfl, hp', gs.2.2 r (List.mem_of_getElem? ho), fun H3 z hz _ s3 => ⟨⟨z, rfl⟩, ?_⟩⟩
          exact hRv _ _ s3 fun o' ho' => by
            rw [ho] at ho'
            cases ho'
            rw [strS_of hz]
            rfl
      intro J4 tv z4 et ltv gtv
      have hacc : tv = (ss.map beadS).map V.str := by
        refine List.ext_getElem? fun j => ?_
        by_cases hj : j < tv.length
        · have hj2 : j < ss.length := by omega
          have := gtv j _ (List.getElem?_eq_getElem hj) _ (List.getElem?_eq_getElem hj2)
          rw [List.getElem?_eq_getElem hj, this, List.getElem?_map, List.getElem?_map, List.getElem?_eq_getElem hj2]
          rfl
        · rw [List.getElem?_eq_none (by omega), List.getElem?_eq_none (by rw [List.length_map, List.length_map]; omega)]
      rw [hacc] at et
      have v4 : Same H8 J4 := v2.trans z4
      refine ⟨_, Dt, ss.map beadS, rfl, rfl, .inl (SqL.of et), ?_, ?_⟩
      · have a := sum_leS (m := 1000) (xs := ss.map beadS) fun z hz => by
          obtain ⟨o, ho, rfl⟩ := List.mem_map.mp hz
          exact beadS_len fun r hr => gs.2.2 r (by rw [← hr]; exact ho)
        have e3 : (" | " : Str).length = 3 := by decide +kernel
        rw [e3]
        rw [List.length_map] at a ⊢
        omega
      have hs4 := v4 _ _ hs8
      refine ⟨_, rfl, s, dx, _, rfl, hs4, s, ss, u0, rfl, hsv.same v4, by omega, gs.2.2, fun J5 z5 => ⟨⟨_, rfl⟩, _, rfl, rfl, _, rfl, ?_⟩⟩
      rw [decide_eq_true (show V.str (stringText ss) = V.str (Txt.join " | " (ss.map beadS)) from rfl)]
      refine iteF ?_
      have v5 : Same H8 J5 := v4.trans z5
      have hs5 := v5 _ _ hs8
      have hU0 : SmallRl u0 := ⟨⟨by decide, by decide, by decide⟩, by decide, by decide⟩
      have hR0 : (ruleText u0).length ≤ 1000 := by decide +kernel
      refine ⟨_, rfl, s, dx, _, rfl, hs5, s, ss, u0, rfl, hsv.same v5, by omega, gs.2.2, hU0, hR0, fun J6 z6 => ⟨⟨_, rfl⟩, ?_⟩⟩
      have v6 : Same H8 J6 := v5.trans z6
      have hs6 := v6 _ _ hs8
      have pl_ := piled_le (m := 300) (ts := ss.map beadR) fun z hz => by
        obtain ⟨o, ho, rfl⟩ := List.mem_map.mp hz
        exact beadR_len fun r hr => gs.2.2 r (by rw [← hr]; exact ho)
      rw [List.length_map] at pl_
      have ll : (listText (ss.map beadR)).length ≤ 60600 := by
        have := list_le (ss.map beadR)
        have : ss.length * 302 ≤ 10 * 302 := Nat.mul_le_mul_right _ hlen
        omega
      have c1 := app_le c_emp (show ("String(" : Str).length ≤ 7 by decide +kernel)
      have c2 := app_le c1 ll
      have c3 := app_le c2 (show (", " : Str).length ≤ 2 by decide +kernel)
      have c4 := app_le c3 hR0
      have c5 := app_le c4 (show (")" : Str).length ≤ 1 by decide +kernel)
      refine ⟨_, rfl, fit c1, _, rfl, s, dx, _, rfl, hs6, sf_no _ _ (by decide +kernel) (by decide +kernel), s, t0, m0, xs0, rfl, ⟨dx, hs6⟩, v6 _ _ ht8, fun lb2 hlb2 => ?_⟩
      have z7 := same_upd hlb2 (o := .lst xs0)
      have v7 := v6.trans z7
      refine ⟨lb2, xs0, ss.map beadR, rfl, upd_same, by rw [List.length_map, hl0], bds_shows T (hB8.same (NL.of v7)) gs.2.2, fit ll, fun J8 z8 => ?_⟩
      have v8 : Same H8 J8 := v7.trans z8
      obtain ⟨dmo, hmo⟩ := hM7
      have hmo8 := v8 _ _ (s8 _ _ hmo)
      refine ⟨_, rfl, fit c2, _, rfl, fit c3, ?_⟩
      refine ⟨_, rfl, mo, dmo, _, rfl, hmo8, mo, u0, rfl, ⟨dmo, hmo8⟩, hU0, fun J9 z9 => ⟨⟨_, rfl⟩, ⟨_, rfl, fit hR0⟩, _, rfl, fit c4, _, rfl, fit c5, rfl, _, rfl, ?_⟩⟩
      rw [decide_eq_true (show V.str (stringRepr ss u0) = V.str (Str.empty ++ "String(" ++ listText (ss.map beadR) ++ ", " ++ ruleText u0 ++ ")") from rfl)]
      refine iteF ?_
      exact ⟨_, _, _, _, _, rfl, v8.trans z9⟩
    · rintro σ I1 ⟨w9, w10, w11, w12, w13, rfl, y1⟩
      obtain ⟨v0, u0', hv0, hu0, a0, p0, xs0, ps0, rfl, rfl, n1, n2, ha0, hB0, hp0, hP0⟩ := g 0 _ (List.getElem?_eq_getElem (by omega))
      obtain ⟨s0, p0', ps0', hs0, _, hsv0, _, _⟩ := g8 0 _ (List.getElem?_eq_getElem (by omega))
      have gs := hS _ (List.getElem_mem (show 0 < RS.length by omega))
      generalize RS[0] = ss at hB0 hsv0 gs
      have hlen := gs.2.1
      have y17 := s8.trans y1
      refine ⟨_, rfl, sl, _, _, _, rfl, rfl, SqL.of (y17 _ _ esl), atI_nat (j := 0) hv0, a0, xs0, rfl, .inl (SqL.of (y17 _ _ ha0)), fun b hb => ?_⟩
      have zb := same_upd hb (o := .lst xs0)
      refine ⟨_, _, rfl, rfl, ⟨by decide, by decide, by decide⟩, _, _, rfl, rfl, ⟨by decide, by decide, by decide⟩, rfl, rfl, fun m2 dm2 nm2 ndm2 ne2 => ⟨m2, dm2, u1, rfl, upd_same, ⟨by decide, by decide, by decide⟩, fun I2 hI2 kI2 => ⟨rfl, fun so dxo nso ndxo neo => ?_⟩⟩⟩
      have z2 := made_same nm2 ndm2 kI2
      have zs : Same I2 (upd (upd I2 dxo (.own so)) so (.ins T.C_String dxo [])) := fun c o e => by
        rw [upd_ne (ne_of_none e nso), upd_ne (ne_of_none e ndxo)]
        exact e
      obtain ⟨dm3, hm3⟩ := hI2
      have zz := (zb.trans z2).trans zs
      refine ⟨so, dxo, b, m2, xs0, ss, u1, rfl, upd_same, SqL.of ((z2.trans zs) _ _ upd_same), hB0.same (NL.of (y17.trans zz)), ⟨dm3, zs _ _ hm3⟩, by omega, one_bar gs.1 (by decide), fun I3 to hso hto k => ⟨rfl, ?_⟩⟩
      have z13 : Same I1 I3 := fun c o e => k c o (zz _ _ e) (ne_of_none ((zb.trans z2) _ _ e) nso)
      have y3 := y1.trans z13
      have hm33 : I3 m2 = some (.ins T.C_Rule dm3 (uf u1)) := k _ _ (zs _ _ hm3) (ne_of_none hm3 nso)
      have hOther : SV T.C_Bead T.C_Rule T.C_String I3 so ss u1 := ⟨to, m2, xs0, hso, hto, hB0.same (NL.of (s8.trans y3)), dm3, hm33⟩
      obtain ⟨dso, hso'⟩ := id hso
      refine ⟨_, rfl, st, _, _, _, rfl, rfl, SqL.of (y3 _ _ est), atI_nat (j := 0) hs0, _, rfl, _, st_st T (hsv0.same y3) hOther, fun I4 z4 => ⟨_, rfl, ?_⟩⟩
      have lk0 : likeSt ss ss u0 u1 = false := by
        unfold likeSt
        rw [decide_eq_false (by unfold u0 u1; intro e; injection e with _ _ _ e; cases e)]
        rfl
      rw [lk0]
      refine iteT ?_
      have z4 : Same I3 I4 := z4
      have y4 := y3.trans z4
      obtain ⟨t4, m4', xs4, ⟨dx4, hs4⟩, _⟩ := (hsv0.same y4).ex
      have ea4 := (s8.trans y4) _ _ ha0
      refine ⟨_, rfl, st, _, _, _, rfl, rfl, SqL.of (y4 _ _ est), atI_nat (j := 0) hs0, _, rfl, sl, _, _, _, rfl, rfl, SqL.of ((s8.trans y4) _ _ esl), atI_nat (j := 0) hv0, _, ⟨s0, dx4, _, .type "list", rfl, hs4, .base (.lst ea4), T.nfS_list, ss, u0, hsv0.same y4, .inr ⟨"list", by decide, .base (.lst ea4), rfl⟩⟩, fun I5 z5 => ⟨_, rfl, iteT ?_⟩⟩
      have z5 : Same I4 I5 := z5
      have z35 := z4.trans z5
      refine ⟨_, rfl, so, _, dso, _, _, rfl, z35 _ _ hso', T.cl_String, T.n_String_rule, sf_rule to m2, _, _, rfl, rfl, ⟨by decide, by decide, by decide⟩, _, _, rfl, rfl, ⟨by decide, by decide, by decide⟩, fun m6 dm6 nm6 ndm6 ne6 => ⟨m6, dm6, u1, rfl, upd_same, ⟨by decide, by decide, by decide⟩, fun I6 hI6 kI6 => ⟨rfl, ?_⟩⟩⟩
      have z6 := made_same nm6 ndm6 kI6
      have hm36 := (z35.trans z6) _ _ hm33
      obtain ⟨dm7, hm7⟩ := id hI6
      refine ⟨m2, dm3, _, .ref T.C_Rule, rfl, hm36, T.ic_Rule.ty T.cl_Rule hm7, by simp [PySem.W.notFirst], m2, m6, u1, u1, rfl, ⟨dm3, hm36⟩, hI6, ?_⟩
      rw [decide_eq_true rfl]
      have fin := (s8.trans y3).trans (z35.trans z6)
      exact ⟨⟨_, rfl⟩, q _ (b7.trans (But.of fin)) (dr7.same fin)⟩
end
end KB
namespace KB
open PySem PySem.Spec PyProof.Rows L2 KA LamX
section
variable {P : Program} {w : World} {K : PySem.W.Frag} {mg : Str → Option Value} {base : Heap}
theorem TabS.nl {H H' : Hp} {P : Addr} {q : Str} (t : TabS H P q) (e : NL H H') : TabS H' P q := by
  obtain ⟨ps, h1, h2, h3⟩ := t
  refine ⟨ps, e _ _ (fun _ z => by cases z) h1, h2, fun pos cv hc => ?_⟩
  obtain ⟨c, e1, e2⟩ := h3 pos cv hc
  exact ⟨c, e1, e _ _ (fun _ z => by cases z) e2⟩
theorem Tabs.nl {T : List (Addr × Str)} {H H' : Hp} (t : Tabs T H) (e : NL H H') : Tabs T H' := fun p hp => TabS.nl (t p hp) e
theorem Dr.exn {P : Int → Prop} {d : Addr} {n : Nat} {H H' : Hp} (h : Dr P d n H) (s : ExtN H H') : Dr P d n H' := by
  obtain ⟨a, b, c, e, r⟩ := h
  exact ⟨a, b, c, s _ _ e (fun _ z => by cases z), r⟩
def spLaw (K : PySem.W.Frag) (Tb : List (Addr × Str)) : Sp := fun vs H Q _ => ∃ (a : Addr) (ns : List Int), vs = [.ref a] ∧ SqL K H a (ns.map V.int) ∧ ns.length ≤ 63 ∧ Tabs Tb H ∧ ∀ H', Q (.bl true) H'
theorem ok_law {f : Addr} {fd : FuncData} (T : Tx K mg) (TB : TBs T base) (F : Fun K "law" "law" s_law f fd) : FnG P w K mg base CX0 20 f fd ["_law_script"] (spLaw K (lamT T)) := by
  refine fun_okG F sc_law (fun vs H Q E h => ?_) (fun cdv A outer s H vs Q E hr gd h => ?_)
  · obtain ⟨a, ns, rfl, hS, hlen, hT, q⟩ := h
    rfl
  obtain ⟨a, ns, rfl, hS, hlen, hT, q⟩ := h
  refine ⟨_, (pss_cons (ps_for PassesOwn.never rfl (pi_list (pe_slice sl_list (pe_op op_catQ (pv 0) (pe_lst (pa_cons pe_int pa_nil))) po_none (po_some pe_int))) (pg_name (i := 1) sc_law.nd rfl (Or.inl rfl))
        (pss_cons (ps_set (i := 2) sc_law.nd rfl (Or.inr rfl) (pe_call (ok_draws T) (hr.mono (by decide)) (by rfl) T.g_draws T.F_draws.kp T.b_draws .nil pass0 (pa_cons (pv 1) pa_nil)))
      (pss_cons (ps_set (i := 3) sc_law.nd rfl (Or.inl rfl) (pe_call (ok_words T) (hr.mono (by decide)) (by rfl) T.g_words T.F_words.kp T.b_words .nil pass0 (pa_cons (pv 2) (pa_cons pe_int pa_nil))))
      (pss_cons (ps_set (i := 4) sc_law.nd rfl (Or.inl rfl) (pe_call (ok_rows T) (hr.mono (by decide)) (by rfl) T.g_rows T.F_rows.kp T.b_rows .nil pass0 (pa_cons (pv 2) (pa_cons (pv 3) pa_nil))))
      (pss_cons (ps_setLc (i := 5) (own := [("_law_row_here", 6)]) (g := gName 6) (tt := tYes) rfl sc_law.nd rfl rfl (sw_true rfl rfl rfl (by decide +kernel)) (pi_list (pv 4)) (blkOk_by (N := ["_law_script", "_law_cell", "_law_draws_here", "_law_words_here", "_law_rows_here", "_law_beads_here", "_law_row_here"]) (sc := defScope s_law) (by decide +kernel)) (fun _ _ _ _ _ => (pg_name (i := 6) sc_law.nd rfl (Or.inl rfl))) (fun _ _ _ _ _ => pts_nil) (fun _ _ _ _ _ => (pe_call (ok_made T) (hr.mono (by decide)) (by rfl) T.g_made T.F_made.kp T.b_made .nil pass0 (pa_cons (pv 6) (pa_cons (pe_call (ok_next T) (hr.mono (by decide)) (by rfl) T.g_next T.F_next.kp T.b_next .nil pass0 (pa_cons (pv 2) (pa_cons pe_int pa_nil))) pa_nil)))))
      (pss_cons (ps_if (PW.pt (pw_or (pt_not (pt_val (pe_callG (ok_beads T TB) (hr.mono (by decide)) gd (by rfl) T.g_beads T.F_beads.kp T.b_beads .nil pass0 (pa_cons (pv 4) (pa_cons (pv 5) pa_nil))))) (pw_or1 (pt_not (pt_val (pe_callG (ok_strings T) (hr.mono (by decide)) gd (by rfl) T.g_strings T.F_strings.kp T.b_strings .nil pass0 (pa_cons (pv 2) (pa_cons (pv 4) (pa_cons (pv 5) pa_nil))))))))) (pss_one (ps_ret pe_bl)) pss_nil)
      (pss_one (ps_if (pt_not (pt_val (pe_call (ok_others T) (hr.mono (by decide)) (by rfl) T.g_others T.F_others.kp T.b_others .nil pass0 (pa_cons (pv 2) (pa_cons (pv 3) pa_nil))))) (pss_one (ps_ret pe_bl)) pss_nil))))))))
      (pss_one (ps_ret pe_bl))), ?_⟩
  refine ⟨_, rfl, (by show 1 ≤ sizeLine; decide), fun p1 hp1 => ?_⟩
  refine ⟨a, p1, _, _, rfl, rfl, (same_upd hp1).seq hS, SqL.of upd_same, ?_, fun p2 hp2 => nopart ⟨6, rfl, p2, _, rfl, SqL.of upd_same, fun p3 hp3 => ?_⟩⟩
  · rw [List.length_map]
    exact Nat.le_trans (show ns.length + 1 ≤ 64 by omega) (by decide)
  generalize hcs : cutV (ns.map V.int ++ [V.int 5]) none (some 6) = cs
  have hint : ∀ v ∈ cs, ∃ n : Int, v = .int n := fun v hv => by
    rw [← hcs] at hv
    have hv := List.mem_of_mem_drop (List.mem_of_mem_take hv)
    rcases List.mem_append.mp hv with h | h
    · obtain ⟨n, _, rfl⟩ := List.mem_map.mp h
      exact ⟨n, rfl⟩
    · rw [List.mem_singleton.mp h]
      exact ⟨5, rfl⟩
  refine ⟨p3, rfl, ⟨_, SqL.of upd_same⟩, for_list (K := K) (a := p3) (xs := cs) (fun i σ H' => ∃ w1 w2 w3 w4 w5 : Option V, σ = [some (.ref a), w1, w2, w3, w4, w5, none] ∧ H' p3 = some (.lst cs) ∧ Tabs (lamT T) H') ⟨_, _, _, _, _, rfl, upd_same, ((hT.ext (same_upd hp1)).ext (same_upd hp2)).ext (same_upd hp3)⟩ (fun i σ H' _ h => ?_) ?_ ?_⟩
  · obtain ⟨_, _, _, _, _, _, e, _⟩ := h
    exact SqL.of e
  · rintro i x σ H0 hi ⟨w1, w2, w3, w4, w5, rfl, ep, T0⟩
    obtain ⟨cell, rfl⟩ := hint x (List.mem_of_getElem? hi)
    refine ⟨_, rfl, cell, rfl, fun d H1 hd s1 dr1 => ?_⟩
    have np3 : p3 ≠ d := fun z => by rw [z, hd] at ep; cases ep
    refine ⟨_, rfl, d, 0, rfl, dr1, by decide, fun H2 wl w0 wa wb wc hwl ew g0 g1 g2 g3 w12 b2 dr2 => ?_⟩
    have nwl : wl ≠ d := dr1.ne hwl
    refine ⟨_, rfl, _, rfl, d, wl, _, w0, wa, wb, wc, rfl, dr2, by omega, nwl, ew, g0, g1, g2, g3, fun H3 l xs rs hl el hX hG h2 h9 b3 dr3 => ?_⟩
    have nld : l ≠ d := dr2.ne hl
    have ew3 := b3 _ _ nwl ew
    have e3 := b3 _ _ np3 (b2 _ _ np3 (s1 _ _ ep))
    have T3 := Tabs.nl (Tabs.nl (T0.ext s1) (dr_nl dr1 b2)) (dr_nl dr2 b3)
    have hxl := hX.1
    refine ⟨_, rfl, l, rfl, ⟨_, SqL.of el⟩, fun D hD => ?_⟩
    have nDd : D ≠ d := dr3.ne hD
    refine lc_list (K := K) (a := l) (xs := xs) (fun i H' => But d H3 H' ∧ Dr PM d (0 + 60 + 200 + i) H' ∧ ∃ acc, H' D = some (.lst acc) ∧ acc.length = i ∧ ∀ (j : Nat) r, j < i → rs[j]? = some r → ∃ p, acc[j]? = some (.ref p) ∧ BeadAt T.C_Bead H' p r) ⟨But.new hD, dr3.upd nDd, [], upd_same, rfl, fun j r h => by omega⟩ (fun i H' _ h => SqL.of (h.1 _ _ nld el)) ?_ ?_
    · rintro i x H4 hi ⟨b4, dr4, acc, e4, l4, g4⟩
      have hil : i < xs.length := (List.getElem?_eq_some_iff.mp hi).1
      have hir : i < rs.length := by omega
      obtain ⟨t, h1, ht⟩ := hX.2 i _ (List.getElem?_eq_getElem hir)
      rw [h1] at hi
      cases hi
      have gr := hG _ (List.getElem_mem hir)
      refine ⟨rfl, yesT ⟨_, rfl, _, rfl, d, 3, _, rfl, by decide, log_tiny (by decide) (by decide), dr4, by omega, fun H5 v u5 c5 b5 dr5 => ⟨t, rs[i], v, rfl, (dr_nl dr3 (b4.trans b5)) _ _ (fun _ z => by cases z) ht, gr, fun H6 p s6 np hp => ?_⟩⟩⟩
      have e6 := s6 _ _ (b5 _ _ nDd e4)
      have n6 := NL.at_ e6 (o := .lst (acc ++ [.ref p]))
      refine ⟨acc, e6, Nat.lt_of_le_of_lt (show acc.length ≤ 100 by omega) (by decide), ((b4.trans b5).trans (But.of s6)).mut hD, ((dr5.same s6).upd nDd).mono (by omega), _, upd_same, by rw [List.length_append, l4]; rfl, fun j r hj hr => ?_⟩
      by_cases hji : j < i
      · obtain ⟨p', k1, k2⟩ := g4 j r hji hr
        exact ⟨p', by rw [List.getElem?_append_left (by omega)]; exact k1, k2.nl (((dr_nl dr4 b5).trans (NL.of s6)).trans n6)⟩
      · have hj : j = i := by omega
        subst hj
        rw [List.getElem?_eq_getElem hir] at hr
        cases hr
        exact ⟨p, by rw [List.getElem?_append_right (by omega), l4, Nat.sub_self]; rfl, hp.nl n6⟩
    rintro H7 ⟨b7, dr7, ys, e7, l7, g7⟩
    have hY : BdL T.C_Bead H7 ys rs := ⟨by omega, fun j r hr => g7 j r (by have := (List.getElem?_eq_some_iff.mp hr).1; omega) hr⟩
    have n37 := dr_nl dr3 b7
    have hX7 := hX.nl n37
    have el7 := b7 _ _ nld el
    have T7 := Tabs.nl T3 n37
    have e37 := b7 _ _ np3 e3
    have ew7 := b7 _ _ nwl ew3
    refine ⟨_, rfl, _, rfl, l, D, xs, ys, rs, rfl, el7, e7, hX7, hY, by omega, hG, T7, fun H8 n8 T8 => ⟨_, rfl, iteF ?_⟩⟩
    have dr8 := Dr.exn dr7 n8
    refine ⟨_, rfl, _, rfl, _, rfl, d, l, D, _, xs, ys, rs, rfl, dr8, by omega, nld, nDd, lst_exn n8 el7, lst_exn n8 e7, hX7.exn n8, hY.exn n8, h2, by omega, hG, fun H9 b9 dr9 => ⟨_, rfl, iteF ?_⟩⟩
    have n89 := dr_nl dr8 b9
    refine ⟨_, rfl, _, rfl, d, wl, _, w0, wa, wb, wc, rfl, dr9, by omega, nwl, b9 _ _ nwl (lst_exn n8 ew7), g0, g1, g2, g3, w12, fun H10 b10 => ⟨_, rfl, iteF ?_⟩⟩
    exact ⟨_, _, _, _, _, rfl, b10 _ _ np3 (b9 _ _ np3 (lst_exn n8 e37)), Tabs.nl (Tabs.nl T8 n89) (dr_nl dr9 b10)⟩
  · rintro σ H' ⟨w1, w2, w3, w4, w5, rfl, ep, T0⟩
    exact q H'
end
theorem all_mk {l : PySem.W.OpenLaw} {w : World} {K : PySem.W.Frag} {h : Heap} {mg : Str → Option Value} {fa : Addr} (X : K.In h) (G : h.Ns mainGlobals mg) (hfa : mg "law" = some (.ref fa))
    {C_Bead : Addr}
    {C_Rule : Addr}
    {C_String : Addr}
    {C_Lot : Addr}
    {C_Share : Addr}
    {f0 : Addr} {od0 an0 : Option Addr} {sl0 : Array (Option Value)} {oc0 kV0 dc0 pm0 cd0 ct0 : Value}
    {f1 : Addr} {od1 an1 : Option Addr} {sl1 : Array (Option Value)} {oc1 kV1 dc1 pm1 cd1 ct1 : Value}
    {f2 : Addr} {od2 an2 : Option Addr} {sl2 : Array (Option Value)} {oc2 kV2 dc2 pm2 cd2 ct2 : Value}
    {f3 : Addr} {od3 an3 : Option Addr} {sl3 : Array (Option Value)} {oc3 kV3 dc3 pm3 cd3 ct3 : Value}
    {f4 : Addr} {od4 an4 : Option Addr} {sl4 : Array (Option Value)} {oc4 kV4 dc4 pm4 cd4 ct4 : Value}
    {f5 : Addr} {od5 an5 : Option Addr} {sl5 : Array (Option Value)} {oc5 kV5 dc5 pm5 cd5 ct5 : Value}
    {f6 : Addr} {od6 an6 : Option Addr} {sl6 : Array (Option Value)} {oc6 kV6 dc6 pm6 cd6 ct6 : Value}
    {T6 : Addr} {oT6 : Value} {dT6 : Option Addr} {nT6 : Nat} {sT6 : Array (Option Value)} {td6_0 : Tok} {td6_1 : Tok} {td6_2 : Tok}
    {f7 : Addr} {od7 an7 : Option Addr} {sl7 : Array (Option Value)} {oc7 kV7 dc7 pm7 cd7 ct7 : Value}
    {f8 : Addr} {od8 an8 : Option Addr} {sl8 : Array (Option Value)} {oc8 kV8 dc8 pm8 cd8 ct8 : Value}
    {f9 : Addr} {od9 an9 : Option Addr} {sl9 : Array (Option Value)} {oc9 kV9 dc9 pm9 cd9 ct9 : Value}
    {f10 : Addr} {od10 an10 : Option Addr} {sl10 : Array (Option Value)} {oc10 kV10 dc10 pm10 cd10 ct10 : Value}
    {f11 : Addr} {od11 an11 : Option Addr} {sl11 : Array (Option Value)} {oc11 kV11 dc11 pm11 cd11 ct11 : Value}
    {f12 : Addr} {od12 an12 : Option Addr} {sl12 : Array (Option Value)} {oc12 kV12 dc12 pm12 cd12 ct12 : Value}
    {f13 : Addr} {od13 an13 : Option Addr} {sl13 : Array (Option Value)} {oc13 kV13 dc13 pm13 cd13 ct13 : Value}
    {f14 : Addr} {od14 an14 : Option Addr} {sl14 : Array (Option Value)} {oc14 kV14 dc14 pm14 cd14 ct14 : Value}
    {f15 : Addr} {od15 an15 : Option Addr} {sl15 : Array (Option Value)} {oc15 kV15 dc15 pm15 cd15 ct15 : Value}
    {f16 : Addr} {od16 an16 : Option Addr} {sl16 : Array (Option Value)} {oc16 kV16 dc16 pm16 cd16 ct16 : Value}
    {f17 : Addr} {od17 an17 : Option Addr} {sl17 : Array (Option Value)} {oc17 kV17 dc17 pm17 cd17 ct17 : Value}
    {f18 : Addr} {od18 an18 : Option Addr} {sl18 : Array (Option Value)} {oc18 kV18 dc18 pm18 cd18 ct18 : Value}
    {f19 : Addr} {od19 an19 : Option Addr} {sl19 : Array (Option Value)} {oc19 kV19 dc19 pm19 cd19 ct19 : Value}
    {f20 : Addr} {od20 an20 : Option Addr} {sl20 : Array (Option Value)} {oc20 kV20 dc20 pm20 cd20 ct20 : Value}
    {f21 : Addr} {od21 an21 : Option Addr} {sl21 : Array (Option Value)} {oc21 kV21 dc21 pm21 cd21 ct21 : Value}
    {f22 : Addr} {od22 an22 : Option Addr} {sl22 : Array (Option Value)} {oc22 kV22 dc22 pm22 cd22 ct22 : Value}
    {f23 : Addr} {od23 an23 : Option Addr} {sl23 : Array (Option Value)} {oc23 kV23 dc23 pm23 cd23 ct23 : Value}
    {T23 : Addr} {oT23 : Value} {dT23 : Option Addr} {nT23 : Nat} {sT23 : Array (Option Value)} {td23_0 : Tok}
    {f24 : Addr} {od24 an24 : Option Addr} {sl24 : Array (Option Value)} {oc24 kV24 dc24 pm24 cd24 ct24 : Value}
    {f25 : Addr} {od25 an25 : Option Addr} {sl25 : Array (Option Value)} {oc25 kV25 dc25 pm25 cd25 ct25 : Value}
    {f26 : Addr} {od26 an26 : Option Addr} {sl26 : Array (Option Value)} {oc26 kV26 dc26 pm26 cd26 ct26 : Value}
    {f27 : Addr} {od27 an27 : Option Addr} {sl27 : Array (Option Value)} {oc27 kV27 dc27 pm27 cd27 ct27 : Value}
    {f28 : Addr} {od28 an28 : Option Addr} {sl28 : Array (Option Value)} {oc28 kV28 dc28 pm28 cd28 ct28 : Value}
    {f29 : Addr} {od29 an29 : Option Addr} {sl29 : Array (Option Value)} {oc29 kV29 dc29 pm29 cd29 ct29 : Value}
    {f30 : Addr} {od30 an30 : Option Addr} {sl30 : Array (Option Value)} {oc30 kV30 dc30 pm30 ct30 : Value}
    {cc30 PP30 : Addr}
    {f31 : Addr} {od31 an31 : Option Addr} {sl31 : Array (Option Value)} {oc31 kV31 dc31 pm31 cd31 ct31 : Value}
    {f32 : Addr} {od32 an32 : Option Addr} {sl32 : Array (Option Value)} {oc32 kV32 dc32 pm32 cd32 ct32 : Value}
    {f33 : Addr} {od33 an33 : Option Addr} {sl33 : Array (Option Value)} {oc33 kV33 dc33 pm33 cd33 ct33 : Value}
    {f34 : Addr} {od34 an34 : Option Addr} {sl34 : Array (Option Value)} {oc34 kV34 dc34 pm34 cd34 ct34 : Value}
    {T34 : Addr} {oT34 : Value} {dT34 : Option Addr} {nT34 : Nat} {sT34 : Array (Option Value)} {td34_0 : Tok} {td34_1 : Tok}
    {f35 : Addr} {od35 an35 : Option Addr} {sl35 : Array (Option Value)} {oc35 kV35 dc35 pm35 cd35 ct35 : Value}
    {f36 : Addr} {od36 an36 : Option Addr} {sl36 : Array (Option Value)} {oc36 kV36 dc36 pm36 cd36 ct36 : Value}
    {f37 : Addr} {od37 an37 : Option Addr} {sl37 : Array (Option Value)} {oc37 kV37 dc37 pm37 cd37 ct37 : Value}
    {f38 : Addr} {od38 an38 : Option Addr} {sl38 : Array (Option Value)} {oc38 kV38 dc38 pm38 cd38 ct38 : Value}
    {f39 : Addr} {od39 an39 : Option Addr} {sl39 : Array (Option Value)} {oc39 kV39 dc39 pm39 cd39 ct39 : Value}
    {T39 : Addr} {oT39 : Value} {dT39 : Option Addr} {nT39 : Nat} {sT39 : Array (Option Value)} {td39_0 : Tok}
    {f40 : Addr} {od40 an40 : Option Addr} {sl40 : Array (Option Value)} {oc40 kV40 dc40 pm40 cd40 ct40 : Value}
    {f41 : Addr} {od41 an41 : Option Addr} {sl41 : Array (Option Value)} {oc41 kV41 dc41 pm41 cd41 ct41 : Value}
    {f42 : Addr} {od42 an42 : Option Addr} {sl42 : Array (Option Value)} {oc42 kV42 dc42 pm42 cd42 ct42 : Value}
    {f43 : Addr} {od43 an43 : Option Addr} {sl43 : Array (Option Value)} {oc43 kV43 dc43 pm43 cd43 ct43 : Value}
    {f44 : Addr} {od44 an44 : Option Addr} {sl44 : Array (Option Value)} {oc44 kV44 dc44 pm44 cd44 ct44 : Value}
    {f45 : Addr} {od45 an45 : Option Addr} {sl45 : Array (Option Value)} {oc45 kV45 dc45 pm45 cd45 ct45 : Value}
    {f46 : Addr} {od46 an46 : Option Addr} {sl46 : Array (Option Value)} {oc46 kV46 dc46 pm46 cd46 ct46 : Value}
    {f47 : Addr} {od47 an47 : Option Addr} {sl47 : Array (Option Value)} {oc47 kV47 dc47 pm47 cd47 ct47 : Value}
    {f48 : Addr} {od48 an48 : Option Addr} {sl48 : Array (Option Value)} {oc48 kV48 dc48 pm48 cd48 ct48 : Value}
    {f49 : Addr} {od49 an49 : Option Addr} {sl49 : Array (Option Value)} {oc49 kV49 dc49 pm49 ct49 : Value}
    {cc49 PP49 : Addr}
    {f50 : Addr} {od50 an50 : Option Addr} {sl50 : Array (Option Value)} {oc50 kV50 dc50 pm50 cd50 ct50 : Value}
    {f51 : Addr} {od51 an51 : Option Addr} {sl51 : Array (Option Value)} {oc51 kV51 dc51 pm51 cd51 ct51 : Value}
    {f52 : Addr} {od52 an52 : Option Addr} {sl52 : Array (Option Value)} {oc52 kV52 dc52 pm52 cd52 ct52 : Value}
    {tc0 : Tok}
    {tc1 : Tok}
    {tc2 : Tok}
    {tc3 : Tok}
    {tc4 : Tok}
    {tc5 : Tok}
    {tc6 : Tok}
    (aC_Bead : PySem.W.nsIn K mainGlobals "Bead" = some (some (.ref C_Bead)))
    (pg_Bead : PySem.W.plainGet K C_Bead Str.empty = true)
    (hd_Bead : PySem.W.hasDictIn K C_Bead = true)
    (po_Bead : PySem.W.plainOver K C_Bead = true)
    (sa_Bead : PySem.W.findIn K (.ref C_Bead) "__setattr__" = some (some (.builtin "object.__setattr__")))
    (mk_Bead : PySem.W.makesIn K C_Bead = true)
    (kc_Bead : PySem.W.keepIn K (.ref C_Bead) = true)
    (n_Bead_number : PySem.W.findIn K (.ref C_Bead) "number" = some none)
    (n_Bead_across : PySem.W.findIn K (.ref C_Bead) "across" = some none)
    (n_Bead_weight : PySem.W.findIn K (.ref C_Bead) "weight" = some none)
    (n_Bead_shade : PySem.W.findIn K (.ref C_Bead) "shade" = some none)
    (n_Bead_form : PySem.W.findIn K (.ref C_Bead) "form" = some none)
    (n_Bead_drilled : PySem.W.findIn K (.ref C_Bead) "drilled" = some none)
    (aC_Rule : PySem.W.nsIn K mainGlobals "Rule" = some (some (.ref C_Rule)))
    (pg_Rule : PySem.W.plainGet K C_Rule Str.empty = true)
    (hd_Rule : PySem.W.hasDictIn K C_Rule = true)
    (po_Rule : PySem.W.plainOver K C_Rule = true)
    (sa_Rule : PySem.W.findIn K (.ref C_Rule) "__setattr__" = some (some (.builtin "object.__setattr__")))
    (mk_Rule : PySem.W.makesIn K C_Rule = true)
    (kc_Rule : PySem.W.keepIn K (.ref C_Rule) = true)
    (n_Rule_least : PySem.W.findIn K (.ref C_Rule) "least" = some none)
    (n_Rule_most : PySem.W.findIn K (.ref C_Rule) "most" = some none)
    (n_Rule_match : PySem.W.findIn K (.ref C_Rule) "match" = some none)
    (n_Rule_shades : PySem.W.findIn K (.ref C_Rule) "shades" = some none)
    (aC_String : PySem.W.nsIn K mainGlobals "String" = some (some (.ref C_String)))
    (pg_String : PySem.W.plainGet K C_String Str.empty = true)
    (hd_String : PySem.W.hasDictIn K C_String = true)
    (po_String : PySem.W.plainOver K C_String = true)
    (sa_String : PySem.W.findIn K (.ref C_String) "__setattr__" = some (some (.builtin "object.__setattr__")))
    (mk_String : PySem.W.makesIn K C_String = true)
    (kc_String : PySem.W.keepIn K (.ref C_String) = true)
    (n_String_held : PySem.W.findIn K (.ref C_String) "held" = some none)
    (n_String_rule : PySem.W.findIn K (.ref C_String) "rule" = some none)
    (aC_Lot : PySem.W.nsIn K mainGlobals "Lot" = some (some (.ref C_Lot)))
    (pg_Lot : PySem.W.plainGet K C_Lot Str.empty = true)
    (hd_Lot : PySem.W.hasDictIn K C_Lot = true)
    (po_Lot : PySem.W.plainOver K C_Lot = true)
    (sa_Lot : PySem.W.findIn K (.ref C_Lot) "__setattr__" = some (some (.builtin "object.__setattr__")))
    (mk_Lot : PySem.W.makesIn K C_Lot = true)
    (kc_Lot : PySem.W.keepIn K (.ref C_Lot) = true)
    (n_Lot_name : PySem.W.findIn K (.ref C_Lot) "name" = some none)
    (n_Lot_room : PySem.W.findIn K (.ref C_Lot) "room" = some none)
    (n_Lot_least : PySem.W.findIn K (.ref C_Lot) "least" = some none)
    (n_Lot_most : PySem.W.findIn K (.ref C_Lot) "most" = some none)
    (n_Lot_shades : PySem.W.findIn K (.ref C_Lot) "shades" = some none)
    (aC_Share : PySem.W.nsIn K mainGlobals "Share" = some (some (.ref C_Share)))
    (pg_Share : PySem.W.plainGet K C_Share Str.empty = true)
    (hd_Share : PySem.W.hasDictIn K C_Share = true)
    (po_Share : PySem.W.plainOver K C_Share = true)
    (sa_Share : PySem.W.findIn K (.ref C_Share) "__setattr__" = some (some (.builtin "object.__setattr__")))
    (mk_Share : PySem.W.makesIn K C_Share = true)
    (kc_Share : PySem.W.keepIn K (.ref C_Share) = true)
    (n_Share_num : PySem.W.findIn K (.ref C_Share) "num" = some none)
    (n_Share_over : PySem.W.findIn K (.ref C_Share) "over" = some none)
    (a0 : PySem.W.nsIn K mainGlobals "is_int" = some (some (.ref f0)))
    (l0 : K.lookup f0 = some ⟨oc0, od0, .func (PySem.W.fnOf "is_int" "is_int" (defArgs s_is_int) (defBody s_is_int) (defScope s_is_int) .none kV0 dc0 pm0 an0 cd0 ct0), sl0⟩)
    (c0 : PySem.W.codeIn K cd0 "is_int" = true)
    (k0 : PySem.W.keepIn K (.ref f0) = true)
    (a1 : PySem.W.nsIn K mainGlobals "is_whole" = some (some (.ref f1)))
    (l1 : K.lookup f1 = some ⟨oc1, od1, .func (PySem.W.fnOf "is_whole" "is_whole" (defArgs s_is_whole) (defBody s_is_whole) (defScope s_is_whole) .none kV1 dc1 pm1 an1 cd1 ct1), sl1⟩)
    (c1 : PySem.W.codeIn K cd1 "is_whole" = true)
    (k1 : PySem.W.keepIn K (.ref f1) = true)
    (a2 : PySem.W.nsIn K mainGlobals "is_from_nought" = some (some (.ref f2)))
    (l2 : K.lookup f2 = some ⟨oc2, od2, .func (PySem.W.fnOf "is_from_nought" "is_from_nought" (defArgs s_is_from_nought) (defBody s_is_from_nought) (defScope s_is_from_nought) .none kV2 dc2 pm2 an2 cd2 ct2), sl2⟩)
    (c2 : PySem.W.codeIn K cd2 "is_from_nought" = true)
    (k2 : PySem.W.keepIn K (.ref f2) = true)
    (a3 : PySem.W.nsIn K mainGlobals "is_name" = some (some (.ref f3)))
    (l3 : K.lookup f3 = some ⟨oc3, od3, .func (PySem.W.fnOf "is_name" "is_name" (defArgs s_is_name) (defBody s_is_name) (defScope s_is_name) .none kV3 dc3 pm3 an3 cd3 ct3), sl3⟩)
    (c3 : PySem.W.codeIn K cd3 "is_name" = true)
    (k3 : PySem.W.keepIn K (.ref f3) = true)
    (a4 : PySem.W.nsIn K mainGlobals "is_number" = some (some (.ref f4)))
    (l4 : K.lookup f4 = some ⟨oc4, od4, .func (PySem.W.fnOf "is_number" "is_number" (defArgs s_is_number) (defBody s_is_number) (defScope s_is_number) .none kV4 dc4 pm4 an4 cd4 ct4), sl4⟩)
    (c4 : PySem.W.codeIn K cd4 "is_number" = true)
    (k4 : PySem.W.keepIn K (.ref f4) = true)
    (a5 : PySem.W.nsIn K mainGlobals "figures" = some (some (.ref f5)))
    (l5 : K.lookup f5 = some ⟨oc5, od5, .func (PySem.W.fnOf "figures" "figures" (defArgs s_figures) (defBody s_figures) (defScope s_figures) .none kV5 dc5 pm5 an5 cd5 ct5), sl5⟩)
    (c5 : PySem.W.codeIn K cd5 "figures" = true)
    (k5 : PySem.W.keepIn K (.ref f5) = true)
    (a6 : PySem.W.findIn K (.ref C_Rule) "__init__" = some (some (.ref f6)))
    (i6 : PySem.W.isFn K (.ref f6) = true)
    (l6 : K.lookup f6 = some ⟨oc6, od6, .func (PySem.W.fnOf "__init__" "Rule.__init__" (defArgs s_Rule_init) (defBody s_Rule_init) (defScope s_Rule_init) (.ref T6) kV6 dc6 pm6 an6 cd6 ct6), sl6⟩)
    (d6 : K.lookup T6 = some ⟨oT6, dT6, .seq (List.toArray [.int 0 td6_0, .int 10 td6_1, .int 0 td6_2, .bool true]) nT6, sT6⟩)
    (c6 : PySem.W.codeIn K cd6 "Rule.__init__" = true)
    (k6 : PySem.W.keepIn K (.ref f6) = true)
    (a7 : PySem.W.findIn K (.ref C_Rule) "__eq__" = some (some (.ref f7)))
    (i7 : PySem.W.isFn K (.ref f7) = true)
    (l7 : K.lookup f7 = some ⟨oc7, od7, .func (PySem.W.fnOf "__eq__" "Rule.__eq__" (defArgs s_Rule_eq) (defBody s_Rule_eq) (defScope s_Rule_eq) .none kV7 dc7 pm7 an7 cd7 ct7), sl7⟩)
    (c7 : PySem.W.codeIn K cd7 "Rule.__eq__" = true)
    (k7 : PySem.W.keepIn K (.ref f7) = true)
    (a8 : PySem.W.findIn K (.ref C_Rule) "__repr__" = some (some (.ref f8)))
    (i8 : PySem.W.isFn K (.ref f8) = true)
    (l8 : K.lookup f8 = some ⟨oc8, od8, .func (PySem.W.fnOf "__repr__" "Rule.__repr__" (defArgs s_Rule_repr) (defBody s_Rule_repr) (defScope s_Rule_repr) .none kV8 dc8 pm8 an8 cd8 ct8), sl8⟩)
    (c8 : PySem.W.codeIn K cd8 "Rule.__repr__" = true)
    (k8 : PySem.W.keepIn K (.ref f8) = true)
    (a9 : PySem.W.nsIn K mainGlobals "stands_ahead" = some (some (.ref f9)))
    (l9 : K.lookup f9 = some ⟨oc9, od9, .func (PySem.W.fnOf "stands_ahead" "stands_ahead" (defArgs s_stands_ahead) (defBody s_stands_ahead) (defScope s_stands_ahead) .none kV9 dc9 pm9 an9 cd9 ct9), sl9⟩)
    (c9 : PySem.W.codeIn K cd9 "stands_ahead" = true)
    (k9 : PySem.W.keepIn K (.ref f9) = true)
    (a10 : PySem.W.nsIn K mainGlobals "breaks_step" = some (some (.ref f10)))
    (l10 : K.lookup f10 = some ⟨oc10, od10, .func (PySem.W.fnOf "breaks_step" "breaks_step" (defArgs s_breaks_step) (defBody s_breaks_step) (defScope s_breaks_step) .none kV10 dc10 pm10 an10 cd10 ct10), sl10⟩)
    (c10 : PySem.W.codeIn K cd10 "breaks_step" = true)
    (k10 : PySem.W.keepIn K (.ref f10) = true)
    (a11 : PySem.W.nsIn K mainGlobals "partner_of" = some (some (.ref f11)))
    (l11 : K.lookup f11 = some ⟨oc11, od11, .func (PySem.W.fnOf "partner_of" "partner_of" (defArgs s_partner_of) (defBody s_partner_of) (defScope s_partner_of) .none kV11 dc11 pm11 an11 cd11 ct11), sl11⟩)
    (c11 : PySem.W.codeIn K cd11 "partner_of" = true)
    (k11 : PySem.W.keepIn K (.ref f11) = true)
    (a12 : PySem.W.nsIn K mainGlobals "same_look" = some (some (.ref f12)))
    (l12 : K.lookup f12 = some ⟨oc12, od12, .func (PySem.W.fnOf "same_look" "same_look" (defArgs s_same_look) (defBody s_same_look) (defScope s_same_look) .none kV12 dc12 pm12 an12 cd12 ct12), sl12⟩)
    (c12 : PySem.W.codeIn K cd12 "same_look" = true)
    (k12 : PySem.W.keepIn K (.ref f12) = true)
    (a13 : PySem.W.nsIn K mainGlobals "reason_at" = some (some (.ref f13)))
    (l13 : K.lookup f13 = some ⟨oc13, od13, .func (PySem.W.fnOf "reason_at" "reason_at" (defArgs s_reason_at) (defBody s_reason_at) (defScope s_reason_at) .none kV13 dc13 pm13 an13 cd13 ct13), sl13⟩)
    (c13 : PySem.W.codeIn K cd13 "reason_at" = true)
    (k13 : PySem.W.keepIn K (.ref f13) = true)
    (a14 : PySem.W.nsIn K mainGlobals "barred" = some (some (.ref f14)))
    (l14 : K.lookup f14 = some ⟨oc14, od14, .func (PySem.W.fnOf "barred" "barred" (defArgs s_barred) (defBody s_barred) (defScope s_barred) .none kV14 dc14 pm14 an14 cd14 ct14), sl14⟩)
    (c14 : PySem.W.codeIn K cd14 "barred" = true)
    (k14 : PySem.W.keepIn K (.ref f14) = true)
    (a15 : PySem.W.findIn K (.ref C_String) "__init__" = some (some (.ref f15)))
    (i15 : PySem.W.isFn K (.ref f15) = true)
    (l15 : K.lookup f15 = some ⟨oc15, od15, .func (PySem.W.fnOf "__init__" "String.__init__" (defArgs s_String_init) (defBody s_String_init) (defScope s_String_init) .none kV15 dc15 pm15 an15 cd15 ct15), sl15⟩)
    (c15 : PySem.W.codeIn K cd15 "String.__init__" = true)
    (k15 : PySem.W.keepIn K (.ref f15) = true)
    (a16 : PySem.W.findIn K (.ref C_String) "beads" = some (some (.ref f16)))
    (i16 : PySem.W.isFn K (.ref f16) = true)
    (l16 : K.lookup f16 = some ⟨oc16, od16, .func (PySem.W.fnOf "beads" "String.beads" (defArgs s_String_beads) (defBody s_String_beads) (defScope s_String_beads) .none kV16 dc16 pm16 an16 cd16 ct16), sl16⟩)
    (c16 : PySem.W.codeIn K cd16 "String.beads" = true)
    (k16 : PySem.W.keepIn K (.ref f16) = true)
    (a17 : PySem.W.findIn K (.ref C_String) "turned" = some (some (.ref f17)))
    (i17 : PySem.W.isFn K (.ref f17) = true)
    (l17 : K.lookup f17 = some ⟨oc17, od17, .func (PySem.W.fnOf "turned" "String.turned" (defArgs s_String_turned) (defBody s_String_turned) (defScope s_String_turned) .none kV17 dc17 pm17 an17 cd17 ct17), sl17⟩)
    (c17 : PySem.W.codeIn K cd17 "String.turned" = true)
    (k17 : PySem.W.keepIn K (.ref f17) = true)
    (a18 : PySem.W.findIn K (.ref C_String) "__len__" = some (some (.ref f18)))
    (i18 : PySem.W.isFn K (.ref f18) = true)
    (l18 : K.lookup f18 = some ⟨oc18, od18, .func (PySem.W.fnOf "__len__" "String.__len__" (defArgs s_String_len) (defBody s_String_len) (defScope s_String_len) .none kV18 dc18 pm18 an18 cd18 ct18), sl18⟩)
    (c18 : PySem.W.codeIn K cd18 "String.__len__" = true)
    (k18 : PySem.W.keepIn K (.ref f18) = true)
    (a19 : PySem.W.findIn K (.ref C_String) "__eq__" = some (some (.ref f19)))
    (i19 : PySem.W.isFn K (.ref f19) = true)
    (l19 : K.lookup f19 = some ⟨oc19, od19, .func (PySem.W.fnOf "__eq__" "String.__eq__" (defArgs s_String_eq) (defBody s_String_eq) (defScope s_String_eq) .none kV19 dc19 pm19 an19 cd19 ct19), sl19⟩)
    (c19 : PySem.W.codeIn K cd19 "String.__eq__" = true)
    (k19 : PySem.W.keepIn K (.ref f19) = true)
    (a20 : PySem.W.findIn K (.ref C_String) "__repr__" = some (some (.ref f20)))
    (i20 : PySem.W.isFn K (.ref f20) = true)
    (l20 : K.lookup f20 = some ⟨oc20, od20, .func (PySem.W.fnOf "__repr__" "String.__repr__" (defArgs s_String_repr) (defBody s_String_repr) (defScope s_String_repr) .none kV20 dc20 pm20 an20 cd20 ct20), sl20⟩)
    (c20 : PySem.W.codeIn K cd20 "String.__repr__" = true)
    (k20 : PySem.W.keepIn K (.ref f20) = true)
    (a21 : PySem.W.findIn K (.ref C_String) "__str__" = some (some (.ref f21)))
    (i21 : PySem.W.isFn K (.ref f21) = true)
    (l21 : K.lookup f21 = some ⟨oc21, od21, .func (PySem.W.fnOf "__str__" "String.__str__" (defArgs s_String_str) (defBody s_String_str) (defScope s_String_str) .none kV21 dc21 pm21 an21 cd21 ct21), sl21⟩)
    (c21 : PySem.W.codeIn K cd21 "String.__str__" = true)
    (k21 : PySem.W.keepIn K (.ref f21) = true)
    (a22 : PySem.W.nsIn K mainGlobals "is_measure" = some (some (.ref f22)))
    (l22 : K.lookup f22 = some ⟨oc22, od22, .func (PySem.W.fnOf "is_measure" "is_measure" (defArgs s_is_measure) (defBody s_is_measure) (defScope s_is_measure) .none kV22 dc22 pm22 an22 cd22 ct22), sl22⟩)
    (c22 : PySem.W.codeIn K cd22 "is_measure" = true)
    (k22 : PySem.W.keepIn K (.ref f22) = true)
    (a23 : PySem.W.findIn K (.ref C_Bead) "__init__" = some (some (.ref f23)))
    (i23 : PySem.W.isFn K (.ref f23) = true)
    (l23 : K.lookup f23 = some ⟨oc23, od23, .func (PySem.W.fnOf "__init__" "Bead.__init__" (defArgs s_Bead_init) (defBody s_Bead_init) (defScope s_Bead_init) (.ref T23) kV23 dc23 pm23 an23 cd23 ct23), sl23⟩)
    (d23 : K.lookup T23 = some ⟨oT23, dT23, .seq (List.toArray [.str "round" td23_0, .bool false]) nT23, sT23⟩)
    (c23 : PySem.W.codeIn K cd23 "Bead.__init__" = true)
    (k23 : PySem.W.keepIn K (.ref f23) = true)
    (a24 : PySem.W.findIn K (.ref C_Bead) "row" = some (some (.ref f24)))
    (i24 : PySem.W.isFn K (.ref f24) = true)
    (l24 : K.lookup f24 = some ⟨oc24, od24, .func (PySem.W.fnOf "row" "Bead.row" (defArgs s_Bead_row) (defBody s_Bead_row) (defScope s_Bead_row) .none kV24 dc24 pm24 an24 cd24 ct24), sl24⟩)
    (c24 : PySem.W.codeIn K cd24 "Bead.row" = true)
    (k24 : PySem.W.keepIn K (.ref f24) = true)
    (a25 : PySem.W.findIn K (.ref C_Bead) "key" = some (some (.ref f25)))
    (i25 : PySem.W.isFn K (.ref f25) = true)
    (l25 : K.lookup f25 = some ⟨oc25, od25, .func (PySem.W.fnOf "key" "Bead.key" (defArgs s_Bead_key) (defBody s_Bead_key) (defScope s_Bead_key) .none kV25 dc25 pm25 an25 cd25 ct25), sl25⟩)
    (c25 : PySem.W.codeIn K cd25 "Bead.key" = true)
    (k25 : PySem.W.keepIn K (.ref f25) = true)
    (a26 : PySem.W.findIn K (.ref C_Bead) "__eq__" = some (some (.ref f26)))
    (i26 : PySem.W.isFn K (.ref f26) = true)
    (l26 : K.lookup f26 = some ⟨oc26, od26, .func (PySem.W.fnOf "__eq__" "Bead.__eq__" (defArgs s_Bead_eq) (defBody s_Bead_eq) (defScope s_Bead_eq) .none kV26 dc26 pm26 an26 cd26 ct26), sl26⟩)
    (c26 : PySem.W.codeIn K cd26 "Bead.__eq__" = true)
    (k26 : PySem.W.keepIn K (.ref f26) = true)
    (a27 : PySem.W.findIn K (.ref C_Bead) "__repr__" = some (some (.ref f27)))
    (i27 : PySem.W.isFn K (.ref f27) = true)
    (l27 : K.lookup f27 = some ⟨oc27, od27, .func (PySem.W.fnOf "__repr__" "Bead.__repr__" (defArgs s_Bead_repr) (defBody s_Bead_repr) (defScope s_Bead_repr) .none kV27 dc27 pm27 an27 cd27 ct27), sl27⟩)
    (c27 : PySem.W.codeIn K cd27 "Bead.__repr__" = true)
    (k27 : PySem.W.keepIn K (.ref f27) = true)
    (a28 : PySem.W.findIn K (.ref C_Bead) "__str__" = some (some (.ref f28)))
    (i28 : PySem.W.isFn K (.ref f28) = true)
    (l28 : K.lookup f28 = some ⟨oc28, od28, .func (PySem.W.fnOf "__str__" "Bead.__str__" (defArgs s_Bead_str) (defBody s_Bead_str) (defScope s_Bead_str) .none kV28 dc28 pm28 an28 cd28 ct28), sl28⟩)
    (c28 : PySem.W.codeIn K cd28 "Bead.__str__" = true)
    (k28 : PySem.W.keepIn K (.ref f28) = true)
    (a29 : PySem.W.nsIn K mainGlobals "bead_of" = some (some (.ref f29)))
    (l29 : K.lookup f29 = some ⟨oc29, od29, .func (PySem.W.fnOf "bead_of" "bead_of" (defArgs s_bead_of) (defBody s_bead_of) (defScope s_bead_of) .none kV29 dc29 pm29 an29 cd29 ct29), sl29⟩)
    (c29 : PySem.W.codeIn K cd29 "bead_of" = true)
    (k29 : PySem.W.keepIn K (.ref f29) = true)
    (a30 : PySem.W.nsIn K mainGlobals "in_order" = some (some (.ref f30)))
    (l30 : K.lookup f30 = some ⟨oc30, od30, .func (PySem.W.fnOf "in_order" "in_order" (defArgs s_in_order) (defBody s_in_order) (defScope s_in_order) .none kV30 dc30 pm30 an30 (.ref cc30) ct30), sl30⟩)
    (c30 : PySem.W.codeIn K (.ref cc30) "in_order" = true)
    (k30 : PySem.W.keepIn K (.ref f30) = true)
    (t30 : PySem.W.tabIn K "in_order" = some (cc30, PP30))
    (tn30 : K.lookup PP30 = none)
    (ct30_ : PySem.W.CodeHd h cc30 PP30 ∧ h.get? PP30 = some { cls := .none, data := .fields #[] })
    (a31 : PySem.W.nsIn K mainGlobals "unlike" = some (some (.ref f31)))
    (l31 : K.lookup f31 = some ⟨oc31, od31, .func (PySem.W.fnOf "unlike" "unlike" (defArgs s_unlike) (defBody s_unlike) (defScope s_unlike) .none kV31 dc31 pm31 an31 cd31 ct31), sl31⟩)
    (c31 : PySem.W.codeIn K cd31 "unlike" = true)
    (k31 : PySem.W.keepIn K (.ref f31) = true)
    (a32 : PySem.W.nsIn K mainGlobals "how_many" = some (some (.ref f32)))
    (l32 : K.lookup f32 = some ⟨oc32, od32, .func (PySem.W.fnOf "how_many" "how_many" (defArgs s_how_many) (defBody s_how_many) (defScope s_how_many) .none kV32 dc32 pm32 an32 cd32 ct32), sl32⟩)
    (c32 : PySem.W.codeIn K cd32 "how_many" = true)
    (k32 : PySem.W.keepIn K (.ref f32) = true)
    (a33 : PySem.W.nsIn K mainGlobals "are_shades" = some (some (.ref f33)))
    (l33 : K.lookup f33 = some ⟨oc33, od33, .func (PySem.W.fnOf "are_shades" "are_shades" (defArgs s_are_shades) (defBody s_are_shades) (defScope s_are_shades) .none kV33 dc33 pm33 an33 cd33 ct33), sl33⟩)
    (c33 : PySem.W.codeIn K cd33 "are_shades" = true)
    (k33 : PySem.W.keepIn K (.ref f33) = true)
    (a34 : PySem.W.findIn K (.ref C_Lot) "__init__" = some (some (.ref f34)))
    (i34 : PySem.W.isFn K (.ref f34) = true)
    (l34 : K.lookup f34 = some ⟨oc34, od34, .func (PySem.W.fnOf "__init__" "Lot.__init__" (defArgs s_Lot_init) (defBody s_Lot_init) (defScope s_Lot_init) (.ref T34) kV34 dc34 pm34 an34 cd34 ct34), sl34⟩)
    (d34 : K.lookup T34 = some ⟨oT34, dT34, .seq (List.toArray [.int 1 td34_0, .int 1000000 td34_1, .none]) nT34, sT34⟩)
    (c34 : PySem.W.codeIn K cd34 "Lot.__init__" = true)
    (k34 : PySem.W.keepIn K (.ref f34) = true)
    (a35 : PySem.W.findIn K (.ref C_Lot) "__len__" = some (some (.ref f35)))
    (i35 : PySem.W.isFn K (.ref f35) = true)
    (l35 : K.lookup f35 = some ⟨oc35, od35, .func (PySem.W.fnOf "__len__" "Lot.__len__" (defArgs s_Lot_len) (defBody s_Lot_len) (defScope s_Lot_len) .none kV35 dc35 pm35 an35 cd35 ct35), sl35⟩)
    (c35 : PySem.W.codeIn K cd35 "Lot.__len__" = true)
    (k35 : PySem.W.keepIn K (.ref f35) = true)
    (a36 : PySem.W.findIn K (.ref C_Lot) "__eq__" = some (some (.ref f36)))
    (i36 : PySem.W.isFn K (.ref f36) = true)
    (l36 : K.lookup f36 = some ⟨oc36, od36, .func (PySem.W.fnOf "__eq__" "Lot.__eq__" (defArgs s_Lot_eq) (defBody s_Lot_eq) (defScope s_Lot_eq) .none kV36 dc36 pm36 an36 cd36 ct36), sl36⟩)
    (c36 : PySem.W.codeIn K cd36 "Lot.__eq__" = true)
    (k36 : PySem.W.keepIn K (.ref f36) = true)
    (a37 : PySem.W.findIn K (.ref C_Lot) "__str__" = some (some (.ref f37)))
    (i37 : PySem.W.isFn K (.ref f37) = true)
    (l37 : K.lookup f37 = some ⟨oc37, od37, .func (PySem.W.fnOf "__str__" "Lot.__str__" (defArgs s_Lot_str) (defBody s_Lot_str) (defScope s_Lot_str) .none kV37 dc37 pm37 an37 cd37 ct37), sl37⟩)
    (c37 : PySem.W.codeIn K cd37 "Lot.__str__" = true)
    (k37 : PySem.W.keepIn K (.ref f37) = true)
    (a38 : PySem.W.nsIn K mainGlobals "common_part" = some (some (.ref f38)))
    (l38 : K.lookup f38 = some ⟨oc38, od38, .func (PySem.W.fnOf "common_part" "common_part" (defArgs s_common_part) (defBody s_common_part) (defScope s_common_part) .none kV38 dc38 pm38 an38 cd38 ct38), sl38⟩)
    (c38 : PySem.W.codeIn K cd38 "common_part" = true)
    (k38 : PySem.W.keepIn K (.ref f38) = true)
    (a39 : PySem.W.findIn K (.ref C_Share) "__init__" = some (some (.ref f39)))
    (i39 : PySem.W.isFn K (.ref f39) = true)
    (l39 : K.lookup f39 = some ⟨oc39, od39, .func (PySem.W.fnOf "__init__" "Share.__init__" (defArgs s_Share_init) (defBody s_Share_init) (defScope s_Share_init) (.ref T39) kV39 dc39 pm39 an39 cd39 ct39), sl39⟩)
    (d39 : K.lookup T39 = some ⟨oT39, dT39, .seq (List.toArray [.int 1 td39_0]) nT39, sT39⟩)
    (c39 : PySem.W.codeIn K cd39 "Share.__init__" = true)
    (k39 : PySem.W.keepIn K (.ref f39) = true)
    (a40 : PySem.W.findIn K (.ref C_Share) "__eq__" = some (some (.ref f40)))
    (i40 : PySem.W.isFn K (.ref f40) = true)
    (l40 : K.lookup f40 = some ⟨oc40, od40, .func (PySem.W.fnOf "__eq__" "Share.__eq__" (defArgs s_Share_eq) (defBody s_Share_eq) (defScope s_Share_eq) .none kV40 dc40 pm40 an40 cd40 ct40), sl40⟩)
    (c40 : PySem.W.codeIn K cd40 "Share.__eq__" = true)
    (k40 : PySem.W.keepIn K (.ref f40) = true)
    (a41 : PySem.W.findIn K (.ref C_Share) "__repr__" = some (some (.ref f41)))
    (i41 : PySem.W.isFn K (.ref f41) = true)
    (l41 : K.lookup f41 = some ⟨oc41, od41, .func (PySem.W.fnOf "__repr__" "Share.__repr__" (defArgs s_Share_repr) (defBody s_Share_repr) (defScope s_Share_repr) .none kV41 dc41 pm41 an41 cd41 ct41), sl41⟩)
    (c41 : PySem.W.codeIn K cd41 "Share.__repr__" = true)
    (k41 : PySem.W.keepIn K (.ref f41) = true)
    (a42 : PySem.W.nsIn K mainGlobals "_law_draws" = some (some (.ref f42)))
    (l42 : K.lookup f42 = some ⟨oc42, od42, .func (PySem.W.fnOf "_law_draws" "_law_draws" (defArgs s_draws) (defBody s_draws) (defScope s_draws) .none kV42 dc42 pm42 an42 cd42 ct42), sl42⟩)
    (c42 : PySem.W.codeIn K cd42 "_law_draws" = true)
    (k42 : PySem.W.keepIn K (.ref f42) = true)
    (a43 : PySem.W.nsIn K mainGlobals "_law_next" = some (some (.ref f43)))
    (l43 : K.lookup f43 = some ⟨oc43, od43, .func (PySem.W.fnOf "_law_next" "_law_next" (defArgs s_next) (defBody s_next) (defScope s_next) .none kV43 dc43 pm43 an43 cd43 ct43), sl43⟩)
    (c43 : PySem.W.codeIn K cd43 "_law_next" = true)
    (k43 : PySem.W.keepIn K (.ref f43) = true)
    (a44 : PySem.W.nsIn K mainGlobals "_law_words" = some (some (.ref f44)))
    (l44 : K.lookup f44 = some ⟨oc44, od44, .func (PySem.W.fnOf "_law_words" "_law_words" (defArgs s_words) (defBody s_words) (defScope s_words) .none kV44 dc44 pm44 an44 cd44 ct44), sl44⟩)
    (c44 : PySem.W.codeIn K cd44 "_law_words" = true)
    (k44 : PySem.W.keepIn K (.ref f44) = true)
    (a45 : PySem.W.nsIn K mainGlobals "_law_row" = some (some (.ref f45)))
    (l45 : K.lookup f45 = some ⟨oc45, od45, .func (PySem.W.fnOf "_law_row" "_law_row" (defArgs s_row) (defBody s_row) (defScope s_row) .none kV45 dc45 pm45 an45 cd45 ct45), sl45⟩)
    (c45 : PySem.W.codeIn K cd45 "_law_row" = true)
    (k45 : PySem.W.keepIn K (.ref f45) = true)
    (a46 : PySem.W.nsIn K mainGlobals "_law_rows" = some (some (.ref f46)))
    (l46 : K.lookup f46 = some ⟨oc46, od46, .func (PySem.W.fnOf "_law_rows" "_law_rows" (defArgs s_rows) (defBody s_rows) (defScope s_rows) .none kV46 dc46 pm46 an46 cd46 ct46), sl46⟩)
    (c46 : PySem.W.codeIn K cd46 "_law_rows" = true)
    (k46 : PySem.W.keepIn K (.ref f46) = true)
    (a47 : PySem.W.nsIn K mainGlobals "_law_made" = some (some (.ref f47)))
    (l47 : K.lookup f47 = some ⟨oc47, od47, .func (PySem.W.fnOf "_law_made" "_law_made" (defArgs s_made) (defBody s_made) (defScope s_made) .none kV47 dc47 pm47 an47 cd47 ct47), sl47⟩)
    (c47 : PySem.W.codeIn K cd47 "_law_made" = true)
    (k47 : PySem.W.keepIn K (.ref f47) = true)
    (a48 : PySem.W.nsIn K mainGlobals "_law_shown" = some (some (.ref f48)))
    (l48 : K.lookup f48 = some ⟨oc48, od48, .func (PySem.W.fnOf "_law_shown" "_law_shown" (defArgs s_shown) (defBody s_shown) (defScope s_shown) .none kV48 dc48 pm48 an48 cd48 ct48), sl48⟩)
    (c48 : PySem.W.codeIn K cd48 "_law_shown" = true)
    (k48 : PySem.W.keepIn K (.ref f48) = true)
    (a49 : PySem.W.nsIn K mainGlobals "_law_beads" = some (some (.ref f49)))
    (l49 : K.lookup f49 = some ⟨oc49, od49, .func (PySem.W.fnOf "_law_beads" "_law_beads" (defArgs s_beads) (defBody s_beads) (defScope s_beads) .none kV49 dc49 pm49 an49 (.ref cc49) ct49), sl49⟩)
    (c49 : PySem.W.codeIn K (.ref cc49) "_law_beads" = true)
    (k49 : PySem.W.keepIn K (.ref f49) = true)
    (t49 : PySem.W.tabIn K "_law_beads" = some (cc49, PP49))
    (tn49 : K.lookup PP49 = none)
    (ct49_ : PySem.W.CodeHd h cc49 PP49 ∧ h.get? PP49 = some { cls := .none, data := .fields #[] })
    (a50 : PySem.W.nsIn K mainGlobals "_law_strings" = some (some (.ref f50)))
    (l50 : K.lookup f50 = some ⟨oc50, od50, .func (PySem.W.fnOf "_law_strings" "_law_strings" (defArgs s_strings) (defBody s_strings) (defScope s_strings) .none kV50 dc50 pm50 an50 cd50 ct50), sl50⟩)
    (c50 : PySem.W.codeIn K cd50 "_law_strings" = true)
    (k50 : PySem.W.keepIn K (.ref f50) = true)
    (a51 : PySem.W.nsIn K mainGlobals "_law_others" = some (some (.ref f51)))
    (l51 : K.lookup f51 = some ⟨oc51, od51, .func (PySem.W.fnOf "_law_others" "_law_others" (defArgs s_others) (defBody s_others) (defScope s_others) .none kV51 dc51 pm51 an51 cd51 ct51), sl51⟩)
    (c51 : PySem.W.codeIn K cd51 "_law_others" = true)
    (k51 : PySem.W.keepIn K (.ref f51) = true)
    (a52 : PySem.W.nsIn K mainGlobals "law" = some (some (.ref f52)))
    (l52 : K.lookup f52 = some ⟨oc52, od52, .func (PySem.W.fnOf "law" "law" (defArgs s_law) (defBody s_law) (defScope s_law) .none kV52 dc52 pm52 an52 cd52 ct52), sl52⟩)
    (c52 : PySem.W.codeIn K cd52 "law" = true)
    (k52 : PySem.W.keepIn K (.ref f52) = true)
    (q0 : PySem.W.nsIn K mainGlobals "LONGEST_NAME" = some (some (.int 8 tc0)))
    (q1 : PySem.W.nsIn K mainGlobals "GREATEST_NUMBER" = some (some (.int 1000000000 tc1)))
    (q2 : PySem.W.nsIn K mainGlobals "GROUP_FIGURES" = some (some (.int 60 tc2)))
    (q3 : PySem.W.nsIn K mainGlobals "GROUP" = some (some (.int 1000000000000000000000000000000000000000000000000000000000000 tc3)))
    (q4 : PySem.W.nsIn K mainGlobals "GREATEST_MEASURE" = some (some (.int 1000000 tc4)))
    (q5 : PySem.W.nsIn K mainGlobals "ROW_LENGTH" = some (some (.int 6 tc5)))
    (q6 : PySem.W.nsIn K mainGlobals "MOST_ROOM" = some (some (.int 20 tc6)))
    (z0 : PySem.W.nsIn K mainGlobals "bool" = some none)
    (z1 : PySem.W.nsIn K mainGlobals "isinstance" = some none)
    (z2 : PySem.W.nsIn K mainGlobals "int" = some none)
    (z3 : PySem.W.nsIn K mainGlobals "len" = some none)
    (z4 : PySem.W.nsIn K mainGlobals "str" = some none)
    (z5 : PySem.W.nsIn K mainGlobals "all" = some none)
    (z6 : PySem.W.nsIn K mainGlobals "abs" = some none)
    (z7 : PySem.W.nsIn K mainGlobals "divmod" = some none)
    (z8 : PySem.W.nsIn K mainGlobals "any" = some none)
    (z9 : PySem.W.nsIn K mainGlobals "enumerate" = some none)
    (z10 : PySem.W.nsIn K mainGlobals "tuple" = some none)
    (z11 : PySem.W.nsIn K mainGlobals "list" = some none)
    (z12 : PySem.W.nsIn K mainGlobals "sorted" = some none)
    (z13 : PySem.W.nsIn K mainGlobals "set" = some none)
    (z14 : PySem.W.nsIn K mainGlobals "range" = some none)
    (z15 : PySem.W.nsIn K mainGlobals "max" = some none)
    (z16 : PySem.W.nsIn K mainGlobals "zip" = some none)
    (z17 : PySem.W.nsIn K mainGlobals "repr" = some none)
    (ir1_Bead : PySem.W.findIn K (.ref C_Bead) "__class__" = some (some (.builtin "object.__class__")))
    (ir4_Bead : PySem.W.mroIn K C_Bead (.type "object") = some true)
    (hne_Bead : PySem.W.findIn K (.ref C_Bead) "__ne__" = some (some (.builtin "object.__ne__")))
    (ir1_Rule : PySem.W.findIn K (.ref C_Rule) "__class__" = some (some (.builtin "object.__class__")))
    (ir4_Rule : PySem.W.mroIn K C_Rule (.type "object") = some true)
    (hne_Rule : PySem.W.findIn K (.ref C_Rule) "__ne__" = some (some (.builtin "object.__ne__")))
    (ir1_String : PySem.W.findIn K (.ref C_String) "__class__" = some (some (.builtin "object.__class__")))
    (ir4_String : PySem.W.mroIn K C_String (.type "object") = some true)
    (hne_String : PySem.W.findIn K (.ref C_String) "__ne__" = some (some (.builtin "object.__ne__")))
    (ir1_Lot : PySem.W.findIn K (.ref C_Lot) "__class__" = some (some (.builtin "object.__class__")))
    (ir4_Lot : PySem.W.mroIn K C_Lot (.type "object") = some true)
    (hne_Lot : PySem.W.findIn K (.ref C_Lot) "__ne__" = some (some (.builtin "object.__ne__")))
    (ir1_Share : PySem.W.findIn K (.ref C_Share) "__class__" = some (some (.builtin "object.__class__")))
    (ir4_Share : PySem.W.mroIn K C_Share (.type "object") = some true)
    (hne_Share : PySem.W.findIn K (.ref C_Share) "__ne__" = some (some (.builtin "object.__ne__")))
    (xcg : PySem.W.specialIn K (.builtin "object.__class__") "__get__" = some (some (.builtin "getset_descriptor.__get__")))
    (xct : PySem.W.takesIn K (.builtin "object.__class__") = some true)
    (sn_int : PySem.W.subIn K (.ref C_Bead) (.type "int") = some false)
    (su_int : PySem.W.subIn K (.type "int") (.ref C_Bead) = some false)
    (no_int : PySem.W.kitOne K (.type "int") (.ref C_Bead) = some false)
    (sn_str : PySem.W.subIn K (.ref C_Bead) (.type "str") = some false)
    (su_str : PySem.W.subIn K (.type "str") (.ref C_Bead) = some false)
    (no_str : PySem.W.kitOne K (.type "str") (.ref C_Bead) = some false)
    (sn_bool : PySem.W.subIn K (.ref C_Bead) (.type "bool") = some false)
    (su_bool : PySem.W.subIn K (.type "bool") (.ref C_Bead) = some false)
    (no_bool : PySem.W.kitOne K (.type "bool") (.ref C_Bead) = some false)
    (sn_NoneType : PySem.W.subIn K (.ref C_Bead) (.type "NoneType") = some false)
    (su_NoneType : PySem.W.subIn K (.type "NoneType") (.ref C_Bead) = some false)
    (no_NoneType : PySem.W.kitOne K (.type "NoneType") (.ref C_Bead) = some false)
    (sn_list : PySem.W.subIn K (.ref C_Bead) (.type "list") = some false)
    (su_list : PySem.W.subIn K (.type "list") (.ref C_Bead) = some false)
    (no_list : PySem.W.kitOne K (.type "list") (.ref C_Bead) = some false)
    (sn_tuple : PySem.W.subIn K (.ref C_Bead) (.type "tuple") = some false)
    (su_tuple : PySem.W.subIn K (.type "tuple") (.ref C_Bead) = some false)
    (no_tuple : PySem.W.kitOne K (.type "tuple") (.ref C_Bead) = some false)
    (snL_int : PySem.W.subIn K (.ref C_Lot) (.type "int") = some false)
    (suL_int : PySem.W.subIn K (.type "int") (.ref C_Lot) = some false)
    (noL_int : PySem.W.kitOne K (.type "int") (.ref C_Lot) = some false)
    (snL_str : PySem.W.subIn K (.ref C_Lot) (.type "str") = some false)
    (suL_str : PySem.W.subIn K (.type "str") (.ref C_Lot) = some false)
    (noL_str : PySem.W.kitOne K (.type "str") (.ref C_Lot) = some false)
    (snL_bool : PySem.W.subIn K (.ref C_Lot) (.type "bool") = some false)
    (suL_bool : PySem.W.subIn K (.type "bool") (.ref C_Lot) = some false)
    (noL_bool : PySem.W.kitOne K (.type "bool") (.ref C_Lot) = some false)
    (snL_NoneType : PySem.W.subIn K (.ref C_Lot) (.type "NoneType") = some false)
    (suL_NoneType : PySem.W.subIn K (.type "NoneType") (.ref C_Lot) = some false)
    (noL_NoneType : PySem.W.kitOne K (.type "NoneType") (.ref C_Lot) = some false)
    (snL_list : PySem.W.subIn K (.ref C_Lot) (.type "list") = some false)
    (suL_list : PySem.W.subIn K (.type "list") (.ref C_Lot) = some false)
    (noL_list : PySem.W.kitOne K (.type "list") (.ref C_Lot) = some false)
    (snL_tuple : PySem.W.subIn K (.ref C_Lot) (.type "tuple") = some false)
    (suL_tuple : PySem.W.subIn K (.type "tuple") (.ref C_Lot) = some false)
    (noL_tuple : PySem.W.kitOne K (.type "tuple") (.ref C_Lot) = some false)
    (snH_int : PySem.W.subIn K (.ref C_Share) (.type "int") = some false)
    (suH_int : PySem.W.subIn K (.type "int") (.ref C_Share) = some false)
    (noH_int : PySem.W.kitOne K (.type "int") (.ref C_Share) = some false)
    (snH_str : PySem.W.subIn K (.ref C_Share) (.type "str") = some false)
    (suH_str : PySem.W.subIn K (.type "str") (.ref C_Share) = some false)
    (noH_str : PySem.W.kitOne K (.type "str") (.ref C_Share) = some false)
    (snH_bool : PySem.W.subIn K (.ref C_Share) (.type "bool") = some false)
    (suH_bool : PySem.W.subIn K (.type "bool") (.ref C_Share) = some false)
    (noH_bool : PySem.W.kitOne K (.type "bool") (.ref C_Share) = some false)
    (snH_NoneType : PySem.W.subIn K (.ref C_Share) (.type "NoneType") = some false)
    (suH_NoneType : PySem.W.subIn K (.type "NoneType") (.ref C_Share) = some false)
    (noH_NoneType : PySem.W.kitOne K (.type "NoneType") (.ref C_Share) = some false)
    (snH_list : PySem.W.subIn K (.ref C_Share) (.type "list") = some false)
    (suH_list : PySem.W.subIn K (.type "list") (.ref C_Share) = some false)
    (noH_list : PySem.W.kitOne K (.type "list") (.ref C_Share) = some false)
    (snH_tuple : PySem.W.subIn K (.ref C_Share) (.type "tuple") = some false)
    (suH_tuple : PySem.W.subIn K (.type "tuple") (.ref C_Share) = some false)
    (noH_tuple : PySem.W.kitOne K (.type "tuple") (.ref C_Share) = some false)
    (snS_int : PySem.W.subIn K (.ref C_String) (.type "int") = some false)
    (suS_int : PySem.W.subIn K (.type "int") (.ref C_String) = some false)
    (noS_int : PySem.W.kitOne K (.type "int") (.ref C_String) = some false)
    (snS_str : PySem.W.subIn K (.ref C_String) (.type "str") = some false)
    (suS_str : PySem.W.subIn K (.type "str") (.ref C_String) = some false)
    (noS_str : PySem.W.kitOne K (.type "str") (.ref C_String) = some false)
    (snS_bool : PySem.W.subIn K (.ref C_String) (.type "bool") = some false)
    (suS_bool : PySem.W.subIn K (.type "bool") (.ref C_String) = some false)
    (noS_bool : PySem.W.kitOne K (.type "bool") (.ref C_String) = some false)
    (snS_NoneType : PySem.W.subIn K (.ref C_String) (.type "NoneType") = some false)
    (suS_NoneType : PySem.W.subIn K (.type "NoneType") (.ref C_String) = some false)
    (noS_NoneType : PySem.W.kitOne K (.type "NoneType") (.ref C_String) = some false)
    (snS_list : PySem.W.subIn K (.ref C_String) (.type "list") = some false)
    (suS_list : PySem.W.subIn K (.type "list") (.ref C_String) = some false)
    (noS_list : PySem.W.kitOne K (.type "list") (.ref C_String) = some false)
    (snS_tuple : PySem.W.subIn K (.ref C_String) (.type "tuple") = some false)
    (suS_tuple : PySem.W.subIn K (.type "tuple") (.ref C_String) = some false)
    (noS_tuple : PySem.W.kitOne K (.type "tuple") (.ref C_String) = some false)
    (su_LR : PySem.W.subIn K (.ref C_Rule) (.ref C_Lot) = some false)
    (no_LR : PySem.W.kitOne K (.ref C_Rule) (.ref C_Lot) = some false)
    (bb_Bead : PySem.W.findIn K (.ref C_Bead) "__bool__" = some none)
    (bb_String : PySem.W.findIn K (.ref C_String) "__bool__" = some none)
    (bb_Lot : PySem.W.findIn K (.ref C_Lot) "__bool__" = some none)
    (bl_Bead : PySem.W.findIn K (.ref C_Bead) "__len__" = some none)
    (pp_ne : PP30 ≠ PP49) :
    LawAtG l w K CX0 20 63 "_law_script" mg fa h := by
  have e := hfa.symm.trans (PySem.W.mg_of X G a52)
  cases e
  have F0 := fun_mk (st := s_is_int) l0 c0 k0
  have F1 := fun_mk (st := s_is_whole) l1 c1 k1
  have F2 := fun_mk (st := s_is_from_nought) l2 c2 k2
  have F3 := fun_mk (st := s_is_name) l3 c3 k3
  have F4 := fun_mk (st := s_is_number) l4 c4 k4
  have F5 := fun_mk (st := s_figures) l5 c5 k5
  have F6 : FunD K "__init__" "Rule.__init__" (defArgs s_Rule_init) (defBody s_Rule_init) (defScope s_Rule_init) [.int 0, .int 10, .int 0, .bl true] [] f6 (PySem.W.fnOf "__init__" "Rule.__init__" (defArgs s_Rule_init) (defBody s_Rule_init) (defScope s_Rule_init) (.ref T6) kV6 dc6 pm6 an6 cd6 ct6) := ⟨⟨_, _, _, _, _, _, _, _, _, _, rfl, l6, c6, .inr ⟨(fun z => nomatch z), _, _, _, _, rfl, d6, rfl, .cons ⟨_, rfl⟩ (.cons ⟨_, rfl⟩ (.cons ⟨_, rfl⟩ (.cons rfl (.nil))))⟩, .inl rfl⟩, k6⟩
  have F7 := fun_mk (st := s_Rule_eq) l7 c7 k7
  have F8 := fun_mk (st := s_Rule_repr) l8 c8 k8
  have F9 := fun_mk (st := s_stands_ahead) l9 c9 k9
  have F10 := fun_mk (st := s_breaks_step) l10 c10 k10
  have F11 := fun_mk (st := s_partner_of) l11 c11 k11
  have F12 := fun_mk (st := s_same_look) l12 c12 k12
  have F13 := fun_mk (st := s_reason_at) l13 c13 k13
  have F14 := fun_mk (st := s_barred) l14 c14 k14
  have F15 := fun_mk (st := s_String_init) l15 c15 k15
  have F16 := fun_mk (st := s_String_beads) l16 c16 k16
  have F17 := fun_mk (st := s_String_turned) l17 c17 k17
  have F18 := fun_mk (st := s_String_len) l18 c18 k18
  have F19 := fun_mk (st := s_String_eq) l19 c19 k19
  have F20 := fun_mk (st := s_String_repr) l20 c20 k20
  have F21 := fun_mk (st := s_String_str) l21 c21 k21
  have F22 := fun_mk (st := s_is_measure) l22 c22 k22
  have F23 : FunD K "__init__" "Bead.__init__" (defArgs s_Bead_init) (defBody s_Bead_init) (defScope s_Bead_init) [.str "round", .bl false] [] f23 (PySem.W.fnOf "__init__" "Bead.__init__" (defArgs s_Bead_init) (defBody s_Bead_init) (defScope s_Bead_init) (.ref T23) kV23 dc23 pm23 an23 cd23 ct23) := ⟨⟨_, _, _, _, _, _, _, _, _, _, rfl, l23, c23, .inr ⟨(fun z => nomatch z), _, _, _, _, rfl, d23, rfl, .cons ⟨_, rfl⟩ (.cons rfl (.nil))⟩, .inl rfl⟩, k23⟩
  have F24 := fun_mk (st := s_Bead_row) l24 c24 k24
  have F25 := fun_mk (st := s_Bead_key) l25 c25 k25
  have F26 := fun_mk (st := s_Bead_eq) l26 c26 k26
  have F27 := fun_mk (st := s_Bead_repr) l27 c27 k27
  have F28 := fun_mk (st := s_Bead_str) l28 c28 k28
  have F29 := fun_mk (st := s_bead_of) l29 c29 k29
  have F30 := fun_mk (st := s_in_order) l30 c30 k30
  have F31 := fun_mk (st := s_unlike) l31 c31 k31
  have F32 := fun_mk (st := s_how_many) l32 c32 k32
  have F33 := fun_mk (st := s_are_shades) l33 c33 k33
  have F34 : FunD K "__init__" "Lot.__init__" (defArgs s_Lot_init) (defBody s_Lot_init) (defScope s_Lot_init) [.int 1, .int 1000000, .non] [] f34 (PySem.W.fnOf "__init__" "Lot.__init__" (defArgs s_Lot_init) (defBody s_Lot_init) (defScope s_Lot_init) (.ref T34) kV34 dc34 pm34 an34 cd34 ct34) := ⟨⟨_, _, _, _, _, _, _, _, _, _, rfl, l34, c34, .inr ⟨(fun z => nomatch z), _, _, _, _, rfl, d34, rfl, .cons ⟨_, rfl⟩ (.cons ⟨_, rfl⟩ (.cons rfl (.nil)))⟩, .inl rfl⟩, k34⟩
  have F35 := fun_mk (st := s_Lot_len) l35 c35 k35
  have F36 := fun_mk (st := s_Lot_eq) l36 c36 k36
  have F37 := fun_mk (st := s_Lot_str) l37 c37 k37
  have F38 := fun_mk (st := s_common_part) l38 c38 k38
  have F39 : FunD K "__init__" "Share.__init__" (defArgs s_Share_init) (defBody s_Share_init) (defScope s_Share_init) [.int 1] [] f39 (PySem.W.fnOf "__init__" "Share.__init__" (defArgs s_Share_init) (defBody s_Share_init) (defScope s_Share_init) (.ref T39) kV39 dc39 pm39 an39 cd39 ct39) := ⟨⟨_, _, _, _, _, _, _, _, _, _, rfl, l39, c39, .inr ⟨(fun z => nomatch z), _, _, _, _, rfl, d39, rfl, .cons ⟨_, rfl⟩ (.nil)⟩, .inl rfl⟩, k39⟩
  have F40 := fun_mk (st := s_Share_eq) l40 c40 k40
  have F41 := fun_mk (st := s_Share_repr) l41 c41 k41
  have F42 := fun_mk (st := s_draws) l42 c42 k42
  have F43 := fun_mk (st := s_next) l43 c43 k43
  have F44 := fun_mk (st := s_words) l44 c44 k44
  have F45 := fun_mk (st := s_row) l45 c45 k45
  have F46 := fun_mk (st := s_rows) l46 c46 k46
  have F47 := fun_mk (st := s_made) l47 c47 k47
  have F48 := fun_mk (st := s_shown) l48 c48 k48
  have F49 := fun_mk (st := s_beads) l49 c49 k49
  have F50 := fun_mk (st := s_strings) l50 c50 k50
  have F51 := fun_mk (st := s_others) l51 c51 k51
  have F52 := fun_mk (st := s_law) l52 c52 k52
  have b0 := F0.binds (ps := ["thing"]) fun _ _ _ _ _ _ us hl => match us, hl with | [_], _ => rfl
  have b1 := F1.binds (ps := ["thing", "least", "most"]) fun _ _ _ _ _ _ us hl => match us, hl with | [_, _, _], _ => rfl
  have b2 := F2.binds (ps := ["thing"]) fun _ _ _ _ _ _ us hl => match us, hl with | [_], _ => rfl
  have b3 := F3.binds (ps := ["thing"]) fun _ _ _ _ _ _ us hl => match us, hl with | [_], _ => rfl
  have b4 := F4.binds (ps := ["thing"]) fun _ _ _ _ _ _ us hl => match us, hl with | [_], _ => rfl
  have b5 := F5.binds (ps := ["number"]) fun _ _ _ _ _ _ us hl => match us, hl with | [_], _ => rfl
  have b6 : Binds K (PySem.W.fnOf "__init__" "Rule.__init__" (defArgs s_Rule_init) (defBody s_Rule_init) (defScope s_Rule_init) (.ref T6) kV6 dc6 pm6 an6 cd6 ct6) ["self", "least", "most", "match", "shades"] [] := by
    obtain ⟨ds, hv, hb⟩ := F6.binds1 (ps := ["self", "least", "most", "match", "shades"]) 5 4 (fun z => nomatch z) rfl fun _ _ _ _ _ _ _ us its h1 h2 => match us, its, h1, h2 with | [_, _, _, _, _], [_, _, _, _], _, _ => ⟨_, rfl, rfl⟩
    cases hv
    exact hb
  have b7 := F7.binds (ps := ["self", "other"]) fun _ _ _ _ _ _ us hl => match us, hl with | [_, _], _ => rfl
  have b8 := F8.binds (ps := ["self"]) fun _ _ _ _ _ _ us hl => match us, hl with | [_], _ => rfl
  have b9 := F9.binds (ps := ["beads", "at"]) fun _ _ _ _ _ _ us hl => match us, hl with | [_, _], _ => rfl
  have b10 := F10.binds (ps := ["beads", "at", "rule"]) fun _ _ _ _ _ _ us hl => match us, hl with | [_, _, _], _ => rfl
  have b11 := F11.binds (ps := ["beads", "at"]) fun _ _ _ _ _ _ us hl => match us, hl with | [_, _], _ => rfl
  have b12 := F12.binds (ps := ["bead", "other"]) fun _ _ _ _ _ _ us hl => match us, hl with | [_, _], _ => rfl
  have b13 := F13.binds (ps := ["beads", "at", "rule"]) fun _ _ _ _ _ _ us hl => match us, hl with | [_, _, _], _ => rfl
  have b14 := F14.binds (ps := ["beads", "rule"]) fun _ _ _ _ _ _ us hl => match us, hl with | [_, _], _ => rfl
  have b15 := F15.binds (ps := ["self", "beads", "rule"]) fun _ _ _ _ _ _ us hl => match us, hl with | [_, _, _], _ => rfl
  have b16 := F16.binds (ps := ["self"]) fun _ _ _ _ _ _ us hl => match us, hl with | [_], _ => rfl
  have b17 := F17.binds (ps := ["self"]) fun _ _ _ _ _ _ us hl => match us, hl with | [_], _ => rfl
  have b18 := F18.binds (ps := ["self"]) fun _ _ _ _ _ _ us hl => match us, hl with | [_], _ => rfl
  have b19 := F19.binds (ps := ["self", "other"]) fun _ _ _ _ _ _ us hl => match us, hl with | [_, _], _ => rfl
  have b20 := F20.binds (ps := ["self"]) fun _ _ _ _ _ _ us hl => match us, hl with | [_], _ => rfl
  have b21 := F21.binds (ps := ["self"]) fun _ _ _ _ _ _ us hl => match us, hl with | [_], _ => rfl
  have b22 := F22.binds (ps := ["thing"]) fun _ _ _ _ _ _ us hl => match us, hl with | [_], _ => rfl
  have b23 : Binds K (PySem.W.fnOf "__init__" "Bead.__init__" (defArgs s_Bead_init) (defBody s_Bead_init) (defScope s_Bead_init) (.ref T23) kV23 dc23 pm23 an23 cd23 ct23) ["self", "number", "across", "weight", "shade", "form", "drilled"] [] := by
    obtain ⟨ds, hv, hb⟩ := F23.binds1 (ps := ["self", "number", "across", "weight", "shade", "form", "drilled"]) 7 2 (fun z => nomatch z) rfl fun _ _ _ _ _ _ _ us its h1 h2 => match us, its, h1, h2 with | [_, _, _, _, _, _, _], [_, _], _, _ => ⟨_, rfl, rfl⟩
    cases hv
    exact hb
  have b24 := F24.binds (ps := ["self"]) fun _ _ _ _ _ _ us hl => match us, hl with | [_], _ => rfl
  have b25 := F25.binds (ps := ["self"]) fun _ _ _ _ _ _ us hl => match us, hl with | [_], _ => rfl
  have b26 := F26.binds (ps := ["self", "other"]) fun _ _ _ _ _ _ us hl => match us, hl with | [_, _], _ => rfl
  have b27 := F27.binds (ps := ["self"]) fun _ _ _ _ _ _ us hl => match us, hl with | [_], _ => rfl
  have b28 := F28.binds (ps := ["self"]) fun _ _ _ _ _ _ us hl => match us, hl with | [_], _ => rfl
  have b29 := F29.binds (ps := ["row"]) fun _ _ _ _ _ _ us hl => match us, hl with | [_], _ => rfl
  have b30 := F30.binds (ps := ["beads"]) fun _ _ _ _ _ _ us hl => match us, hl with | [_], _ => rfl
  have b31 := F31.binds (ps := ["beads"]) fun _ _ _ _ _ _ us hl => match us, hl with | [_], _ => rfl
  have b32 := F32.binds (ps := ["beads", "bead"]) fun _ _ _ _ _ _ us hl => match us, hl with | [_, _], _ => rfl
  have b33 := F33.binds (ps := ["thing"]) fun _ _ _ _ _ _ us hl => match us, hl with | [_], _ => rfl
  have b34 : Binds K (PySem.W.fnOf "__init__" "Lot.__init__" (defArgs s_Lot_init) (defBody s_Lot_init) (defScope s_Lot_init) (.ref T34) kV34 dc34 pm34 an34 cd34 ct34) ["self", "name", "room", "least", "most", "shades"] [] := by
    obtain ⟨ds, hv, hb⟩ := F34.binds1 (ps := ["self", "name", "room", "least", "most", "shades"]) 6 3 (fun z => nomatch z) rfl fun _ _ _ _ _ _ _ us its h1 h2 => match us, its, h1, h2 with | [_, _, _, _, _, _], [_, _, _], _, _ => ⟨_, rfl, rfl⟩
    cases hv
    exact hb
  have b35 := F35.binds (ps := ["self"]) fun _ _ _ _ _ _ us hl => match us, hl with | [_], _ => rfl
  have b36 := F36.binds (ps := ["self", "other"]) fun _ _ _ _ _ _ us hl => match us, hl with | [_, _], _ => rfl
  have b37 := F37.binds (ps := ["self"]) fun _ _ _ _ _ _ us hl => match us, hl with | [_], _ => rfl
  have b38 := F38.binds (ps := ["one", "other"]) fun _ _ _ _ _ _ us hl => match us, hl with | [_, _], _ => rfl
  have b39 : Binds K (PySem.W.fnOf "__init__" "Share.__init__" (defArgs s_Share_init) (defBody s_Share_init) (defScope s_Share_init) (.ref T39) kV39 dc39 pm39 an39 cd39 ct39) ["self", "num", "over"] [] := by
    obtain ⟨ds, hv, hb⟩ := F39.binds1 (ps := ["self", "num", "over"]) 3 1 (fun z => nomatch z) rfl fun _ _ _ _ _ _ _ us its h1 h2 => match us, its, h1, h2 with | [_, _, _], [_], _, _ => ⟨_, rfl, rfl⟩
    cases hv
    exact hb
  have b40 := F40.binds (ps := ["self", "other"]) fun _ _ _ _ _ _ us hl => match us, hl with | [_, _], _ => rfl
  have b41 := F41.binds (ps := ["self"]) fun _ _ _ _ _ _ us hl => match us, hl with | [_], _ => rfl
  have b42 := F42.binds (ps := ["_law_cell"]) fun _ _ _ _ _ _ us hl => match us, hl with | [_], _ => rfl
  have b43 := F43.binds (ps := ["_law_draws_here", "_law_size"]) fun _ _ _ _ _ _ us hl => match us, hl with | [_, _], _ => rfl
  have b44 := F44.binds (ps := ["_law_draws_here", "_law_many"]) fun _ _ _ _ _ _ us hl => match us, hl with | [_, _], _ => rfl
  have b45 := F45.binds (ps := ["_law_draws_here", "_law_mark", "_law_words_here", "_law_wide"]) fun _ _ _ _ _ _ us hl => match us, hl with | [_, _, _, _], _ => rfl
  have b46 := F46.binds (ps := ["_law_draws_here", "_law_words_here"]) fun _ _ _ _ _ _ us hl => match us, hl with | [_, _], _ => rfl
  have b47 := F47.binds (ps := ["_law_row_here", "_law_way"]) fun _ _ _ _ _ _ us hl => match us, hl with | [_, _], _ => rfl
  have b48 := F48.binds (ps := ["_law_row_here"]) fun _ _ _ _ _ _ us hl => match us, hl with | [_], _ => rfl
  have b49 := F49.binds (ps := ["_law_rows_here", "_law_beads_here"]) fun _ _ _ _ _ _ us hl => match us, hl with | [_, _], _ => rfl
  have b50 := F50.binds (ps := ["_law_draws_here", "_law_rows_here", "_law_beads_here"]) fun _ _ _ _ _ _ us hl => match us, hl with | [_, _, _], _ => rfl
  have b51 := F51.binds (ps := ["_law_draws_here", "_law_words_here"]) fun _ _ _ _ _ _ us hl => match us, hl with | [_, _], _ => rfl
  obtain ⟨i_kb_1, h_kb_1⟩ := F23.kbindsD (ps := ["self", "number", "across", "weight", "shade", "form", "drilled"]) 1 ["drilled", "form", "shade", "weight", "across", "number"] (fun us its ws => kw [(0, 0), (2, 5), (2, 4), (2, 3), (2, 2), (2, 1), (2, 0)] us its ws) (fun z => nomatch z) (fun r1 r2 r3 => kw_rel _ r1 r2 r3) (fun _ _ _ _ _ _ _ us its ws h1 h2 h3 => match us, its, ws, h1, h2, h3 with | [_], [_, _], [_, _, _, _, _, _], _, _, _ => ⟨_, rfl, rfl⟩)
  obtain ⟨i_kb_2, h_kb_2⟩ := F23.kbindsD (ps := ["self", "number", "across", "weight", "shade", "form", "drilled"]) 6 ["drilled"] (fun us its ws => kw [(0, 0), (0, 1), (0, 2), (0, 3), (0, 4), (0, 5), (2, 0)] us its ws) (fun z => nomatch z) (fun r1 r2 r3 => kw_rel _ r1 r2 r3) (fun _ _ _ _ _ _ _ us its ws h1 h2 h3 => match us, its, ws, h1, h2, h3 with | [_, _, _, _, _, _], [_, _], [_], _, _, _ => ⟨_, rfl, rfl⟩)
  obtain ⟨i_kb_3, h_kb_3⟩ := F6.kbindsD (ps := ["self", "least", "most", "match", "shades"]) 1 ["most", "match", "shades"] (fun us its ws => kw [(0, 0), (1, 0), (2, 0), (2, 1), (2, 2)] us its ws) (fun z => nomatch z) (fun r1 r2 r3 => kw_rel _ r1 r2 r3) (fun _ _ _ _ _ _ _ us its ws h1 h2 h3 => match us, its, ws, h1, h2, h3 with | [_], [_, _, _, _], [_, _, _], _, _, _ => ⟨_, rfl, rfl⟩)
  obtain ⟨i_kb_4, h_kb_4⟩ := F6.kbindsD (ps := ["self", "least", "most", "match", "shades"]) 3 ["match"] (fun us its ws => kw [(0, 0), (0, 1), (0, 2), (2, 0), (1, 3)] us its ws) (fun z => nomatch z) (fun r1 r2 r3 => kw_rel _ r1 r2 r3) (fun _ _ _ _ _ _ _ us its ws h1 h2 h3 => match us, its, ws, h1, h2, h3 with | [_, _, _], [_, _, _, _], [_], _, _, _ => ⟨_, rfl, rfl⟩)
  obtain ⟨i_kb_5, h_kb_5⟩ := F39.kbindsD (ps := ["self", "num", "over"]) 1 ["over", "num"] (fun us its ws => kw [(0, 0), (2, 1), (2, 0)] us its ws) (fun z => nomatch z) (fun r1 r2 r3 => kw_rel _ r1 r2 r3) (fun _ _ _ _ _ _ _ us its ws h1 h2 h3 => match us, its, ws, h1, h2, h3 with | [_], [_], [_, _], _, _, _ => ⟨_, rfl, rfl⟩)
  obtain ⟨i_kb_6, h_kb_6⟩ := F34.kbindsD (ps := ["self", "name", "room", "least", "most", "shades"]) 3 ["shades"] (fun us its ws => kw [(0, 0), (0, 1), (0, 2), (1, 0), (1, 1), (2, 0)] us its ws) (fun z => nomatch z) (fun r1 r2 r3 => kw_rel _ r1 r2 r3) (fun _ _ _ _ _ _ _ us its ws h1 h2 h3 => match us, its, ws, h1, h2, h3 with | [_, _, _], [_, _, _], [_], _, _, _ => ⟨_, rfl, rfl⟩)
  obtain ⟨i_kb_7, h_kb_7⟩ := F34.kbindsD (ps := ["self", "name", "room", "least", "most", "shades"]) 2 ["shades", "room"] (fun us its ws => kw [(0, 0), (0, 1), (2, 1), (1, 0), (1, 1), (2, 0)] us its ws) (fun z => nomatch z) (fun r1 r2 r3 => kw_rel _ r1 r2 r3) (fun _ _ _ _ _ _ _ us its ws h1 h2 h3 => match us, its, ws, h1, h2, h3 with | [_, _], [_, _, _], [_, _], _, _, _ => ⟨_, rfl, rfl⟩)
  obtain ⟨i_kb_8, h_kb_8⟩ := F6.kbindsD (ps := ["self", "least", "most", "match", "shades"]) 1 ["shades", "match", "most", "least"] (fun us its ws => kw [(0, 0), (2, 3), (2, 2), (2, 1), (2, 0)] us its ws) (fun z => nomatch z) (fun r1 r2 r3 => kw_rel _ r1 r2 r3) (fun _ _ _ _ _ _ _ us its ws h1 h2 h3 => match us, its, ws, h1, h2, h3 with | [_], [_, _, _, _], [_, _, _, _], _, _, _ => ⟨_, rfl, rfl⟩)
  obtain ⟨ds_Bead, hd_Bead_, bd_Bead⟩ := F23.binds1 (ps := ["self", "number", "across", "weight", "shade", "form", "drilled"]) 5 0 (fun z => nomatch z) rfl fun _ _ _ _ _ _ _ us its h1 h2 => match us, its, h1, h2 with | [_, _, _, _, _], [_, _], _, _ => ⟨_, rfl, rfl⟩
  obtain ⟨ds_Rule, hd_Rule_, bd_Rule⟩ := F6.binds1 (ps := ["self", "least", "most", "match", "shades"]) 4 3 (fun z => nomatch z) rfl fun _ _ _ _ _ _ _ us its h1 h2 => match us, its, h1, h2 with | [_, _, _, _], [_, _, _, _], _, _ => ⟨_, rfl, rfl⟩
  let T : Tx K mg := ⟨C_Bead, ⟨pg_Bead, hd_Bead, po_Bead, sa_Bead⟩, PySem.W.mg_of X G aC_Bead, n_Bead_number, n_Bead_across, n_Bead_weight, n_Bead_shade, n_Bead_form, n_Bead_drilled,
    C_Rule, ⟨pg_Rule, hd_Rule, po_Rule, sa_Rule⟩, PySem.W.mg_of X G aC_Rule, n_Rule_least, n_Rule_most, n_Rule_match, n_Rule_shades,
    C_String, ⟨pg_String, hd_String, po_String, sa_String⟩, PySem.W.mg_of X G aC_String, n_String_held, n_String_rule,
    C_Lot, ⟨pg_Lot, hd_Lot, po_Lot, sa_Lot⟩, PySem.W.mg_of X G aC_Lot, n_Lot_name, n_Lot_room, n_Lot_least, n_Lot_most, n_Lot_shades,
    C_Share, ⟨pg_Share, hd_Share, po_Share, sa_Share⟩, PySem.W.mg_of X G aC_Share, n_Share_num, n_Share_over,
    _, _, F0, PySem.W.mg_of X G a0, b0,
    _, _, F1, PySem.W.mg_of X G a1, b1,
    _, _, F2, PySem.W.mg_of X G a2, b2,
    _, _, F3, PySem.W.mg_of X G a3, b3,
    _, _, F4, PySem.W.mg_of X G a4, b4,
    _, _, F5, PySem.W.mg_of X G a5, b5,
    _, _, F6, ⟨mk_Rule, a6, i6, kc_Rule⟩, b6,
    _, _, F7, ⟨a7, i7, k7⟩, b7,
    _, _, F8, ⟨a8, i8, k8⟩, b8,
    _, _, F9, PySem.W.mg_of X G a9, b9,
    _, _, F10, PySem.W.mg_of X G a10, b10,
    _, _, F11, PySem.W.mg_of X G a11, b11,
    _, _, F12, PySem.W.mg_of X G a12, b12,
    _, _, F13, PySem.W.mg_of X G a13, b13,
    _, _, F14, PySem.W.mg_of X G a14, b14,
    _, _, F15, ⟨mk_String, a15, i15, kc_String⟩, b15,
    _, _, F16, ⟨a16, i16, k16⟩, b16,
    _, _, F17, ⟨a17, i17, k17⟩, b17,
    _, _, F18, ⟨a18, i18, k18⟩, b18,
    _, _, F19, ⟨a19, i19, k19⟩, b19,
    _, _, F20, ⟨a20, i20, k20⟩, b20,
    _, _, F21, ⟨a21, i21, k21⟩, b21,
    _, _, F22, PySem.W.mg_of X G a22, b22,
    _, _, F23, ⟨mk_Bead, a23, i23, kc_Bead⟩, b23,
    _, _, F24, ⟨a24, i24, k24⟩, b24,
    _, _, F25, ⟨a25, i25, k25⟩, b25,
    _, _, F26, ⟨a26, i26, k26⟩, b26,
    _, _, F27, ⟨a27, i27, k27⟩, b27,
    _, _, F28, ⟨a28, i28, k28⟩, b28,
    _, _, F29, PySem.W.mg_of X G a29, b29,
    _, _, F30, PySem.W.mg_of X G a30, b30,
    _, _, F31, PySem.W.mg_of X G a31, b31,
    _, _, F32, PySem.W.mg_of X G a32, b32,
    _, _, F33, PySem.W.mg_of X G a33, b33,
    _, _, F34, ⟨mk_Lot, a34, i34, kc_Lot⟩, b34,
    _, _, F35, ⟨a35, i35, k35⟩, b35,
    _, _, F36, ⟨a36, i36, k36⟩, b36,
    _, _, F37, ⟨a37, i37, k37⟩, b37,
    _, _, F38, PySem.W.mg_of X G a38, b38,
    _, _, F39, ⟨mk_Share, a39, i39, kc_Share⟩, b39,
    _, _, F40, ⟨a40, i40, k40⟩, b40,
    _, _, F41, ⟨a41, i41, k41⟩, b41,
    _, _, F42, PySem.W.mg_of X G a42, b42,
    _, _, F43, PySem.W.mg_of X G a43, b43,
    _, _, F44, PySem.W.mg_of X G a44, b44,
    _, _, F45, PySem.W.mg_of X G a45, b45,
    _, _, F46, PySem.W.mg_of X G a46, b46,
    _, _, F47, PySem.W.mg_of X G a47, b47,
    _, _, F48, PySem.W.mg_of X G a48, b48,
    _, _, F49, PySem.W.mg_of X G a49, b49,
    _, _, F50, PySem.W.mg_of X G a50, b50,
    _, _, F51, PySem.W.mg_of X G a51, b51,
    cc30, PP30, rfl,
    cc49, PP49, rfl,
    i_kb_1,
    h_kb_1,
    i_kb_2,
    h_kb_2,
    i_kb_3,
    h_kb_3,
    i_kb_4,
    h_kb_4,
    i_kb_5,
    h_kb_5,
    i_kb_6,
    h_kb_6,
    i_kb_7,
    h_kb_7,
    i_kb_8,
    h_kb_8,
    ds_Bead,
    hd_Bead_,
    bd_Bead,
    ds_Rule,
    hd_Rule_,
    bd_Rule,
    ⟨ir1_Bead, xcg, xct, ir4_Bead, if_pos (beq_self_eq_true _)⟩,
    (if_pos (beq_self_eq_true _)),
    ir4_Bead,
    hne_Bead,
    ⟨ir1_Rule, xcg, xct, ir4_Rule, if_pos (beq_self_eq_true _)⟩,
    (if_pos (beq_self_eq_true _)),
    ir4_Rule,
    hne_Rule,
    ⟨ir1_String, xcg, xct, ir4_String, if_pos (beq_self_eq_true _)⟩,
    (if_pos (beq_self_eq_true _)),
    ir4_String,
    hne_String,
    ⟨ir1_Lot, xcg, xct, ir4_Lot, if_pos (beq_self_eq_true _)⟩,
    (if_pos (beq_self_eq_true _)),
    ir4_Lot,
    hne_Lot,
    ⟨ir1_Share, xcg, xct, ir4_Share, if_pos (beq_self_eq_true _)⟩,
    (if_pos (beq_self_eq_true _)),
    ir4_Share,
    hne_Share,
    sn_int,
    (by simp [PySem.W.notFirst, su_int]),
    no_int,
    sn_str,
    (by simp [PySem.W.notFirst, su_str]),
    no_str,
    sn_bool,
    (by simp [PySem.W.notFirst, su_bool]),
    no_bool,
    sn_NoneType,
    (by simp [PySem.W.notFirst, su_NoneType]),
    no_NoneType,
    sn_list,
    (by simp [PySem.W.notFirst, su_list]),
    no_list,
    sn_tuple,
    (by simp [PySem.W.notFirst, su_tuple]),
    no_tuple,
    snL_int,
    (by simp [PySem.W.notFirst, suL_int]),
    noL_int,
    snL_str,
    (by simp [PySem.W.notFirst, suL_str]),
    noL_str,
    snL_bool,
    (by simp [PySem.W.notFirst, suL_bool]),
    noL_bool,
    snL_NoneType,
    (by simp [PySem.W.notFirst, suL_NoneType]),
    noL_NoneType,
    snL_list,
    (by simp [PySem.W.notFirst, suL_list]),
    noL_list,
    snL_tuple,
    (by simp [PySem.W.notFirst, suL_tuple]),
    noL_tuple,
    snH_int,
    (by simp [PySem.W.notFirst, suH_int]),
    noH_int,
    snH_str,
    (by simp [PySem.W.notFirst, suH_str]),
    noH_str,
    snH_bool,
    (by simp [PySem.W.notFirst, suH_bool]),
    noH_bool,
    snH_NoneType,
    (by simp [PySem.W.notFirst, suH_NoneType]),
    noH_NoneType,
    snH_list,
    (by simp [PySem.W.notFirst, suH_list]),
    noH_list,
    snH_tuple,
    (by simp [PySem.W.notFirst, suH_tuple]),
    noH_tuple,
    snS_int,
    (by simp [PySem.W.notFirst, suS_int]),
    noS_int,
    snS_str,
    (by simp [PySem.W.notFirst, suS_str]),
    noS_str,
    snS_bool,
    (by simp [PySem.W.notFirst, suS_bool]),
    noS_bool,
    snS_NoneType,
    (by simp [PySem.W.notFirst, suS_NoneType]),
    noS_NoneType,
    snS_list,
    (by simp [PySem.W.notFirst, suS_list]),
    noS_list,
    snS_tuple,
    (by simp [PySem.W.notFirst, suS_tuple]),
    noS_tuple,
    no_LR,
    (by simp [PySem.W.notFirst, su_LR]),
    bb_Bead,
    bb_String,
    bb_Lot,
    bl_Bead,
    pp_ne,
    _, PySem.W.mg_of X G q0,
    _, PySem.W.mg_of X G q1,
    _, PySem.W.mg_of X G q2,
    _, PySem.W.mg_of X G q3,
    _, PySem.W.mg_of X G q4,
    _, PySem.W.mg_of X G q5,
    _, PySem.W.mg_of X G q6,
    PySem.W.mg_none_of X G z0,
    PySem.W.mg_none_of X G z1,
    PySem.W.mg_none_of X G z2,
    PySem.W.mg_none_of X G z3,
    PySem.W.mg_none_of X G z4,
    PySem.W.mg_none_of X G z5,
    PySem.W.mg_none_of X G z6,
    PySem.W.mg_none_of X G z7,
    PySem.W.mg_none_of X G z8,
    PySem.W.mg_none_of X G z9,
    PySem.W.mg_none_of X G z10,
    PySem.W.mg_none_of X G z11,
    PySem.W.mg_none_of X G z12,
    PySem.W.mg_none_of X G z13,
    PySem.W.mg_none_of X G z14,
    PySem.W.mg_none_of X G z15,
    PySem.W.mg_none_of X G z16,
    PySem.W.mg_none_of X G z17⟩
  exact ⟨PySem.W.fnOf "law" "law" (defArgs s_law) (defBody s_law) (defScope s_law) .none kV52 dc52 pm52 an52 cd52 ct52, [(cc30, PP30), (cc49, PP49)], spLaw K (lamT T), ⟨(fun p hp => by rcases List.mem_cons.mp hp with hp | hp; (rw [hp]; exact ct30_.2); rcases List.mem_cons.mp hp with hp | hp; (rw [hp]; exact ct49_.2); cases hp), (fun p hp => by rcases List.mem_cons.mp hp with hp | hp; (rw [hp]; exact tn30); rcases List.mem_cons.mp hp with hp | hp; (rw [hp]; exact tn49); cases hp), (fun p hp => by rcases List.mem_cons.mp hp with hp | hp; (rw [hp]; exact ct30_.1); rcases List.mem_cons.mp hp with hp | hp; (rw [hp]; exact ct49_.1); cases hp)⟩, fun s v => .of_eq rfl, (fun H a ns hl hH hS => ⟨a, ns, rfl, hS, hl, (fun p hp => by rcases List.mem_cons.mp hp with hp | hp; (rw [hp]; exact LamX.TabS.nil (hH _ (List.mem_cons.mpr (Or.inl rfl)))); rcases List.mem_cons.mp hp with hp | hp; (rw [hp]; exact LamX.TabS.nil (hH _ (List.mem_cons.mpr (Or.inr (List.mem_cons.mpr (Or.inl rfl)))))); cases hp), fun _ => rfl⟩), fun base _ _ TB => ok_law T ⟨TB _ (List.mem_cons.mpr (Or.inl rfl)), TB _ (List.mem_cons.mpr (Or.inr (List.mem_cons.mpr (Or.inl rfl))))⟩ F52⟩
end KB
open PySem PySem.W PyProof.Rows
set_option maxRecDepth 100000 in
set_option maxHeartbeats 0 in
theorem PySem.Challenge.cw_pearlrise_k94_whole_things_compared_holds : PySem.Challenge.rw_pearlrise_k94_whole_things_compared.Holds := by
  w_on; o_law; k_head; (case hw => w_witness2)
  k_fill
  refine KA.walk_tabG (l := PySem.Challenge.rw_pearlrise_k94_whole_things_compared) (n := 63) (k := 20) (x := "_law_script") rfl (by decide) rfl ⟨rfl, by decide, by decide⟩ (fun w h Y => PySem.W.km_in_of Y) ?F
  case F =>
    intro w mg fa h KX G hmg TT
    refine' KB.all_mk KX G hmg ?aC_Bead ?pg_Bead ?hd_Bead ?po_Bead ?sa_Bead ?mk_Bead ?kc_Bead ?n_Bead_number ?n_Bead_across ?n_Bead_weight ?n_Bead_shade ?n_Bead_form ?n_Bead_drilled ?aC_Rule ?pg_Rule ?hd_Rule ?po_Rule ?sa_Rule ?mk_Rule ?kc_Rule ?n_Rule_least ?n_Rule_most ?n_Rule_match ?n_Rule_shades ?aC_String ?pg_String ?hd_String ?po_String ?sa_String ?mk_String ?kc_String ?n_String_held ?n_String_rule ?aC_Lot ?pg_Lot ?hd_Lot ?po_Lot ?sa_Lot ?mk_Lot ?kc_Lot ?n_Lot_name ?n_Lot_room ?n_Lot_least ?n_Lot_most ?n_Lot_shades ?aC_Share ?pg_Share ?hd_Share ?po_Share ?sa_Share ?mk_Share ?kc_Share ?n_Share_num ?n_Share_over ?a0 ?l0 ?c0 ?k0 ?a1 ?l1 ?c1 ?k1 ?a2 ?l2 ?c2 ?k2 ?a3 ?l3 ?c3 ?k3 ?a4 ?l4 ?c4 ?k4 ?a5 ?l5 ?c5 ?k5 ?a6 ?i6 ?l6 ?d6 ?c6 ?k6 ?a7 ?i7 ?l7 ?c7 ?k7 ?a8 ?i8 ?l8 ?c8 ?k8 ?a9 ?l9 ?c9 ?k9 ?a10 ?l10 ?c10 ?k10 ?a11 ?l11 ?c11 ?k11 ?a12 ?l12 ?c12 ?k12 ?a13 ?l13 ?c13 ?k13 ?a14 ?l14 ?c14 ?k14 ?a15 ?i15 ?l15 ?c15 ?k15 ?a16 ?i16 ?l16 ?c16 ?k16 ?a17 ?i17 ?l17 ?c17 ?k17 ?a18 ?i18 ?l18 ?c18 ?k18 ?a19 ?i19 ?l19 ?c19 ?k19 ?a20 ?i20 ?l20 ?c20 ?k20 ?a21 ?i21 ?l21 ?c21 ?k21 ?a22 ?l22 ?c22 ?k22 ?a23 ?i23 ?l23 ?d23 ?c23 ?k23 ?a24 ?i24 ?l24 ?c24 ?k24 ?a25 ?i25 ?l25 ?c25 ?k25 ?a26 ?i26 ?l26 ?c26 ?k26 ?a27 ?i27 ?l27 ?c27 ?k27 ?a28 ?i28 ?l28 ?c28 ?k28 ?a29 ?l29 ?c29 ?k29 ?a30 ?l30 ?c30 ?k30 ?t30 ?tn30 ?ct30_ ?a31 ?l31 ?c31 ?k31 ?a32 ?l32 ?c32 ?k32 ?a33 ?l33 ?c33 ?k33 ?a34 ?i34 ?l34 ?d34 ?c34 ?k34 ?a35 ?i35 ?l35 ?c35 ?k35 ?a36 ?i36 ?l36 ?c36 ?k36 ?a37 ?i37 ?l37 ?c37 ?k37 ?a38 ?l38 ?c38 ?k38 ?a39 ?i39 ?l39 ?d39 ?c39 ?k39 ?a40 ?i40 ?l40 ?c40 ?k40 ?a41 ?i41 ?l41 ?c41 ?k41 ?a42 ?l42 ?c42 ?k42 ?a43 ?l43 ?c43 ?k43 ?a44 ?l44 ?c44 ?k44 ?a45 ?l45 ?c45 ?k45 ?a46 ?l46 ?c46 ?k46 ?a47 ?l47 ?c47 ?k47 ?a48 ?l48 ?c48 ?k48 ?a49 ?l49 ?c49 ?k49 ?t49 ?tn49 ?ct49_ ?a50 ?l50 ?c50 ?k50 ?a51 ?l51 ?c51 ?k51 ?a52 ?l52 ?c52 ?k52 ?q0 ?q1 ?q2 ?q3 ?q4 ?q5 ?q6 ?z0 ?z1 ?z2 ?z3 ?z4 ?z5 ?z6 ?z7 ?z8 ?z9 ?z10 ?z11 ?z12 ?z13 ?z14 ?z15 ?z16 ?z17 ?ir1_Bead ?ir4_Bead ?hne_Bead ?ir1_Rule ?ir4_Rule ?hne_Rule ?ir1_String ?ir4_String ?hne_String ?ir1_Lot ?ir4_Lot ?hne_Lot ?ir1_Share ?ir4_Share ?hne_Share ?xcg ?xct ?sn_int ?su_int ?no_int ?sn_str ?su_str ?no_str ?sn_bool ?su_bool ?no_bool ?sn_NoneType ?su_NoneType ?no_NoneType ?sn_list ?su_list ?no_list ?sn_tuple ?su_tuple ?no_tuple ?snL_int ?suL_int ?noL_int ?snL_str ?suL_str ?noL_str ?snL_bool ?suL_bool ?noL_bool ?snL_NoneType ?suL_NoneType ?noL_NoneType ?snL_list ?suL_list ?noL_list ?snL_tuple ?suL_tuple ?noL_tuple ?snH_int ?suH_int ?noH_int ?snH_str ?suH_str ?noH_str ?snH_bool ?suH_bool ?noH_bool ?snH_NoneType ?suH_NoneType ?noH_NoneType ?snH_list ?suH_list ?noH_list ?snH_tuple ?suH_tuple ?noH_tuple ?snS_int ?suS_int ?noS_int ?snS_str ?suS_str ?noS_str ?snS_bool ?suS_bool ?noS_bool ?snS_NoneType ?suS_NoneType ?noS_NoneType ?snS_list ?suS_list ?noS_list ?snS_tuple ?suS_tuple ?noS_tuple ?su_LR ?no_LR ?bb_Bead ?bb_String ?bb_Lot ?bl_Bead ?pp_ne
    (case aC_Bead => k_is)
    (case pg_Bead => k_is)
    (case hd_Bead => k_is)
    (case po_Bead => k_is)
    (case sa_Bead => k_is)
    (case mk_Bead => k_is)
    (case kc_Bead => k_is)
    (case n_Bead_number => k_is)
    (case n_Bead_across => k_is)
    (case n_Bead_weight => k_is)
    (case n_Bead_shade => k_is)
    (case n_Bead_form => k_is)
    (case n_Bead_drilled => k_is)
    (case aC_Rule => k_is)
    (case pg_Rule => k_is)
    (case hd_Rule => k_is)
    (case po_Rule => k_is)
    (case sa_Rule => k_is)
    (case mk_Rule => k_is)
    (case kc_Rule => k_is)
    (case n_Rule_least => k_is)
    (case n_Rule_most => k_is)
    (case n_Rule_match => k_is)
    (case n_Rule_shades => k_is)
    (case aC_String => k_is)
    (case pg_String => k_is)
    (case hd_String => k_is)
    (case po_String => k_is)
    (case sa_String => k_is)
    (case mk_String => k_is)
    (case kc_String => k_is)
    (case n_String_held => k_is)
    (case n_String_rule => k_is)
    (case aC_Lot => k_is)
    (case pg_Lot => k_is)
    (case hd_Lot => k_is)
    (case po_Lot => k_is)
    (case sa_Lot => k_is)
    (case mk_Lot => k_is)
    (case kc_Lot => k_is)
    (case n_Lot_name => k_is)
    (case n_Lot_room => k_is)
    (case n_Lot_least => k_is)
    (case n_Lot_most => k_is)
    (case n_Lot_shades => k_is)
    (case aC_Share => k_is)
    (case pg_Share => k_is)
    (case hd_Share => k_is)
    (case po_Share => k_is)
    (case sa_Share => k_is)
    (case mk_Share => k_is)
    (case kc_Share => k_is)
    (case n_Share_num => k_is)
    (case n_Share_over => k_is)
    (case a0 => k_is)
    (case l0 => k_is)
    (case c0 => k_is)
    (case k0 => k_is)
    (case a1 => k_is)
    (case l1 => k_is)
    (case c1 => k_is)
    (case k1 => k_is)
    (case a2 => k_is)
    (case l2 => k_is)
    (case c2 => k_is)
    (case k2 => k_is)
    (case a3 => k_is)
    (case l3 => k_is)
    (case c3 => k_is)
    (case k3 => k_is)
    (case a4 => k_is)
    (case l4 => k_is)
    (case c4 => k_is)
    (case k4 => k_is)
    (case a5 => k_is)
    (case l5 => k_is)
    (case c5 => k_is)
    (case k5 => k_is)
    (case a6 => k_is)
    (case i6 => k_is)
    (case l6 => k_is)
    (case d6 => k_is)
    (case c6 => k_is)
    (case k6 => k_is)
    (case a7 => k_is)
    (case i7 => k_is)
    (case l7 => k_is)
    (case c7 => k_is)
    (case k7 => k_is)
    (case a8 => k_is)
    (case i8 => k_is)
    (case l8 => k_is)
    (case c8 => k_is)
    (case k8 => k_is)
    (case a9 => k_is)
    (case l9 => k_is)
    (case c9 => k_is)
    (case k9 => k_is)
    (case a10 => k_is)
    (case l10 => k_is)
    (case c10 => k_is)
    (case k10 => k_is)
    (case a11 => k_is)
    (case l11 => k_is)
    (case c11 => k_is)
    (case k11 => k_is)
    (case a12 => k_is)
    (case l12 => k_is)
    (case c12 => k_is)
    (case k12 => k_is)
    (case a13 => k_is)
    (case l13 => k_is)
    (case c13 => k_is)
    (case k13 => k_is)
    (case a14 => k_is)
    (case l14 => k_is)
    (case c14 => k_is)
    (case k14 => k_is)
    (case a15 => k_is)
    (case i15 => k_is)
    (case l15 => k_is)
    (case c15 => k_is)
    (case k15 => k_is)
    (case a16 => k_is)
    (case i16 => k_is)
    (case l16 => k_is)
    (case c16 => k_is)
    (case k16 => k_is)
    (case a17 => k_is)
    (case i17 => k_is)
    (case l17 => k_is)
    (case c17 => k_is)
    (case k17 => k_is)
    (case a18 => k_is)
    (case i18 => k_is)
    (case l18 => k_is)
    (case c18 => k_is)
    (case k18 => k_is)
    (case a19 => k_is)
    (case i19 => k_is)
    (case l19 => k_is)
    (case c19 => k_is)
    (case k19 => k_is)
    (case a20 => k_is)
    (case i20 => k_is)
    (case l20 => k_is)
    (case c20 => k_is)
    (case k20 => k_is)
    (case a21 => k_is)
    (case i21 => k_is)
    (case l21 => k_is)
    (case c21 => k_is)
    (case k21 => k_is)
    (case a22 => k_is)
    (case l22 => k_is)
    (case c22 => k_is)
    (case k22 => k_is)
    (case a23 => k_is)
    (case i23 => k_is)
    (case l23 => k_is)
    (case d23 => k_is)
    (case c23 => k_is)
    (case k23 => k_is)
    (case a24 => k_is)
    (case i24 => k_is)
    (case l24 => k_is)
    (case c24 => k_is)
    (case k24 => k_is)
    (case a25 => k_is)
    (case i25 => k_is)
    (case l25 => k_is)
    (case c25 => k_is)
    (case k25 => k_is)
    (case a26 => k_is)
    (case i26 => k_is)
    (case l26 => k_is)
    (case c26 => k_is)
    (case k26 => k_is)
    (case a27 => k_is)
    (case i27 => k_is)
    (case l27 => k_is)
    (case c27 => k_is)
    (case k27 => k_is)
    (case a28 => k_is)
    (case i28 => k_is)
    (case l28 => k_is)
    (case c28 => k_is)
    (case k28 => k_is)
    (case a29 => k_is)
    (case l29 => k_is)
    (case c29 => k_is)
    (case k29 => k_is)
    (case a30 => k_is)
    (case l30 => k_is)
    (case c30 => k_is)
    (case k30 => k_is)
    (case t30 => rfl)
    (case tn30 => first | k_is | kernel_rfl)
    (case ct30_ => exact TT "in_order" _ _ (by decide +kernel) (by kernel_rfl))
    (case a31 => k_is)
    (case l31 => k_is)
    (case c31 => k_is)
    (case k31 => k_is)
    (case a32 => k_is)
    (case l32 => k_is)
    (case c32 => k_is)
    (case k32 => k_is)
    (case a33 => k_is)
    (case l33 => k_is)
    (case c33 => k_is)
    (case k33 => k_is)
    (case a34 => k_is)
    (case i34 => k_is)
    (case l34 => k_is)
    (case d34 => k_is)
    (case c34 => k_is)
    (case k34 => k_is)
    (case a35 => k_is)
    (case i35 => k_is)
    (case l35 => k_is)
    (case c35 => k_is)
    (case k35 => k_is)
    (case a36 => k_is)
    (case i36 => k_is)
    (case l36 => k_is)
    (case c36 => k_is)
    (case k36 => k_is)
    (case a37 => k_is)
    (case i37 => k_is)
    (case l37 => k_is)
    (case c37 => k_is)
    (case k37 => k_is)
    (case a38 => k_is)
    (case l38 => k_is)
    (case c38 => k_is)
    (case k38 => k_is)
    (case a39 => k_is)
    (case i39 => k_is)
    (case l39 => k_is)
    (case d39 => k_is)
    (case c39 => k_is)
    (case k39 => k_is)
    (case a40 => k_is)
    (case i40 => k_is)
    (case l40 => k_is)
    (case c40 => k_is)
    (case k40 => k_is)
    (case a41 => k_is)
    (case i41 => k_is)
    (case l41 => k_is)
    (case c41 => k_is)
    (case k41 => k_is)
    (case a42 => k_is)
    (case l42 => k_is)
    (case c42 => k_is)
    (case k42 => k_is)
    (case a43 => k_is)
    (case l43 => k_is)
    (case c43 => k_is)
    (case k43 => k_is)
    (case a44 => k_is)
    (case l44 => k_is)
    (case c44 => k_is)
    (case k44 => k_is)
    (case a45 => k_is)
    (case l45 => k_is)
    (case c45 => k_is)
    (case k45 => k_is)
    (case a46 => k_is)
    (case l46 => k_is)
    (case c46 => k_is)
    (case k46 => k_is)
    (case a47 => k_is)
    (case l47 => k_is)
    (case c47 => k_is)
    (case k47 => k_is)
    (case a48 => k_is)
    (case l48 => k_is)
    (case c48 => k_is)
    (case k48 => k_is)
    (case a49 => k_is)
    (case l49 => k_is)
    (case c49 => k_is)
    (case k49 => k_is)
    (case t49 => rfl)
    (case tn49 => first | k_is | kernel_rfl)
    (case ct49_ => exact TT "_law_beads" _ _ (by decide +kernel) (by kernel_rfl))
    (case a50 => k_is)
    (case l50 => k_is)
    (case c50 => k_is)
    (case k50 => k_is)
    (case a51 => k_is)
    (case l51 => k_is)
    (case c51 => k_is)
    (case k51 => k_is)
    (case a52 => k_is)
    (case l52 => k_is)
    (case c52 => k_is)
    (case k52 => k_is)
    (case q0 => k_is)
    (case q1 => k_is)
    (case q2 => k_is)
    (case q3 => k_is)
    (case q4 => k_is)
    (case q5 => k_is)
    (case q6 => k_is)
    (case z0 => k_is)
    (case z1 => k_is)
    (case z2 => k_is)
    (case z3 => k_is)
    (case z4 => k_is)
    (case z5 => k_is)
    (case z6 => k_is)
    (case z7 => k_is)
    (case z8 => k_is)
    (case z9 => k_is)
    (case z10 => k_is)
    (case z11 => k_is)
    (case z12 => k_is)
    (case z13 => k_is)
    (case z14 => k_is)
    (case z15 => k_is)
    (case z16 => k_is)
    (case z17 => k_is)
    (case ir1_Bead => k_is)
    (case ir4_Bead => k_is)
    (case hne_Bead => k_is)
    (case ir1_Rule => k_is)
    (case ir4_Rule => k_is)
    (case hne_Rule => k_is)
    (case ir1_String => k_is)
    (case ir4_String => k_is)
    (case hne_String => k_is)
    (case ir1_Lot => k_is)
    (case ir4_Lot => k_is)
    (case hne_Lot => k_is)
    (case ir1_Share => k_is)
    (case ir4_Share => k_is)
    (case hne_Share => k_is)
    (case xcg => k_is)
    (case xct => k_is)
    (case sn_int => k_is)
    (case su_int => k_is)
    (case no_int => kit_is)
    (case sn_str => k_is)
    (case su_str => k_is)
    (case no_str => kit_is)
    (case sn_bool => k_is)
    (case su_bool => k_is)
    (case no_bool => kit_is)
    (case sn_NoneType => k_is)
    (case su_NoneType => k_is)
    (case no_NoneType => kit_is)
    (case sn_list => k_is)
    (case su_list => k_is)
    (case no_list => kit_is)
    (case sn_tuple => k_is)
    (case su_tuple => k_is)
    (case no_tuple => kit_is)
    (case snL_int => k_is)
    (case suL_int => k_is)
    (case noL_int => kit_is)
    (case snL_str => k_is)
    (case suL_str => k_is)
    (case noL_str => kit_is)
    (case snL_bool => k_is)
    (case suL_bool => k_is)
    (case noL_bool => kit_is)
    (case snL_NoneType => k_is)
    (case suL_NoneType => k_is)
    (case noL_NoneType => kit_is)
    (case snL_list => k_is)
    (case suL_list => k_is)
    (case noL_list => kit_is)
    (case snL_tuple => k_is)
    (case suL_tuple => k_is)
    (case noL_tuple => kit_is)
    (case snH_int => k_is)
    (case suH_int => k_is)
    (case noH_int => kit_is)
    (case snH_str => k_is)
    (case suH_str => k_is)
    (case noH_str => kit_is)
    (case snH_bool => k_is)
    (case suH_bool => k_is)
    (case noH_bool => kit_is)
    (case snH_NoneType => k_is)
    (case suH_NoneType => k_is)
    (case noH_NoneType => kit_is)
    (case snH_list => k_is)
    (case suH_list => k_is)
    (case noH_list => kit_is)
    (case snH_tuple => k_is)
    (case suH_tuple => k_is)
    (case noH_tuple => kit_is)
    (case snS_int => k_is)
    (case suS_int => k_is)
    (case noS_int => kit_is)
    (case snS_str => k_is)
    (case suS_str => k_is)
    (case noS_str => kit_is)
    (case snS_bool => k_is)
    (case suS_bool => k_is)
    (case noS_bool => kit_is)
    (case snS_NoneType => k_is)
    (case suS_NoneType => k_is)
    (case noS_NoneType => kit_is)
    (case snS_list => k_is)
    (case suS_list => k_is)
    (case noS_list => kit_is)
    (case snS_tuple => k_is)
    (case suS_tuple => k_is)
    (case noS_tuple => kit_is)
    (case su_LR => k_is)
    (case no_LR => kit_is)
    (case bb_Bead => k_is)
    (case bb_String => k_is)
    (case bb_Lot => k_is)
    (case bl_Bead => k_is)
    (case pp_ne => decide +kernel)
